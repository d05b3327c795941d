package apart

import "sesame/api"

// SeenBy is Seen with other calls left out than the quiet ones: whatever W5 doesn't speak of can be seen.
func SeenBy(c api.Config, draws []api.Word, calls []api.Call, p int, quiet func(api.Call, api.Reply, int) bool) (int, api.Errno) {
	parted := parting{proc: p, quiet: func(s step) bool { return quiet(s.call, s.reply, s.taken) }}
	return parted.seen(c, draws, calls)
}

// Alike tells whether two replies count as the same.
func Alike(x, y api.Reply, stains []int) bool { return alike(x, y, stains) }
