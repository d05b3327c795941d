package image

import (
	"sesame/api"
	"sesame/mask"
	"sesame/wide"
)

// The rules of a state, by the numbers that Check answers; each may lean on those ahead of it.
const (
	whole = iota // none is broken
	ofConfig
	ofObjects
	ofNextId
	ofTokens
	ofKin
	ofWords
	ofProcesses
	ofTaken
)

// Check tells the first rule that a state breaks.
func Check(c api.Config, s api.State, draws int) int {
	rule := ofConfig
next:
	if !holds(rule, c, s, draws) {
		return rule
	}
	if rule < ofTaken {
		rule++
		goto next
	}
	return whole
}

// holds asks one rule of a state that keeps those ahead of it.
func holds(rule int, c api.Config, s api.State, draws int) bool {
	switch rule {
	case ofConfig:
		return configHolds(c)
	case ofObjects:
		return objectsHold(c, s.Objects)
	case ofNextId:
		return nextIdHolds(s)
	case ofTokens:
		return tokensHold(c, s)
	case ofKin:
		return kinHolds(s.Tokens)
	case ofWords:
		return wordsHold(c.Width, s.Tokens)
	case ofProcesses:
		return processesHold(c, s)
	}
	return within(s.Taken, 0, draws)
}

func within(n, least, most int) bool { return least <= n && n <= most }

func configHolds(c api.Config) bool {
	return within(c.Width, 1, api.MaxWidth) &&
		within(c.Objects, 1, api.MaxObjects) &&
		within(c.Pages, 1, api.MaxPages) &&
		within(c.Entries, 1, api.MaxEntries) &&
		within(c.Quota, 1, api.MaxQuota) &&
		within(c.Procs, 1, api.MaxProcs) &&
		within(c.List, 1, api.MaxList) &&
		within(c.Sets, 0, api.MaxSets) &&
		within(c.Ways, 1, api.MaxWays) &&
		within(c.Knob, 0, api.MaxKnob)
}

func objectsHold(c api.Config, objects []api.Object) bool {
	if len(objects) > c.Objects {
		return false
	}
	least, pages := 1, 0
	for _, o := range objects {
		if !within(o.Id, least, api.MaxId) || len(o.Bytes) > api.MaxBytes {
			return false
		}
		least = o.Id + 1
		pages += (len(o.Bytes) + api.PageBytes - 1) / api.PageBytes
	}
	return pages <= c.Pages
}

// nextIdHolds looks at the last object alone: the Ids rise.
func nextIdHolds(s api.State) bool {
	least := 1
	if n := len(s.Objects); n > 0 {
		least = s.Objects[n-1].Id + 1
	}
	return within(s.NextId, least, api.MaxId+1)
}

// tokensHold goes along the objects: each has its tokens just behind those of the one ahead, and behind the last one's there are no more.
func tokensHold(c api.Config, s api.State) bool {
	if len(s.Tokens) > c.Entries {
		return false
	}
	rest := s.Tokens
	for _, o := range s.Objects {
		n := leading(rest, o.Id)
		if !within(n, 1, c.Quota) {
			return false
		}
		rest = rest[n:]
	}
	return len(rest) == 0
}

// leading tells how many tokens of an object a list begins with.
func leading(tokens []api.Token, id int) int {
	for at, token := range tokens {
		if token.Cap.Obj != id {
			return at
		}
	}
	return len(tokens)
}

func kinHolds(tokens []api.Token) bool {
	for at, token := range tokens {
		if isFirst(tokens, at) {
			if token.Parent != none || token.Rights != api.All {
				return false
			}
			continue
		}
		if !isAbove(tokens, token.Parent, at-1) || !mask.Part(token.Rights, tokens[token.Parent].Rights) {
			return false
		}
	}
	return true
}

// isFirst: does an object's list of tokens begin at this place?
func isFirst(tokens []api.Token, at int) bool {
	return at == 0 || tokens[at-1].Cap.Obj != tokens[at].Cap.Obj
}

// isAbove tells whether a place is met on the way from another to its root, that other included. The tokens up to there keep the rule: so the way ends, and stays within the object.
func isAbove(tokens []api.Token, place, from int) bool {
	for from != none {
		if from == place {
			return true
		}
		from = tokens[from].Parent
	}
	return false
}

func wordsHold(width int, tokens []api.Token) bool {
	seen := map[api.Cap]struct{}{}
	for _, token := range tokens {
		if !wide.Fits(token.Cap.Pass, width) {
			return false
		}
		seen[token.Cap] = struct{}{}
	}
	return len(seen) == len(tokens)
}

func processesHold(c api.Config, s api.State) bool {
	if len(s.Processes) > c.Procs {
		return false
	}
	least := 0
	for _, p := range s.Processes {
		if !within(p.Number, least, api.MaxNumber) || !listHolds(c, p.List) {
			return false
		}
		least = p.Number + 1
	}
	return within(s.NextProc, max(least, 1), api.MaxNumber+1)
}

func listHolds(c api.Config, list []api.Cap) bool {
	if len(list) > c.List {
		return false
	}
	for _, x := range list {
		if !within(x.Obj, 0, api.MaxId) || !wide.Fits(x.Pass, c.Width) {
			return false
		}
	}
	return true
}
