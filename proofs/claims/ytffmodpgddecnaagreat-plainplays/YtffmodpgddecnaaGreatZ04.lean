import Derived.Maps.OwnSet
import Derived.Lib.SlKeysI
import Derived.Test.YtffmodpgddecnaaGreatZ02
set_option linter.unusedVariables false
namespace Go.Proofs.YtffmodpgddecnaaGreat.S
open Go.RowKit
structure Ob where
 id:Int
 data:List Nat
 pages:List Nat
 adr:Option Addr
def Ob.val (o:Ob):Value:=.agg #[.int .i64 (o.data.length:Int),.slice o.adr o.pages.length o.pages.length]
def hr:Value→Option (DataW Value×List MemPlace):=fun v=>some (.held v,[])
def ent (o:Ob):Lit×DataW Value:=(.int .i64 o.id,.held o.val)
def mapD (Os:List Ob):DataW Value:=.map (Os.map ent)
theorem owns_but {S:Nat→Prop}{w w':World}{k:TypeId}{R:Value→Option (DataW Value×List MemPlace)}{b n:Nat}{D:DataW Value}(hb:But S w w')(h:w.ownsMap Tryz.prog k R b n D)(hn:¬S b):w'.ownsMap Tryz.prog k R b n D:=by
 have hl:=h.lt
 obtain⟨es,clock,hh,r⟩:=h
 exact⟨es,clock,by rw [hb.block b hl hn];exact hh,r⟩
def allP (Os:List Ob):List Nat:=Os.flatMap Ob.pages
theorem lst_both (n:Nat)(t:Nat→Bool):(lst n t false).length+(lst n t true).length=n:=by
 induction n with
 | zero=>simp [lst]
 | succ n ih =>
  rw [lst_succ,lst_succ]
  cases t n<;>simp<;>omega
theorem lst_nodup (n:Nat)(t:Nat→Bool)(b:Bool):(lst n t b).Nodup:=List.Pairwise.filter _ List.nodup_range
theorem lst_count {n:Nat}{t:Nat→Bool}{L:List Nat}(hL:L.Nodup)(hn:∀i∈L,i<n)(ht:∀i,t i=decide (i∈L)):(lst n t false).length+L.length=n:=by
 have h:=lst_both n t
 have hp:(lst n t true).Perm L:=(List.perm_ext_iff_of_nodup (lst_nodup _ _ _) hL).2 fun i=>by
  rw [mem_lst,ht i]
  simp only [decide_eq_true_eq]
  exact⟨fun h=>h.2,fun h=>⟨hn i h,h⟩⟩
 rw [hp.length_eq] at h
 exact h
def needN (s:Nat):Nat:=(s+63) / 64
def usedN (Os:List Ob):Nat:=(Os.map fun o=>needN o.data.length).sum
theorem allP_length (Os:List Ob)(h:∀o∈Os,o.pages.length=needN o.data.length):(allP Os).length=usedN Os:=by
 induction Os with
 | nil=>rfl
 | cons o r ih =>
  have h1:=h o (by simp)
  have h2:=ih (fun p hp=>h p (by simp [hp]))
  simp only [allP,List.flatMap_cons,List.length_append,usedN,List.map_cons,List.sum_cons] at h1 h2 ⊢
  omega
end Go.Proofs.YtffmodpgddecnaaGreat.S
namespace Go.Proofs.YtffmodpgddecnaaGreat.S
open Go.RowKit
structure Sto (w:World)(s g pb m n room:Nat)(nx:Int)(t:Nat→Bool)(B:Nat→Nat→Nat)(Os:List Ob):Prop where
 arn:Arn w g pb n t B
 c0:Lies w ⟨s,0,none⟩ (.pointer (some ⟨g,0,none⟩))
 c1:Lies w ⟨s,1,none⟩ (.map (some m))
 c2:Lies w ⟨s,2,none⟩ (.int .i64 (room:Int))
 c3:Lies w ⟨s,3,none⟩ (.int .i64 nx)
 map:w.ownsMap Tryz.prog 3 hr m Os.length (mapD Os)
 sg:s≠g
 sp:s≠pb
 sm:s≠m
 gm:g≠m
 pm:pb≠m
 rows:∀o∈Os,Row w o.adr o.pages.length o.pages.length (ints (nats o.pages))
 off:∀o∈Os,∀k,Blk o.adr k→k≠s∧k≠g∧k≠pb∧k≠m∧k<w.heap.size
 len:∀o∈Os,o.pages.length=needN o.data.length
 nd:(allP Os).Nodup
 tks:∀i,t i=decide (i∈allP Os)
 bytes:∀o∈Os,∀j,j<o.data.length→B (o.pages.getD (j / 64) 0) (j%64)=o.data.getD j 0
 rise:Os.Pairwise (fun a b=>a.id<b.id)
 ids:∀o∈Os,1≤o.id∧o.id<nx
 nx1:1≤nx∧nx≤4611686018427387905
 rm:Os.length≤room∧room≤64
 big:∀o∈Os,o.data.length≤4096
def Sb (s g pb m:Nat)(k:Nat):Prop:=k=s∨k=g∨k=pb∨k=m
def Rb (Os:List Ob)(k:Nat):Prop:=∃o∈Os,Blk o.adr k
theorem Sto.but {S:Nat→Prop}{w w':World}{s g pb m n room:Nat}{nx:Int}{t:Nat→Bool}{B:Nat→Nat→Nat}{Os:List Ob}(hb:But S w w')(h:Sto w s g pb m n room nx t B Os)(h1:∀k,Sb s g pb m k→¬S k)(h2:∀k,Rb Os k→¬S k):Sto w' s g pb m n room nx t B Os :=
 {h with
  arn:=h.arn.but hb (h1 _ (.inr (.inl rfl))) (h1 _ (.inr (.inr (.inl rfl))))
  c0:=h.c0.but hb (h1 _ (.inl rfl))
  c1:=h.c1.but hb (h1 _ (.inl rfl))
  c2:=h.c2.but hb (h1 _ (.inl rfl))
  c3:=h.c3.but hb (h1 _ (.inl rfl))
  map:=owns_but hb h.map (h1 _ (.inr (.inr (.inr rfl))))
  rows:=fun o ho=>(h.rows o ho).but hb (fun k hk=>h2 k ⟨o,ho,hk⟩)
  off:=fun o ho k hk=>by
   obtain⟨a,b,c,d,e⟩:=h.off o ho k hk
   exact⟨a,b,c,d,Nat.lt_of_lt_of_le e hb.size⟩ }
theorem Sto.later {w w':World}{s g pb m n room:Nat}{nx:Int}{t:Nat→Bool}{B:Nat→Nat→Nat}{Os:List Ob}(hb:Below w.heap.size w w')(h:Sto w s g pb m n room nx t B Os):Sto w' s g pb m n room nx t B Os :=
 h.but (S:=fun _=>False) (But.of hb) (fun _ _ h=>h) (fun _ _ h=>h)
theorem Sto.count {w:World}{s g pb m n room:Nat}{nx:Int}{t:Nat→Bool}{B:Nat→Nat→Nat}{Os:List Ob}(h:Sto w s g pb m n room nx t B Os):(lst n t false).length+usedN Os=n:=by
 rw [←allP_length Os h.len]
 refine lst_count h.nd (fun i hi=>h.arn.only i ?_) h.tks
 rw [h.tks i]
 exact decide_eq_true hi
theorem Sto.small {w:World}{s g pb m n room:Nat}{nx:Int}{t:Nat→Bool}{B:Nat→Nat→Nat}{Os:List Ob}(h:Sto w s g pb m n room nx t B Os){o:Ob}(ho:o∈Os):∀x∈o.data,x<256:=by
 intro x hx
 obtain⟨j,hj,rfl⟩:=List.getElem_of_mem hx
 have:=h.bytes o ho j hj
 rw [List.getD_eq_getElem?_getD,List.getD_eq_getElem?_getD,List.getElem?_eq_getElem hj] at this
 simp only [Option.getD_some] at this
 rw [←this]
 exact h.arn.small _ _
end Go.Proofs.YtffmodpgddecnaaGreat.S
namespace Go.Proofs.YtffmodpgddecnaaGreat.S
open Go.RowKit
end Go.Proofs.YtffmodpgddecnaaGreat.S
namespace Go.Proofs.YtffmodpgddecnaaGreat.S
open Go.RowKit
def ivN:Value→Nat
 | .int _ a=>a.toNat
 | _=>0
end Go.Proofs.YtffmodpgddecnaaGreat.S
namespace Go.Proofs.YtffmodpgddecnaaGreat.S
open Go.RowKit
def putL (L D:List Nat)(off:Nat):List Nat:=L.take off++D++L.drop (off+D.length)
end Go.Proofs.YtffmodpgddecnaaGreat.S
