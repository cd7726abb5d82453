import Derived.Test.YtgnncnhkgmhngaaGreatDoorJ05
import Derived.Laws.AppendOwn
import Derived.Below
namespace Go.Proofs.YtgnncnhkgmhngaaGreatDoor
open Go.RowKit
theorem owns_cells {w:World} {base:Nat} {e:TypeId} {size g n cap:Nat} {xs:List Value} (h:w.ownsRow base e size (.slice (some ⟨g,0,none⟩) n cap) n xs):∀ j u,xs[j]?=some u->w.cell? ⟨g,j,none⟩=some u:=by
 obtain ⟨hl,h | ⟨g',cap',cur,hv,_,hb,_,_,_,ht⟩⟩:=h
 ·cases h.1
 ·injection hv with h1 h2 h3
  injection h1 with h1
  injection h1 with h1
  subst h1
  intro j u hj
  have hlt:j<xs.length:=(List.getElem?_eq_some_iff.1 hj).1
  rw [<- ht,List.getElem?_take_of_lt (by omega)] at hj
  simp [World.cell?,hb]
  simpa using hj
theorem owns_lt {w:World} {base:Nat} {e:TypeId} {size g n cap:Nat} {xs:List Value} (h:w.ownsRow base e size (.slice (some ⟨g,0,none⟩) n cap) n xs):base<=g/\g<w.heap.size:=by
 obtain ⟨hl,h | ⟨g',cap',cur,hv,h0,hb,_,_,_,ht⟩⟩:=h
 ·cases h.1
 ·injection hv with h1 h2 h3
  injection h1 with h1
  injection h1 with h1
  subst h1
  refine ⟨h0,?_⟩
  rcases Nat.lt_or_ge g w.heap.size with x | x
  ·exact x
  ·rw [Array.getElem?_eq_none x] at hb;cases hb
theorem owns_same {w w' : World} {base:Nat} {e:TypeId} {size g n cap:Nat} {xs:List Value} (h:w.ownsRow base e size (.slice (some ⟨g,0,none⟩) n cap) n xs) (hk:w'.heap[g]?=w.heap[g]?):w'.ownsRow base e size (.slice (some ⟨g,0,none⟩) n cap) n xs:=by
 obtain ⟨hl,h | ⟨g',cap',cur,hv,h0,hb,r⟩⟩:=h
 ·cases h.1
 ·injection hv with h1 h2 h3
  injection h1 with h1
  injection h1 with h1
  subst h1 h3
  exact ⟨hl, .inr ⟨g,cap,cur,rfl,h0,hk.trans hb,r⟩⟩
theorem ownsV_below {w w' : World} {base:Nat} {e:TypeId} {size:Nat} {v:Value} {n:Nat} {xs:List Value} (h:w.ownsRow base e size v n xs) (hb:Below w.heap.size w w'):w'.ownsRow base e size v n xs:=by
 obtain ⟨h1,h2⟩:=h
 refine ⟨h1,?_⟩
 rcases h2 with h | ⟨g,cap,cur,hv,hg,hc,r⟩
 ·exact Or.inl h
 ·refine Or.inr ⟨g,cap,cur,hv,hg,?_,r⟩
  have hlt:g<w.heap.size:=by
   rcases Nat.lt_or_ge g w.heap.size with x | x
   ·exact x
   ·rw [Array.getElem?_eq_none x] at hc;cases hc
  rw [hb.block g hlt];exact hc
theorem ownsV_block {w:World} {base:Nat} {e:TypeId} {size:Nat} {v:Value} {n:Nat} {xs:List Value} (h:w.ownsRow base e size v n xs):∀ k,v.ownBlock=some k->base<=k/\k<w.heap.size:=by
 intro k hk
 rcases h.2 with ⟨rfl,_⟩ | ⟨g,cap,cur,rfl,hg,hc,_⟩
 ·cases hk
 ·have:g=k:=by simpa [Value.ownBlock] using hk
  subst this
  refine ⟨hg,?_⟩
  rcases Nat.lt_or_ge g w.heap.size with x | x
  ·exact x
  ·rw [Array.getElem?_eq_none x] at hc;cases hc
theorem owns_cell {w:World} {base:Nat} {e:TypeId} {v:Value} {n:Nat} {xs:List Value} (h:w.ownsRow base e 1 v n xs) {g:Nat} (hg:v.ownBlock=some g) (i:Nat) (hi:i<xs.length):w.cell? ⟨g,i,none⟩=some xs[i]:=by
 rcases h.2 with ⟨rfl,_⟩ | ⟨g',cap,cur,rfl,_,hc,_,_,_,ht⟩
 ·cases hg
 ·have:g'=g:=by simpa [Value.ownBlock] using hg
  subst this
  have hl:=h.1
  have e1:xs[i]?=some xs[i]:=List.getElem?_eq_getElem hi
  generalize xs[i]=u at e1 ⊢
  rw [<- ht,List.getElem?_take] at e1
  simp only [World.cell?,hc]
  split at e1
  ·simpa using e1
  ·cases e1
theorem new1 (w:World) (x:Value) (t:TypeId):∀ j u, [x][j]?=some u->(w.alloc (.cells #[x] t)).cell? (Addr.add ⟨w.heap.size,0,none⟩ j)=some u:=by
 intro j u hj
 have e:Addr.add ⟨w.heap.size,0,none⟩ j=⟨w.heap.size,j,none⟩:=by
  simp only [Addr.add,Nat.zero_add];split
  ·rename_i h;rw [h]
  ·rfl
 rw [e,World.cell?_alloc_new,<- hj]
 cases j <;> rfl
end Go.Proofs.YtgnncnhkgmhngaaGreatDoor
