import Derived.Deep.LoopGhost
import Derived.Test.YtgnncnhkgmhngaaGreatDoorJ06
set_option maxHeartbeats 2000000
namespace Go.Proofs.YtgnncnhkgmhngaaGreatDoor
open Sp
open Go.RowKit
def At (w:World) (b:Nat) (vs:List Value):Prop:=b<w.heap.size/\∀ j,(h:j<vs.length)->w.cell? ⟨b,j,none⟩=some vs[j]
def Sub (lo hi b m1 m2:Nat):Prop:=lo<=m1/\m1<=m2/\m2<=hi/\¬ (m1<=b/\b<m2)
def yQ (lo hi:Nat) (x:Value):Prop:=∀ blk off n c,x = .slice (some ⟨blk,off,none⟩) n c->lo<=blk/\blk<hi
def fX (w:World) (blk:Nat):Nat->List (Nm×Nm)->Prop
 | _, []=>True
 | off,((tw,ta),(cw,ca))::r=>w.cell? ⟨blk,off,none⟩=some (.string (bz tw))/\w.cell? ⟨blk,off+1,none⟩=some (.int .i64 (ta:Int))/\w.cell? ⟨blk,off+2,none⟩=some (.string (bz cw))/\w.cell? ⟨blk,off+3,none⟩=some (.int .i64 (ca:Int))/\fX w blk (off+4) r
def Ty (w:World) (b:Nat) (t:TypeId):Prop:=∃ arr fz,w.heap[b]?=some (.cells arr t fz)
def cH (v:Value):Prop:=∀ a n c,v ≠ .slice a n c
def Rp (w:World):Nd->Nat->Nat->Value->Prop
 | .nil,lo,hi,x=>lo<=hi/\∃ a c,x = .slice a 0 c
 | .cons h t,lo,hi,x=>∃ blk off n c v m1 m2,x = .slice (some ⟨blk,off,none⟩) (n+1) c/\blk<w.heap.size/\Sub lo hi blk m1 m2/\w.cell? ⟨blk,off,none⟩=some v/\cH v/\Rp w h m1 m2 v/\Rp w t m2 hi (.slice (some ⟨blk,off+1,none⟩) n c)
 | .none,lo,hi,x=>lo<=hi/\x = .pointer none
 | .clause a e,lo,hi,x=>∃ b v m1 m2,x = .pointer (some ⟨b,0,none⟩)/\lo<=b/\b<hi/\Sub lo hi b m1 m2/\At w b [.int .i64 (a:Int),v]/\cH v/\Rp w e m1 m2 v
 | .const c,lo,hi,x=>∃ b,x = .iface 358 (.pointer (some ⟨b,0,none⟩))/\lo<=b/\b<hi/\At w b [.int .i64 c.k, .int .i64 c.n, .string c.s]
 | .col t n a o sr ce,lo,hi,x=>∃ b,x = .iface 361 (.pointer (some ⟨b,0,none⟩))/\lo<=b/\b<hi/\At w b [.string (bz t), .string (bz n), .int .i64 (a:Int), .int .i64 (o:Int), .int .i64 (sr:Int), .int .i64 ce]/\∀ j,w.frozen? ⟨b,j,none⟩=false
 | .op wd a args,lo,hi,x=>∃ b sv m1 m2,x = .iface 363 (.pointer (some ⟨b,0,none⟩))/\lo<=b/\b<hi/\Sub lo hi b m1 m2/\At w b [.string (bz wd), .int .i64 (a:Int),sv]/\yQ lo hi sv/\Rp w args m1 m2 sv
 | .dW arms els,lo,hi,x=>∃ b av ev m1 m2 m3,x = .iface 365 (.pointer (some ⟨b,0,none⟩))/\lo<=b/\b<hi/\(lo<=m1/\m1<=m2/\m2<=m3/\m3<=hi)/\(Ty w b 405/\¬ (m2<=b/\b<m3))/\At w b [av,ev]/\yQ lo m2 av/\Rp w arms m1 m2 av/\cH ev/\Rp w els m2 m3 ev
 | .arms wa e ta t rest,lo,hi,x=>∃ blk off n c v1 v2 m1 m2 m3,x = .slice (some ⟨blk,off,none⟩) (n+1) c/\blk<w.heap.size/\Sub lo hi blk m1 m2/\Sub m2 hi blk m2 m3/\w.cell? ⟨blk,off,none⟩=some (.int .i64 (wa:Int))/\w.cell? ⟨blk,off+1,none⟩=some v1/\w.cell? ⟨blk,off+2,none⟩=some (.int .i64 (ta:Int))/\w.cell? ⟨blk,off+3,none⟩=some v2/\cH v1/\Rp w e m1 m2 v1/\cH v2/\Rp w t m2 m3 v2/\Rp w rest m3 hi (.slice (some ⟨blk,off+4,none⟩) n c)
 | .within wd a args q,lo,hi,x=>∃ b sv qv m1 m2 m3 m4,x = .iface 367 (.pointer (some ⟨b,0,none⟩))/\lo<=b/\b<hi/\Sub lo hi b m1 m2/\Sub m2 hi b m3 m4/\At w b [.string (bz wd), .int .i64 (a:Int),sv,qv]/\yQ lo m3 sv/\Rp w args m1 m2 sv/\cH qv/\Rp w q m3 m4 qv
 | .comb wd a all p q,lo,hi,x=>∃ b pv qv m1 m2 m3,x = .iface 280 (.pointer (some ⟨b,0,none⟩))/\lo<=b/\b<hi/\Sub lo hi b m1 m2/\Sub m2 hi b m2 m3/\At w b [.string (bz wd), .int .i64 (a:Int), .bool all,pv,qv]/\cH pv/\Rp w p m1 m2 pv/\cH qv/\Rp w q m2 m3 qv
 | .sel di st ex src wh,lo,hi,x=>∃ b xv fv wv m1 m2 m3 m4,x = .iface 278 (.pointer (some ⟨b,0,none⟩))/\lo<=b/\b<hi/\Sub lo hi b m1 m2/\Sub m2 hi b m3 m4/\At w b [.bool di, .int .i64 (st:Int),xv,fv,wv]/\yQ lo m2 xv/\((ex = .none/\xv = .slice none 0 0)\/(ex ≠ .none/\Rp w ex m1 m2 xv))/\(src = []/\fv = .slice none 0 0\/∃ blk c,fv = .slice (some ⟨blk,0,none⟩) src.length c/\src ≠ []/\m2<=blk/\blk<m3/\blk<w.heap.size/\fX w blk 0 src)/\cH wv/\Rp w wh m3 m4 wv
theorem At.k0 {w:World} {q:Nat} {a:Value} {l:List Value} (h:At w q (a::l)):w.cell? ⟨q,0,none⟩=some a:=h.2 0 (by simp)
theorem At.k1 {w:World} {q:Nat} {a b:Value} {l:List Value} (h:At w q (a::b::l)):w.cell? ⟨q,1,none⟩=some b:=h.2 1 (by simp)
theorem At.k2 {w:World} {q:Nat} {a b c:Value} {l:List Value} (h:At w q (a::b::c::l)):w.cell? ⟨q,2,none⟩=some c:=h.2 2 (by simp)
theorem At.k3 {w:World} {q:Nat} {a b c d:Value} {l:List Value} (h:At w q (a::b::c::d::l)):w.cell? ⟨q,3,none⟩=some d:=h.2 3 (by simp)
theorem At.k4 {w:World} {q:Nat} {a b c d e:Value} {l:List Value} (h:At w q (a::b::c::d::e::l)):w.cell? ⟨q,4,none⟩=some e:=h.2 4 (by simp)
theorem At.k5 {w:World} {q:Nat} {a b c d e f:Value} {l:List Value} (h:At w q (a::b::c::d::e::f::l)):w.cell? ⟨q,5,none⟩=some f:=h.2 5 (by simp)
theorem At.same {w w' : World} {b:Nat} {vs:List Value} (h:At w b vs) (hs:w.heap.size<=w'.heap.size) (e:w'.heap[b]?=w.heap[b]?):At w' b vs:=
 ⟨bY h.1 hs,λj hj=>(fB (w:=w) (a:=⟨b,j,none⟩) e).trans (h.2 j hj)⟩
theorem fX.same {w w' : World} {blk:Nat} (e:w'.heap[blk]?=w.heap[blk]?):∀ (l:List (Nm×Nm)) (off:Nat),fX w blk off l->fX w' blk off l
 | [],_,_=>trivial
 | ((tw,ta),(cw,ca))::r,off,h=>by
  have hc:∀ o,w'.cell? ⟨blk,o,none⟩=w.cell? ⟨blk,o,none⟩:=λo=>fB (w:=w) (a:=⟨blk,o,none⟩) e
  obtain ⟨h1,h2,h3,h4,h5⟩:=h
  exact ⟨(hc _).trans h1,(hc _).trans h2,(hc _).trans h3,(hc _).trans h4,fX.same e r _ h5⟩
theorem cH.iface (t:TypeId) (v:Value):cH (.iface t v):=λ_ _ _ h=>by cases h
theorem cH.ptr (a:Option Addr):cH (.pointer a):=λ_ _ _ h=>by cases h
theorem Rp.frame {w w' : World} (hs:w.heap.size<=w'.heap.size):∀ (nd:Nd) (lo hi:Nat) (x:Value),Rp w nd lo hi x->(∀ k,lo<=k->k<hi->w'.heap[k]?=w.heap[k]?)->
  (∀ blk off n c,x = .slice (some ⟨blk,off,none⟩) n c->w'.heap[blk]?=w.heap[blk]?)->Rp w' nd lo hi x:=by
 intro nd
 induction nd with
 | nil=>intro lo hi x h _ _;exact h
 | none=>intro lo hi x h _ _;exact h
 | cons h t ih1 ih2=>
  intro lo hi x hr hk hb
  obtain ⟨blk,off,n,c,v,m1,m2,rfl,hl,hS,hc,hn,h1,h2⟩:=hr
  have e:=hb blk off (n+1) c rfl
  refine ⟨blk,off,n,c,v,m1,m2,rfl,bY hl hs,hS,(fB (w:=w) (a:=⟨blk,off,none⟩) e).trans hc,hn,ih1 _ _ _ h1 (λk a b=>hk k (by have:=hS;unfold Sub at this;omega) (by have:=hS;unfold Sub at this;omega)) (λblk off n c e=>absurd e (hn _ _ _)),ih2 _ _ _ h2 (λk a b=>hk k (by have:=hS;unfold Sub at this;omega) b) ?_⟩
  intro blk' off' n' c' e'
  injection e' with e1 e2 e3;injection e1 with e1;injection e1 with e1;subst e1;exact e
 | clause a e ih=>
  intro lo hi x hr hk hb
  obtain ⟨b,v,m1,m2,rfl,h1,h2,hS,hA,hn,hR⟩:=hr
  exact ⟨b,v,m1,m2,rfl,h1,h2,hS,hA.same hs (hk b h1 h2),hn,ih _ _ _ hR (λk a b=>hk k (by have:=hS;unfold Sub at this;omega) (by have:=hS;unfold Sub at this;omega)) (λblk off n c e=>absurd e (hn _ _ _))⟩
 | const c=>
  intro lo hi x hr hk hb
  obtain ⟨b,rfl,h1,h2,hA⟩:=hr
  exact ⟨b,rfl,h1,h2,hA.same hs (hk b h1 h2)⟩
 | col t n a o sr ce=>
  intro lo hi x hr hk hb
  obtain ⟨b,rfl,h1,h2,hA,hf⟩:=hr
  exact ⟨b,rfl,h1,h2,hA.same hs (hk b h1 h2),λj=>(wF (w:=w) (a:=⟨b,j,none⟩) (hk b h1 h2)).trans (hf j)⟩
 | op wd a args ih=>
  intro lo hi x hr hk hb
  obtain ⟨b,sv,m1,m2,rfl,h1,h2,hS,hA,hI,hR⟩:=hr
  exact ⟨b,sv,m1,m2,rfl,h1,h2,hS,hA.same hs (hk b h1 h2),hI,ih _ _ _ hR (λk a b=>hk k (by have:=hS;unfold Sub at this;omega) (by have:=hS;unfold Sub at this;omega)) (λblk off n c e=>hk blk (hI _ _ _ _ e).1 (hI _ _ _ _ e).2)⟩
 | dW arms els ih1 ih2=>
  intro lo hi x hr hk hb
  obtain ⟨b,av,ev,m1,m2,m3,rfl,h1,h2,hS,⟨⟨arr,fz,hT⟩,hS2⟩,hA,hI,hR,hn,hR2⟩:=hr
  exact ⟨b,av,ev,m1,m2,m3,rfl,h1,h2,hS,⟨⟨arr,fz,(hk b h1 h2).trans hT⟩,hS2⟩,hA.same hs (hk b h1 h2),hI,ih1 _ _ _ hR (λk a b=>hk k (by omega) (by omega)) (λblk off n c e=>hk blk (hI _ _ _ _ e).1 (by have:=(hI _ _ _ _ e).2;omega)),hn,ih2 _ _ _ hR2 (λk a b=>hk k (by omega) (by omega)) (λblk off n c e=>absurd e (hn _ _ _))⟩
 | arms wa e ta t rest ih1 ih2 ih3=>
  intro lo hi x hr hk hb
  obtain ⟨blk,off,n,c,v1,v2,m1,m2,m3,rfl,hl,hS,hS2,c0,c1,c2,c3,n1,r1,n2,r2,r3⟩:=hr
  have e:=hb blk off (n+1) c rfl
  have hc:∀ o,w'.cell? ⟨blk,o,none⟩=w.cell? ⟨blk,o,none⟩:=λo=>fB (w:=w) (a:=⟨blk,o,none⟩) e
  unfold Sub at hS hS2
  refine ⟨blk,off,n,c,v1,v2,m1,m2,m3,rfl,bY hl hs,hS,hS2,(hc _).trans c0,(hc _).trans c1,(hc _).trans c2,(hc _).trans c3,n1,ih1 _ _ _ r1 (λk a b=>hk k (by omega) (by omega)) (λ_ _ _ _ e=>absurd e (n1 _ _ _)),n2,ih2 _ _ _ r2 (λk a b=>hk k (by omega) (by omega)) (λ_ _ _ _ e=>absurd e (n2 _ _ _)),ih3 _ _ _ r3 (λk a b=>hk k (by omega) (by omega)) ?_⟩
  intro blk' off' n' c' e'
  injection e' with e1 e2 e3;injection e1 with e1;injection e1 with e1;subst e1;exact e
 | within wd a args q ih1 ih2=>
  intro lo hi x hr hk hb
  obtain ⟨b,sv,qv,m1,m2,m3,m4,rfl,h1,h2,hS,hS2,hA,hI,hR,hn,hR2⟩:=hr
  unfold Sub at hS hS2
  exact ⟨b,sv,qv,m1,m2,m3,m4,rfl,h1,h2,hS,hS2,hA.same hs (hk b h1 h2),hI,ih1 _ _ _ hR (λk a b=>hk k (by omega) (by omega)) (λblk off n c e=>hk blk (hI _ _ _ _ e).1 (by have:=(hI _ _ _ _ e).2;omega)),hn,ih2 _ _ _ hR2 (λk a b=>hk k (by omega) (by omega)) (λblk off n c e=>absurd e (hn _ _ _))⟩
 | comb wd a all p q ih1 ih2=>
  intro lo hi x hr hk hb
  obtain ⟨b,pv,qv,m1,m2,m3,rfl,h1,h2,hS,hS2,hA,n1,r1,n2,r2⟩:=hr
  unfold Sub at hS hS2
  exact ⟨b,pv,qv,m1,m2,m3,rfl,h1,h2,hS,hS2,hA.same hs (hk b h1 h2),n1,ih1 _ _ _ r1 (λk a b=>hk k (by omega) (by omega)) (λ_ _ _ _ e=>absurd e (n1 _ _ _)),n2,ih2 _ _ _ r2 (λk a b=>hk k (by omega) (by omega)) (λ_ _ _ _ e=>absurd e (n2 _ _ _))⟩
 | sel di st ex src wh ih1 ih2=>
  intro lo hi x hr hk hb
  obtain ⟨b,xv,fv,wv,m1,m2,m3,m4,rfl,h1,h2,hS,hS2,hA,hI,hX,hF,hn,hR⟩:=hr
  unfold Sub at hS hS2
  refine ⟨b,xv,fv,wv,m1,m2,m3,m4,rfl,h1,h2,hS,hS2,hA.same hs (hk b h1 h2),hI,?_,?_,hn,ih2 _ _ _ hR (λk a b=>hk k (by omega) (by omega)) (λblk off n c e=>absurd e (hn _ _ _))⟩
  ·rcases hX with h | ⟨h,hX⟩
   ·exact Or.inl h
   ·exact Or.inr ⟨h,ih1 _ _ _ hX (λk a b=>hk k (by omega) (by omega)) (λblk off n c e=>hk blk (hI _ _ _ _ e).1 (by have:=(hI _ _ _ _ e).2;omega))⟩
  ·rcases hF with h | ⟨blk,c,e,hne,l1,l2,l3,hs'⟩
   ·exact Or.inl h
   ·exact Or.inr ⟨blk,c,e,hne,l1,l2,bY l3 hs,hs'.same (hk blk (by omega) (by omega))⟩
theorem yQ.wide {lo hi lo' hi' : Nat} {x:Value} (h:yQ lo hi x) (a:lo'<=lo) (b:hi<=hi'):yQ lo' hi' x:=λblk off n c e=>by have:=h blk off n c e;omega
theorem Rp.wide {w:World} : ∀ (nd:Nd) (lo hi lo' hi' : Nat) (x:Value),Rp w nd lo hi x->lo'<=lo->hi<=hi'->Rp w nd lo' hi' x:=by
 intro nd
 induction nd with
 | nil=>intro lo hi lo' hi' x h a b;exact ⟨by have:=h.1;omega,h.2⟩
 | none=>intro lo hi lo' hi' x h a b;exact ⟨by have:=h.1;omega,h.2⟩
 | cons h t ih1 ih2=>
  intro lo hi lo' hi' x hr ha hb
  obtain ⟨blk,off,n,c,v,m1,m2,rfl,hl,hS,hc,hn,h1,h2⟩:=hr
  unfold Sub at hS
  exact ⟨blk,off,n,c,v,m1,m2,rfl,hl,by unfold Sub;omega,hc,hn,h1,ih2 _ _ _ _ _ h2 (aF _) hb⟩
 | clause a e ih=>
  intro lo hi lo' hi' x hr ha hb
  obtain ⟨b,v,m1,m2,rfl,h1,h2,hS,hA,hn,hR⟩:=hr
  unfold Sub at hS
  exact ⟨b,v,m1,m2,rfl,by omega,by omega,by unfold Sub;omega,hA,hn,hR⟩
 | const c=>
  intro lo hi lo' hi' x hr ha hb
  obtain ⟨b,rfl,h1,h2,hA⟩:=hr
  exact ⟨b,rfl,by omega,by omega,hA⟩
 | col t n a o sr ce=>
  intro lo hi lo' hi' x hr ha hb
  obtain ⟨b,rfl,h1,h2,hA,hf⟩:=hr
  exact ⟨b,rfl,by omega,by omega,hA,hf⟩
 | op wd a args ih=>
  intro lo hi lo' hi' x hr ha hb
  obtain ⟨b,sv,m1,m2,rfl,h1,h2,hS,hA,hI,hR⟩:=hr
  unfold Sub at hS
  exact ⟨b,sv,m1,m2,rfl,by omega,by omega,by unfold Sub;omega,hA,hI.wide ha hb,hR⟩
 | dW arms els ih1 ih2=>
  intro lo hi lo' hi' x hr ha hb
  obtain ⟨b,av,ev,m1,m2,m3,rfl,h1,h2,hS,hS2,hA,hI,hR,hn,hR2⟩:=hr
  exact ⟨b,av,ev,m1,m2,m3,rfl,by omega,by omega,by omega,hS2,hA,hI.wide ha (aF _),hR,hn,hR2⟩
 | arms wa e ta t rest ih1 ih2 ih3=>
  intro lo hi lo' hi' x hr ha hb
  obtain ⟨blk,off,n,c,v1,v2,m1,m2,m3,rfl,hl,hS,hS2,c0,c1,c2,c3,n1,r1,n2,r2,r3⟩:=hr
  unfold Sub at hS hS2
  exact ⟨blk,off,n,c,v1,v2,m1,m2,m3,rfl,hl,by unfold Sub;omega,by unfold Sub;omega,c0,c1,c2,c3,n1,r1,n2,r2,ih3 _ _ _ _ _ r3 (aF _) hb⟩
 | within wd a args q ih1 ih2=>
  intro lo hi lo' hi' x hr ha hb
  obtain ⟨b,sv,qv,m1,m2,m3,m4,rfl,h1,h2,hS,hS2,hA,hI,hR,hn,hR2⟩:=hr
  unfold Sub at hS hS2
  exact ⟨b,sv,qv,m1,m2,m3,m4,rfl,by omega,by omega,by unfold Sub;omega,by unfold Sub;omega,hA,hI.wide ha (aF _),hR,hn,hR2⟩
 | comb wd a all p q ih1 ih2=>
  intro lo hi lo' hi' x hr ha hb
  obtain ⟨b,pv,qv,m1,m2,m3,rfl,h1,h2,hS,hS2,hA,n1,r1,n2,r2⟩:=hr
  unfold Sub at hS hS2
  exact ⟨b,pv,qv,m1,m2,m3,rfl,by omega,by omega,by unfold Sub;omega,by unfold Sub;omega,hA,n1,r1,n2,r2⟩
 | sel di st ex src wh ih1 ih2=>
  intro lo hi lo' hi' x hr ha hb
  obtain ⟨b,xv,fv,wv,m1,m2,m3,m4,rfl,h1,h2,hS,hS2,hA,hI,hX,hF,hn,hR⟩:=hr
  unfold Sub at hS hS2
  exact ⟨b,xv,fv,wv,m1,m2,m3,m4,rfl,by omega,by omega,by unfold Sub;omega,by unfold Sub;omega,hA,hI.wide ha (aF _),hX,hF,hn,hR⟩
theorem Rp.le {w:World} : ∀ (nd:Nd) (lo hi:Nat) (x:Value),Rp w nd lo hi x->lo<=hi:=by
 intro nd
 cases nd with
 | nil=>intro lo hi x h;exact h.1
 | none=>intro lo hi x h;exact h.1
 | cons h t=>
  intro lo hi x hr
  obtain ⟨blk,off,n,c,v,m1,m2,rfl,hl,hS,_⟩:=hr
  unfold Sub at hS;omega
 | arms=>
  intro lo hi x hr
  obtain ⟨blk,off,n,c,v1,v2,m1,m2,m3,rfl,hl,hS,_⟩:=hr
  unfold Sub at hS;omega
 | clause a e=>intro lo hi x hr;obtain ⟨b,v,m1,m2,rfl,h1,h2,_⟩:=hr;omega
 | const c=>intro lo hi x hr;obtain ⟨b,rfl,h1,h2,_⟩:=hr;omega
 | col=>intro lo hi x hr;obtain ⟨b,rfl,h1,h2,_⟩:=hr;omega
 | op=>intro lo hi x hr;obtain ⟨b,_,_,_,rfl,h1,h2,_⟩:=hr;omega
 | dW=>intro lo hi x hr;obtain ⟨b,_,_,_,_,_,rfl,h1,h2,_⟩:=hr;omega
 | within=>intro lo hi x hr;obtain ⟨b,_,_,_,_,_,_,rfl,h1,h2,_⟩:=hr;omega
 | comb=>intro lo hi x hr;obtain ⟨b,_,_,_,_,_,rfl,h1,h2,_⟩:=hr;omega
 | sel=>intro lo hi x hr;obtain ⟨b,_,_,_,_,_,_,_,rfl,h1,h2,_⟩:=hr;omega
theorem Rp.kept {b:Nat} {w w' : World} {nd:Nd} {lo hi:Nat} {x:Value} (h:Rp w nd lo hi x) (k:Kept b w w') (hb:b<lo) (hhi:hi<=w.heap.size) (hx:yQ lo hi x):Rp w' nd lo hi x:=
 h.frame k.size _ _ _ _ (λj a c=>k.block j (by omega) (by omega)) (λblk off n c e=>by have:=hx blk off n c e;exact k.block blk (by omega) (by omega))
theorem Is {s:Sp.Bs} {len:Nat} (tk:TK s len):∀ {i j:Nat},i<j->j<len->pos s i<pos s j:=by
 intro i j hij
 induction j with
 | zero=>omega
 | succ j ih=>
  intro hj
  have h1:pos s j<pos s (j+1):=m9 (tk.mid j hj).1 (tk.mid j hj).2
  by_cases e:i=j
  ·subst e;exact h1
  ·exact Nat.lt_trans (ih (by omega) (by omega)) h1
theorem De {s:Sp.Bs} {len i j:Nat} {σ:St} (tk:TK s len) (hi:IX s len i σ) (hj:IX s len j σ):i=j:=by
 cases σ with
 | live e=>
  have h1:=hi.2
  have h2:=hj.2
  rcases Nat.lt_trichotomy i j with h | h | h
  ·have:=Is tk h hj.1;omega
  ·exact h
  ·have:=Is tk h hi.1;omega
 | dead x a=>have h1:=hi.1;have h2:=hj.1;omega
theorem It {s:Sp.Bs} {len i:Nat} {σ:St} (hi:IX s len i σ) (h:((kn (aD s (pos s i)):Int) != 0)=true):(if σ.cG s .fin then σ else σ.fail s 2)=σ.fail s 2:=by
 cases σ with
 | live e=>
  rw [hi.2] at h
  have hc:St.cG s .fin (.live e)=false:=by
   show (aD s e == .fin)=false
   revert h
   cases aD s e <;> simp [kn]
  rw [hc];rfl
 | dead x a=>rfl
theorem Iu {s:Sp.Bs} {len i:Nat} {σ:St} (hi:IX s len i σ) (h:((kn (aD s (pos s i)):Int) != 0)=false):(if σ.cG s .fin then σ else σ.fail s 2)=σ:=by
 cases σ with
 | live e=>
  rw [hi.2] at h
  have hc:St.cG s .fin (.live e)=true:=by
   show (aD s e == .fin)=true
   revert h
   cases aD s e <;> simp [kn]
  rw [hc];rfl
 | dead x a=>rfl
theorem vE {b c cap len:Nat} {s:Sp.Bs} {d:Nat} {σ:St} {w:World} (h:PS b c cap len s d σ w) :
  Calls Tryz.prog 49 #[.pointer (some ⟨b,0,none⟩)] w (Post b c cap len s d (if σ.cG s .fin then σ else σ.fail s 2) w):=by
 obtain ⟨i,wd,hi,tc,P⟩:=bG h
 have HH:=hid h
 have HP:=jL P
 cases hc:((kn (aD s (pos s i)):Int) != 0)
 ·rw [Iu hi hc]
  clear h tc hi P
  go_enter Tryz.func49,Tryz.ntmps49
  go_wp2_with fail
  refine (HP.out _ rfl).mono ?_
  rintro r w1 ⟨rfl,hb⟩
  have bT:=hid (HH.out.below hb)
  have bD:Hid (Kept b w w1):=Kept.below hb
  clear hb
  have hfd:=AK
  go_wp2_with fail
  go_end0
  exact ⟨rfl,bT.out,bD.out⟩
 ·rw [It hi hc]
  clear h tc hi P
  go_enter Tryz.func49,Tryz.ntmps49
  go_wp2_with fail
  refine (HP.out _ rfl).mono ?_
  rintro r w1 ⟨rfl,hb⟩
  have bT:=hid (HH.out.below hb)
  have bD:Hid (Kept b w w1):=Kept.below hb
  clear hb
  have hfd:=AK
  go_wp2_with fail
  refine (fV bT.out).mono ?_
  rintro r w2 ⟨rfl,hp2,hk2⟩
  have HP2:=hid hp2
  clear hp2
  go_wp2_with fail
  go_end0
  exact ⟨rfl,HP2.out,bD.out.trans hk2⟩
theorem Ny {a c:Cl} (h:(kn a == kn c)=true):a=c:=by
 revert h;cases a <;> cases c <;> simp [kn]
theorem Nz {s:Sp.Bs} {len i:Nat} {σ:St} (tk:TK s len) (hi:IX s len i σ) {k:Cl} (hf:k ≠ .fin) (hb:k ≠ .bad) (h:((kn (aD s (pos s i)):Int) != kn k)=false):∃ e,σ = .live e/\σ.cG s k=true/\aD s e=k:=by
 have e:aD s (pos s i)=k:=Ny (by simpa using h)
 cases σ with
 | live x=>
  rw [hi.2] at e
  exact ⟨x,rfl,by simp [St.cG,e],e⟩
 | dead x a=>
  exfalso
  rcases tk.last i hi.1 with h | h <;> rw [e] at h
  ·exact hf h
  ·exact hb h
theorem KS {s:Sp.Bs} {len i:Nat} {σ:St} (hi:IX s len i σ) {k:Cl} (h:((kn (aD s (pos s i)):Int) != kn k)=true):σ.cG s k=false:=by
 cases σ with
 | live x=>
  rw [hi.2] at h
  rw [Bool.eq_false_iff]
  intro he
  simp only [St.cG,beq_iff_eq] at he
  rw [he] at h;simp at h
 | dead x a=>simp [St.cG]
theorem fH {b c cap len:Nat} {s:Sp.Bs} {d:Nat} {σ:St} {w:World} (h:PS b c cap len s d σ w) (k:Cl) (hf:k ≠ .fin) (hb:k ≠ .bad) (z:Int) (hz:z=kn k) :
  Calls Tryz.prog 126 #[.pointer (some ⟨b,0,none⟩), .int .i64 z] w λr w'=>r = .returned (.bool (σ.cG s k))/\PS b c cap len s d (yM (σ.cG s k) s σ) w'/\Kept b w w':=by
 subst hz
 obtain ⟨i,wd,hi,tc,P⟩:=bG h
 have HH:=hid h
 have HP:=jL P
 cases hc:((kn (aD s (pos s i)):Int) != kn k)
 ·obtain ⟨e,rfl,hit,hcl⟩:=Nz h.tk hi hf hb hc
  have hlt:=hi.lt
  have ht:=h.tk.top
  have HT:=hid hit
  have HI:=hid hi
  have Vc:Hid (aD s e ≠ .fin/\aD s e ≠ .bad):=⟨by rw [hcl];exact hf,by rw [hcl];exact hb⟩
  clear h tc hi P hit hcl
  go_enter Tryz.func126,Tryz.ntmps126
  go_wp2_with fail
  refine (HP.out _ rfl).mono ?_
  rintro r w1 ⟨rfl,hb⟩
  have hp1:=HH.out.below hb
  obtain ⟨j,hj,h1⟩:=hp1.h1
  obtain rfl:i=j:=De hp1.tk HI.out hj
  have f1:=hp1.fz 1
  have bT:=hid hp1
  have bD:Hid (Kept b w w1):=Kept.below hb
  clear hb hp1 hj
  have hfd:=AK
  go_wp2_with fail
  go_ret
  exact ⟨dN HT.out.symm,by rw [HT.out];exact bT.out.up HI.out Vc.out.1 Vc.out.2,bD.out.setCell 1 _⟩
 ·have HT:Hid (σ.cG s k=false):=KS hi hc
  clear h tc hi P
  go_enter Tryz.func126,Tryz.ntmps126
  go_wp2_with fail
  refine (HP.out _ rfl).mono ?_
  rintro r w1 ⟨rfl,hb⟩
  have bT:=hid (HH.out.below hb)
  have bD:Hid (Kept b w w1):=Kept.below hb
  clear hb
  have hfd:=AK
  go_wp2_with fail
  go_ret
  exact ⟨dN HT.out.symm,by rw [HT.out];exact bT.out,bD.out⟩
def aQ (v:Value):Prop:=v = .nilIface\/∃ t u,v = .iface t u
def qJ (v:Value):Prop:=∃ a n c,v = .slice a n c
def FW (v:Value):Prop:=∃ a,v = .pointer a
def S9 (v:Value):Prop:=∃ wd a,v = .agg #[.string wd, .int .i64 a]
def Ta (v:Value):Prop:=∃ a x,v = .agg #[.int .i64 a,x]/\aQ x
abbrev O6 (x:Nm):Value := .agg #[.string (bz x.1), .int .i64 (x.2:Nat)]
theorem aQ.bC {v:Value} (h:aQ v):cH v:=by
 rcases h with rfl | ⟨t,u,rfl⟩ <;> exact λ_ _ _ h=>by cases h
theorem FW.bC {v:Value} (h:FW v):cH v:=by
 obtain ⟨a,rfl⟩:=h;exact λ_ _ _ h=>by cases h
theorem cH.sin {v:Value} (h:cH v) (lo hi:Nat):yQ lo hi v:=λ_ _ _ _ e=>absurd e (h _ _ _)
def aX (b c cap len:Nat) (s:Sp.Bs) (d:Nat) (σ:St) (w:World) (Sh:Value->Prop) (R:World->Value->Prop) (r:Ending) (w' : World):Prop:=
 ∃ v,r = .returned v/\PS b c cap len s d σ w'/\Kept b w w'/\Sh v/\(σ.aA=true->R w' v)
theorem ba_eq (x:ByteArray):bz x.toList=x:=by
 cases x with | mk d=>simp [bz,pD]
theorem dO {c:Nat} {s:Sp.Bs} {len i:Nat} {σ:St} {w:World} {wd:ByteArray} (hi:IX s len i σ) (tc:TC c s w i wd) (hl:σ.aA=true):aO s (pos s i)=σ.at_ s/\((∀ e,σ = .live e->aD s e ≠ .bad)->wd=bz (σ.word s)):=by
 cases σ with
 | dead x a=>cases hl
 | live e=>
  have h1:=hi.2
  have h2:=tc.wq
  rw [h1] at h2 ⊢
  refine ⟨rfl,λhb=>?_⟩
  have h3:=h2 (hb e rfl)
  show wd=bz (bW s e)
  rw [<- h3]
  exact (ba_eq wd).symm
theorem yR {s:Sp.Bs} {k:Cl} {σ:St} (h:σ.cG s k=true) (hb:k ≠ .bad):∀ e,σ = .live e->aD s e ≠ .bad:=by
 intro e he
 subst he
 have:aD s e=k:=by simpa [St.cG] using h
 rw [this];exact hb
theorem dC {s z:Sp.Bs} {σ:St} (h:σ.is s z=true):∀ e,σ = .live e->aD s e ≠ .bad:=by
 intro e he
 subst he
 have:aD s e = .key:=by simp [St.is] at h;exact h.1
 rw [this];decide
theorem fI {s:Sp.Bs} {zs:List Sp.Bs} {σ:St} (h:aT s zs σ=true):∀ e,σ = .live e->aD s e ≠ .bad:=by
 unfold aT at h
 obtain ⟨z,_,hz⟩:=List.any_eq_true.1 h
 exact dC hz
theorem nF {s:Sp.Bs} {zs:List Sp.Bs} {σ:St} (h:aT s zs σ=true):σ.aA=true:=by
 unfold aT at h
 obtain ⟨z,_,hz⟩:=List.any_eq_true.1 h
 exact cK hz
structure Bk (w:World) (q:Nat) (vs:List Value):Prop where
 lt:q<w.heap.size
 c:∀ j,(h:j<vs.length)->w.cell? ⟨q,j,none⟩=some vs[j]
 f:∀ j,w.frozen? ⟨q,j,none⟩=false
theorem Bk.new (w:World) (arr:Array Value) (t:TypeId):Bk (w.alloc (.cells arr t)) w.heap.size arr.toList:=by
 refine ⟨by simp,λj h=>?_,λj=>by go_simp⟩
 rw [oZ]
 have:j<arr.size:=by simpa using h
 simp [this]
theorem Bk.same {w w' : World} {q:Nat} {vs:List Value} (h:Bk w q vs) (hs:w.heap.size<=w'.heap.size) (e:w'.heap[q]?=w.heap[q]?):Bk w' q vs:=
 ⟨bY h.lt hs,λj hj=>(fB (w:=w) (a:=⟨q,j,none⟩) e).trans (h.c j hj),λj=>(wF (w:=w) (a:=⟨q,j,none⟩) e).trans (h.f j)⟩
theorem Bk.kept {b:Nat} {w w' : World} {q:Nat} {vs:List Value} (h:Bk w q vs) (k:Kept b w w') (ne:q≠b):Bk w' q vs:=h.same k.size (k.block q h.lt ne)
theorem Bk.alloc {w:World} {q:Nat} {vs:List Value} (h:Bk w q vs) (o:Obj):Bk (w.alloc o) q vs:=h.same (by simp) (kX _ _ _ h.lt)
theorem Bk.below {w w' : World} {q:Nat} {vs:List Value} (h:Bk w q vs) (k:Below w.heap.size w w'):Bk w' q vs:=h.same k.size (k.block q h.lt)
theorem Bk.at_ {w:World} {q:Nat} {vs:List Value} (h:Bk w q vs):At w q vs:=⟨h.lt,h.c⟩
theorem Bk.k0 {w:World} {q:Nat} {a:Value} {l:List Value} (h:Bk w q (a::l)):w.cell? ⟨q,0,none⟩=some a:=h.c 0 (by simp)
theorem Bk.k1 {w:World} {q:Nat} {a b:Value} {l:List Value} (h:Bk w q (a::b::l)):w.cell? ⟨q,1,none⟩=some b:=h.c 1 (by simp)
theorem Bk.k2 {w:World} {q:Nat} {a b c:Value} {l:List Value} (h:Bk w q (a::b::c::l)):w.cell? ⟨q,2,none⟩=some c:=h.c 2 (by simp)
theorem Bk.k3 {w:World} {q:Nat} {a b c d:Value} {l:List Value} (h:Bk w q (a::b::c::d::l)):w.cell? ⟨q,3,none⟩=some d:=h.c 3 (by simp)
theorem Bk.k4 {w:World} {q:Nat} {a b c d e:Value} {l:List Value} (h:Bk w q (a::b::c::d::e::l)):w.cell? ⟨q,4,none⟩=some e:=h.c 4 (by simp)
theorem Bk.k5 {w:World} {q:Nat} {a b c d e f:Value} {l:List Value} (h:Bk w q (a::b::c::d::e::f::l)):w.cell? ⟨q,5,none⟩=some f:=h.c 5 (by simp)
theorem PS.put {b c cap len:Nat} {s:Sp.Bs} {d:Nat} {σ:St} {w:World} (h:PS b c cap len s d σ w) (q o:Nat) (hb:q≠b) (hc:c<q) (u:Value):PS b c cap len s d σ (w.setCell ⟨q,o,none⟩ u):=by
 have e:∀ k,k≠q->(w.setCell ⟨q,o,none⟩ u).heap[k]?=w.heap[k]?:=λk hk=>dQ _ _ _ _ hk
 have eb:∀ i,(w.setCell ⟨q,o,none⟩ u).cell? ⟨b,i,none⟩=w.cell? ⟨b,i,none⟩:=λi=>fB (w:=w) (a:=⟨b,i,none⟩) (e b (Ne.symm hb))
 have ec:∀ i,(w.setCell ⟨q,o,none⟩ u).cell? ⟨c,i,none⟩=w.cell? ⟨c,i,none⟩:=λi=>fB (w:=w) (a:=⟨c,i,none⟩) (e c (by omega))
 have ef:∀ i,(w.setCell ⟨q,o,none⟩ u).frozen? ⟨b,i,none⟩=w.frozen? ⟨b,i,none⟩:=λi=>wF (w:=w) (a:=⟨b,i,none⟩) (e b (Ne.symm hb))
 obtain ⟨i,hi,h1⟩:=h.h1
 refine ⟨by simpa using h.lb,by simpa using h.lc,h.ne,h.tk,(eb 0).trans h.h0,⟨i,hi,(eb 1).trans h1⟩,(eb 2).trans h.h2,(eb 3).trans h.h3,(eb 4).trans h.h4,λo=>(ef o).trans (h.fz o),λj hj=>?_,h.h5,?_⟩
 ·obtain ⟨wd,t⟩:=h.tc j hj
  exact ⟨wd,(ec _).trans t.k,(ec _).trans t.a,(ec _).trans t.t,t.ok,t.wq⟩
 ·obtain ⟨m,hm⟩:=h.vm
  have:=h.h5
  exact ⟨m,(fB (w:=w) (a:=⟨5,0,none⟩) (e 5 (by omega))).trans hm⟩
theorem name_any {b c cap len:Nat} {s:Sp.Bs} {d:Nat} {σ:St} {w:World} (h:PS b c cap len s d σ w) :
  Calls Tryz.prog 79 #[.pointer (some ⟨b,0,none⟩)] w (aX b c cap len s d (σ.aC s) w S9 λ_ v=>v=O6 (σ.nm s)):=by
 obtain ⟨i,wd,hi,tc,P⟩:=bG (h.alloc (.cells #[.string ⟨#[]⟩, .int .i64 0] 165))
 have HL:Hid ((σ.aC s).aA=true->Value.agg #[.string wd, .int .i64 (aO s (pos s i):Nat)]=O6 (σ.nm s)):=by
  intro hl
  have hl':=fU hl
  have hn:σ.cG s .name=true:=by
   cases hn:σ.cG s .name
   ·rw [St.aC,hn] at hl;exact (eV hl).elim
   ·rfl
  obtain ⟨h1,h2⟩:=dO hi tc hl'
  rw [h1,h2 (yR hn (by decide))]
  rfl
 have hb:=h.lb
 have hc:=h.lc
 have HH:Hid (PS b c cap len s d σ (w.alloc (.cells #[.string ⟨#[]⟩, .int .i64 0] 165))):=h.alloc _
 have HP:Hid (∀ w',w'=w.alloc (.cells #[.string ⟨#[]⟩, .int .i64 0] 165)->Calls Tryz.prog 75 #[.pointer (some ⟨b,0,none⟩)] w' λr w''=>r = .returned (.agg #[.int .i64 (kn (aD s (pos s i))), .int .i64 (aO s (pos s i):Nat), .string wd])/\Below (w.alloc (.cells #[.string ⟨#[]⟩, .int .i64 0] 165)).heap.size (w.alloc (.cells #[.string ⟨#[]⟩, .int .i64 0] 165)) w''):=λw' e=>by subst e;exact P
 have HB0:Hid (Bk (w.alloc (.cells #[.string ⟨#[]⟩, .int .i64 0] 165)) w.heap.size [.string ⟨#[]⟩, .int .i64 0]):=Bk.new _ _ _
 have pH:Hid (Kept b w (w.alloc (.cells #[.string ⟨#[]⟩, .int .i64 0] 165))):=(Kept.refl b w).alloc _
 clear h tc hi P
 generalize kn (aD s (pos s i))=kk at HP
 generalize aO s (pos s i)=aa at *
 go_enter Tryz.func79,Tryz.ntmps79
 go_wp2_with fail
 refine (HP.out _ rfl).mono ?_
 rintro r w1 ⟨rfl,hb1⟩
 clear HP
 generalize w.alloc (.cells #[.string ⟨#[]⟩, .int .i64 0] 165)=w0 at *
 have bT:=hid (HH.out.below hb1)
 have bD:Hid (Kept b w w1):=pH.out.trans (Kept.below hb1)
 have HB1:=hid (HB0.out.below hb1)
 clear hb1 HH pH HB0
 have HX:Hid (Bk (w1.alloc (.cells #[.int .i64 kk, .int .i64 aa, .string wd] 155)) w1.heap.size [.int .i64 kk, .int .i64 aa, .string wd]):=Bk.new _ _ _
 have hbl:=bT.out.lb
 cases hs:σ.cG s .name
 ·have HM:Hid (σ.aC s=σ.fail s 2):=by show _=_;simp [St.aC,hs]
  go_wp2_with fail
  refine (fH (bT.out.alloc _) .name (by decide) (by decide) _ rfl).mono ?_
  rintro r w2 ⟨rfl,hp2,hk2⟩
  rw [hs] at hp2
  have HP2:Hid (PS b c cap len s d σ w2):=hp2
  have aY:Hid (Kept b w w2):=(bD.out.alloc _).trans hk2
  have HB2:Hid (Bk w2 w.heap.size [.string ⟨#[]⟩, .int .i64 0]):=(HB1.out.alloc _).kept hk2 (by omega)
  have iN:Hid (Bk w2 w1.heap.size [.int .i64 kk, .int .i64 aa, .string wd]):=HX.out.kept hk2 (by omega)
  clear hp2 hk2 HX HB1
  go_wp2_with fail
  refine (fV HP2.out).mono ?_
  rintro r w3 ⟨rfl,hp3,hk3⟩
  have cS:=hid hp3
  have bH:=hid (aY.out.trans hk3)
  have hB3:=HB2.out.kept hk3 (by omega)
  have H7:=iN.out.kept hk3 (by omega)
  have c0:=hB3.c 0 (by decide)
  have c1:=hB3.c 1 (by decide)
  have f0:=hB3.f 0
  have f1:=hB3.f 1
  have x1:=H7.c 1 (by simp)
  have x2:=H7.c 2 (by simp)
  simp only [List.getElem_cons_zero,List.getElem_cons_succ] at c0 c1 x1 x2
  clear hp3 hk3 hB3 H7
  go_wp2_with fail
  exact cL (v := .agg #[.string wd, .int .i64 aa]) (by simp [results,Tryz.results79,go_sem, *]) rfl ⟨_,rfl,by rw [HM.out];exact (cS.out.put w.heap.size 0 (by omega) (by omega) _).put w.heap.size 1 (by omega) (by omega) _,(bH.out.aJ (by simp) _).aJ (by simp) _,⟨_,_,rfl⟩,λhl=>HL.out hl⟩
 ·have HM:Hid (σ.aC s=σ.step s):=by show _=_;simp [St.aC,hs]
  go_wp2_with fail
  refine (fH (bT.out.alloc _) .name (by decide) (by decide) _ rfl).mono ?_
  rintro r w2 ⟨rfl,hp2,hk2⟩
  rw [hs] at hp2
  have HP2:Hid (PS b c cap len s d (σ.step s) w2):=hp2
  have aY:Hid (Kept b w w2):=(bD.out.alloc _).trans hk2
  have hB3:=(HB1.out.alloc _).kept hk2 (by omega)
  have H7:=HX.out.kept hk2 (by omega)
  have c0:=hB3.c 0 (by decide)
  have c1:=hB3.c 1 (by decide)
  have f0:=hB3.f 0
  have f1:=hB3.f 1
  have x1:=H7.c 1 (by simp)
  have x2:=H7.c 2 (by simp)
  simp only [List.getElem_cons_zero,List.getElem_cons_succ] at c0 c1 x1 x2
  clear hp2 hk2 hB3 H7
  go_wp2_with fail
  exact cL (v := .agg #[.string wd, .int .i64 aa]) (by simp [results,Tryz.results79,go_sem, *]) rfl ⟨_,rfl,by rw [HM.out];exact (HP2.out.put w.heap.size 0 (by omega) (by omega) _).put w.heap.size 1 (by omega) (by omega) _,(aY.out.aJ (by simp) _).aJ (by simp) _,⟨_,_,rfl⟩,λhl=>HL.out hl⟩
open Go.RowKit Go.Sort
theorem kD {w:World} (m:Nat) (os:Array Obj):Gr w (grow (w.drewN m) os):=⟨m,os,rfl⟩
theorem jO {c:Bool} {A B:Prop} (h:c=true) (a:A):if c=true then A else B:=by rw [if_pos h];exact a
theorem tA {c:Bool} {A B:Prop} (h:c=false) (b:B):if c=true then A else B:=by rw [h];exact b
theorem iU {P:Program} {ops:Array Oper} {C:World->Prop} {Q:Act->Prop} {l:List Oper} {a:Act} (h:∀ PE,Hid (ops=PE)->wpQuiet P PE C Q l a):wpQuiet P ops C Q l a:=h ops rfl
theorem eX {ops PE:Array Oper} (e:ops=PE) {o:Oper} {t:Array Value} {c:Bool} (h:Region.wanted o (yielded ops t)=c):Region.wanted o (yielded PE t)=c:=by subst e;exact h
end Go.Proofs.YtgnncnhkgmhngaaGreatDoor
