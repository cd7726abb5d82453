import Derived.Test.YtgnncnhkgmhngaaGreatDoorJ24
import Derived.Test.YtgnncnhkgmhngaaGreatDoorJ18
set_option maxHeartbeats 2000000
namespace Go.Proofs.YtgnncnhkgmhngaaGreatDoor
open Sp
open Go.RowKit
def TM (v:Value):Prop:=∃ a x,v = .agg #[.int .i64 a,x]/\qJ x
theorem E9 {b c cap len:Nat} {s:Sp.Bs} {n:Nat} {σ:St} {w:World} (IA:All b c cap len s n) (hn:n<=900000) (hm:32*rem s σ+10<=n) (hp:PS b c cap len s 0 σ w) :
  Calls Tryz.prog 128 #[.pointer (some ⟨b,0,none⟩)] w (aX b c cap len s 0 (rowT s n σ) w TM λw' v=>∃ x,v = .agg #[.int .i64 (σ.at_ s:Nat),x]/\qJ x/\Rq w' (Sp.tr s n .list 0 .nil (σ.must s [40])) (w.heap.size+1) w'.heap.size x):=by
 have hbw:=hp.lb
 have hcw:=hp.lc
 have hr:=bZ s [40] σ
 obtain ⟨i,wd,hi,tc,PK⟩:=bG (hp.alloc (.cells #[.int .i64 0, .slice none 0 0] 239))
 have jQ:Hid (σ.aA=true->aO s (pos s i)=σ.at_ s):=λhl=>(dO hi tc hl).1
 have HH:Hid (PS b c cap len s 0 σ (w.alloc (.cells #[.int .i64 0, .slice none 0 0] 239))):=hp.alloc _
 have pH:Hid (Kept b w (w.alloc (.cells #[.int .i64 0, .slice none 0 0] 239))):=(Kept.refl b w).alloc _
 have HB0:Hid (Bk (w.alloc (.cells #[.int .i64 0, .slice none 0 0] 239)) w.heap.size [.int .i64 0, .slice none 0 0]):=Bk.new _ _ _
 have gJ:Hid (∀ w',w'=w.alloc (.cells #[.int .i64 0, .slice none 0 0] 239)->Calls Tryz.prog 75 #[.pointer (some ⟨b,0,none⟩)] w' λr w''=>r = .returned (.agg #[.int .i64 (kn (aD s (pos s i))), .int .i64 (aO s (pos s i):Nat), .string wd])/\Below (w.alloc (.cells #[.int .i64 0, .slice none 0 0] 239)).heap.size (w.alloc (.cells #[.int .i64 0, .slice none 0 0] 239)) w''):=λw' e=>by subst e;exact PK
 have xD:=hid IA
 clear hp tc hi PK IA
 generalize kn (aD s (pos s i))=kk at *
 generalize aO s (pos s i)=aa at *
 have hfd:=s7
 go_enter Tryz.func128,Tryz.ntmps128
 go_wp2_with fail
 refine (gJ.out _ rfl).mono ?_
 clear gJ
 rintro r w1 ⟨rfl,hb1⟩
 generalize w.alloc (.cells #[.int .i64 0, .slice none 0 0] 239)=w0 at *
 have bT:=hid (HH.out.below hb1)
 have bD:Hid (Kept b w w1):=pH.out.trans (Kept.below hb1)
 have HB1:=hid (HB0.out.below hb1)
 clear hb1 HH pH HB0
 go_wp2_with fail
 refine (b8 bT.out [40] (by decide)).mono ?_
 rintro r w2 ⟨rfl,hp2,hk2⟩
 have HP2:=hid hp2
 have aY:=hid (bD.out.trans hk2)
 have HB2:Hid (Bk w2 w.heap.size [.int .i64 0, .slice none 0 0]):=HB1.out.kept hk2 (by omega)
 clear hp2 hk2 HB1 bT bD
 go_wp2_with fail
 refine (xD.out.list 0 _ _ (by omega) (by show 32*rem s _+10<=n;omega) HP2.out).mono ?_
 rintro r w3 ⟨v3,rfl,hp3,hk3,⟨sa,sn,sc,rfl⟩,hr3⟩
 have cS:=hid hp3
 have bH:=hid (aY.out.trans hk3)
 have HR3:=hid hr3
 have HB3:Hid (Bk w3 w.heap.size [.int .i64 0, .slice none 0 0]):=HB2.out.kept hk3 (by omega)
 have hz2:w.heap.size+1<=w2.heap.size:=HB2.out.lt
 have hz3:=hk3.size
 clear hp3 hk3 hr3
 go_wp2_with fail
 refine (b8 cS.out [41] (by decide)).mono ?_
 rintro r w4 ⟨rfl,gD,hk4⟩
 have gY:=hid gD
 have eC:=hid hk4
 have hB4:=HB3.out.kept hk4 (by omega)
 have y8:=hk4.size
 have c0:=hB4.c 0 (by decide)
 have c1:=hB4.c 1 (by decide)
 have f0:=hB4.f 0
 have f1:=hB4.f 1
 simp only [List.getElem_cons_zero,List.getElem_cons_succ] at c0 c1
 clear gD hk4 hB4
 go_wp2_with fail
 exact cL (v := .agg #[.int .i64 aa, .slice sa sn sc]) (by simp [results,Tryz.results128,go_sem, *]) rfl ⟨_,rfl,(gY.out.put w.heap.size 0 (by omega) (by omega) _).put w.heap.size 1 (by omega) (by omega) _,((bH.out.trans eC.out).aJ (by simp) _).aJ (by simp) _,⟨_,_,rfl,_,_,_,rfl⟩,λhl=>⟨.slice sa sn sc,by rw [jQ.out (bK (dM (bK hl)))],⟨_,_,_,rfl⟩,by
  have q:=((HR3.out (bK hl)).kept eC.out (by omega) (aF _))
  have e:∀ k,w2.heap.size<=k->((w4.setCell ⟨w.heap.size,0,none⟩ (.int .i64 aa)).setCell ⟨w.heap.size,1,none⟩ (.slice sa sn sc)).heap[k]?=w4.heap[k]?:=λk hk=>by
   rw [dQ _ _ _ _ (by simp;omega),dQ _ _ _ _ (by simp;omega)]
  exact Rq.wide ⟨q.1.frame (by simp [World.setCell]) _ _ _ _ (λk h1 h2=>e k h1) (λblk off n c ee=>e blk (q.2 blk off n c ee).1),q.2⟩ hz2 (by simp [World.setCell];omega)⟩⟩
def TN (v:Value):Prop:=∃ x a q y,v = .agg #[.string x, .int .i64 a, .int .i64 q,y]/\aQ y
theorem set_any {b c cap len:Nat} {s:Sp.Bs} {n:Nat} {σ:St} {w:World} (IA:All b c cap len s n) (hn:n<=900000) (hm:32*rem s σ+9<=n) (hp:PS b c cap len s 0 σ w) :
  Calls Tryz.prog 131 #[.pointer (some ⟨b,0,none⟩)] w (aX b c cap len s 0 (pB s n σ) w TN λw' v=>∃ y,v = .agg #[.string (bz (σ.nm s).1), .int .i64 ((σ.nm s).2:Nat), .int .i64 ((σ.aC s).at_ s:Nat),y]/\aQ y/\Rp w' (Sp.tr s n .expr 0 .nil ((σ.aC s).must s [61])) (w.heap.size+1) w'.heap.size y):=by
 have hbw:=hp.lb
 have hcw:=hp.lc
 have hr:=dL s σ
 have hr2:=bZ s [61] (σ.aC s)
 have HH:Hid (PS b c cap len s 0 σ (w.alloc (.cells #[.string ⟨#[]⟩, .int .i64 0, .int .i64 0, .nilIface] 249))):=hp.alloc _
 have pH:Hid (Kept b w (w.alloc (.cells #[.string ⟨#[]⟩, .int .i64 0, .int .i64 0, .nilIface] 249))):=(Kept.refl b w).alloc _
 have HB0:Hid (Bk (w.alloc (.cells #[.string ⟨#[]⟩, .int .i64 0, .int .i64 0, .nilIface] 249)) w.heap.size [.string ⟨#[]⟩, .int .i64 0, .int .i64 0, .nilIface]):=Bk.new _ _ _
 have xD:=hid IA
 clear hp IA
 go_enter Tryz.func131,Tryz.ntmps131
 go_wp2_with fail
 generalize w.alloc (.cells #[.string ⟨#[]⟩, .int .i64 0, .int .i64 0, .nilIface] 249)=w0 at *
 refine (name_any HH.out).mono ?_
 rintro r w1 ⟨v1,rfl,hp1,hk1,⟨nL,a1,rfl⟩,hr1⟩
 have bT:Hid (PS b c cap len s 0 (σ.aC s) (w1.alloc (.cells #[.string nL, .int .i64 a1] 165))):=hp1.alloc _
 have bD:Hid (Kept b w (w1.alloc (.cells #[.string nL, .int .i64 a1] 165))):=(pH.out.trans hk1).alloc _
 have HB1:Hid (Bk (w1.alloc (.cells #[.string nL, .int .i64 a1] 165)) w.heap.size [.string ⟨#[]⟩, .int .i64 0, .int .i64 0, .nilIface]):=(HB0.out.kept hk1 (by omega)).alloc _
 have qB:Hid (Bk (w1.alloc (.cells #[.string nL, .int .i64 a1] 165)) w1.heap.size [.string nL, .int .i64 a1]):=Bk.new _ _ _
 have hz1:w.heap.size+1<=w1.heap.size:=bY HB0.out.lt hk1.size
 have HR1:Hid ((σ.aC s).aA=true->nL=bz (σ.nm s).1/\a1=((σ.nm s).2:Nat)):=λhl=>mC (hr1 hl)
 clear hp1 hk1 hr1 HH HB0 pH
 go_wp2_with fail
 refine (kL (n:=n) bT.out [61] (by decide) (λw' hp'=>xD.out.expr 0 _ _ (by omega) (by show 32*rem s _+9<=n;omega) hp')).mono ?_
 generalize hw1:(w1.alloc (.cells #[.string nL, .int .i64 a1] 165))=w1' at *
 have hz1' : w1.heap.size<=w1'.heap.size:=by rw [<- hw1];simp
 clear hw1
 rintro r w2 ⟨v2,rfl,hp2,hk2,⟨a2,x2,rfl,hi2⟩,hr2'⟩
 have HP2:Hid (PS b c cap len s 0 (pB s n σ) (w2.alloc (.cells #[.int .i64 a2,x2] 244))):=hp2.alloc _
 have aY:=hid (bD.out.trans hk2)
 have HI2:=hid hi2
 have HR2:Hid ((pB s n σ).aA=true->a2=((σ.aC s).at_ s:Nat)/\Rp w2 (Sp.tr s n .expr 0 .nil ((σ.aC s).must s [61])) (w1'.heap.size+1) w2.heap.size x2):=λhl=>by
  obtain ⟨x,e,_,r⟩:=hr2' hl
  obtain ⟨e0,e1⟩:=IZ e
  subst e0 e1
  exact ⟨rfl,r⟩
 have hX2:=(qB.out.kept hk2 (by omega)).alloc (.cells #[.int .i64 a2,x2] 244)
 have hB2:=(HB1.out.kept hk2 (by omega)).alloc (.cells #[.int .i64 a2,x2] 244)
 have hZ2:=Bk.new w2 #[.int .i64 a2,x2] 244
 have hz2:=hk2.size
 have x0:=hX2.c 0 (by simp)
 have x1:=hX2.c 1 (by simp)
 have y0:=hZ2.c 0 (by simp)
 have y1:=hZ2.c 1 (by simp)
 have c0:=hB2.c 0 (by decide)
 have c1:=hB2.c 1 (by decide)
 have c2:=hB2.c 2 (by decide)
 have c3:=hB2.c 3 (by decide)
 have f0:=hB2.f 0
 have f1:=hB2.f 1
 have f2:=hB2.f 2
 have f3:=hB2.f 3
 simp only [List.getElem_cons_zero,List.getElem_cons_succ] at x0 x1 y0 y1 c0 c1 c2 c3
 have hv2:=hi2.cells
 unfold Value.cells at hv2
 have hst2:=λa m w=>hi2.st a m w
 clear hp2 hk2 hi2 hr2' hX2 hB2 hZ2
 go_wp2_with fail
 refine cL (v := .agg #[.string nL, .int .i64 a1, .int .i64 a2,x2]) (by simp [results,Tryz.results131,go_sem, *]) rfl ⟨_,rfl,?_,?_,⟨_,_,_,_,rfl,HI2.out⟩,λhl=>?_⟩
 ·exact (((HP2.out.put w.heap.size 0 (by omega) (by omega) _).put w.heap.size 1 (by omega) (by omega) _).put w.heap.size 2 (by omega) (by omega) _).put w.heap.size 3 (by omega) (by omega) _
 ·exact ((((aY.out.alloc _).aJ (by simp) _).aJ (by simp) _).aJ (by simp) _).aJ (by simp) _
 ·obtain ⟨e3,r⟩:=HR2.out hl
  obtain ⟨e1,e2⟩:=HR1.out (bK (dM hl))
  subst e1 e2 e3
  refine ⟨x2,rfl,HI2.out,?_⟩
  have e:∀ k,w.heap.size<k->k<w2.heap.size->(((((w2.alloc (Obj.cells #[Value.int IntKind.i64 ((σ.aC s).at_ s:Nat),x2] 244)).setCell ⟨w.heap.size,0,none⟩ (.string (bz (σ.nm s).1))).setCell ⟨w.heap.size,1,none⟩ (.int .i64 ((σ.nm s).2:Nat))).setCell ⟨w.heap.size,2,none⟩ (.int .i64 ((σ.aC s).at_ s:Nat))).setCell ⟨w.heap.size,3,none⟩ x2).heap[k]?=w2.heap[k]?:=λk h1 h2=>by
   rw [dQ _ _ _ _ (by simp;omega),dQ _ _ _ _ (by simp;omega),dQ _ _ _ _ (by simp;omega),dQ _ _ _ _ (by simp;omega)]
   exact kX _ _ _ h2
  have q:=r.frame (w':=(((((w2.alloc (Obj.cells #[Value.int IntKind.i64 ((σ.aC s).at_ s:Nat),x2] 244)).setCell ⟨w.heap.size,0,none⟩ (.string (bz (σ.nm s).1))).setCell ⟨w.heap.size,1,none⟩ (.int .i64 ((σ.nm s).2:Nat))).setCell ⟨w.heap.size,2,none⟩ (.int .i64 ((σ.aC s).at_ s:Nat))).setCell ⟨w.heap.size,3,none⟩ x2)) (by simp [World.setCell]) _ _ _ _ (λk h1 h2=>e k (by omega) h2) (λ_ _ _ _ ee=>absurd ee (HI2.out.bC _ _ _))
  exact Rp.wide _ _ _ _ _ _ q (by omega) (by simp [World.setCell])
def kM {α:Type} (P:World->α->List Value->Nat->Nat->Prop) (w:World) (g:Nat):List α->List (List Value)->Nat->Nat->Prop
 | [], [],lo,hi=>lo<=hi
 | n::ns,x::xs,lo,hi=>∃ m1 m2,Sub lo hi g m1 m2/\P w n x m1 m2/\kM P w g ns xs m2 hi
 | _,_,_,_=>False
theorem kM.le {α:Type} {P:World->α->List Value->Nat->Nat->Prop} {w:World} {g:Nat} : ∀ {ns:List α} {xs:List (List Value)} {lo hi:Nat},kM P w g ns xs lo hi->lo<=hi
 | [], [],_,_,h=>h
 | _::_,_::_,lo,hi,h=>by obtain ⟨a1,a2,hS,_⟩:=h;unfold Sub at hS;omega
 | [],_::_,_,_,h=>h.elim
 | _::_, [],_,_,h=>h.elim
theorem kM.snoc {α:Type} {P:World->α->List Value->Nat->Nat->Prop} {w:World} {g:Nat} {m1 m2:Nat} {n:α} {x:List Value} (h12:m1<=m2) (h3:P w n x m1 m2) (h4:¬ (m1<=g/\g<m2)):∀ {ns:List α} {xs:List (List Value)} {lo hi:Nat},kM P w g ns xs lo hi->hi<=m1->kM P w g (ns ++ [n]) (xs ++ [x]) lo m2
 | [], [],lo,hi,h,h1=>⟨m1,m2,by have:lo<=hi:=h;unfold Sub;omega,h3,aF _⟩
 | n'::ns,x'::xs,lo,hi,h,h1=>by
  obtain ⟨a1,a2,hS,hp,ht⟩:=h
  exact ⟨a1,a2,by unfold Sub at hS ⊢;omega,hp,kM.snoc h12 h3 h4 ht h1⟩
 | [],_::_,_,_,h,_=>h.elim
 | _::_, [],_,_,h,_=>h.elim
theorem kM.move {α:Type} {P:World->α->List Value->Nat->Nat->Prop} {w:World} {g g' : Nat} : ∀ {ns:List α} {xs:List (List Value)} {lo hi:Nat},kM P w g ns xs lo hi->hi<=g'->kM P w g' ns xs lo hi
 | [], [],_,_,h,_=>h
 | n::ns,x::xs,lo,hi,h,hg=>by
  obtain ⟨a1,a2,hS,hp,ht⟩:=h
  have:=ht.le
  exact ⟨a1,a2,by unfold Sub at hS ⊢;omega,hp,ht.move hg⟩
 | [],_::_,_,_,h,_=>h.elim
 | _::_, [],_,_,h,_=>h.elim
theorem kM.frame {α:Type} {P:World->α->List Value->Nat->Nat->Prop} {w w' : World} {g:Nat} (hP:∀ n x m1 m2,P w n x m1 m2->(∀ k,m1<=k->k<m2->w'.heap[k]?=w.heap[k]?)->P w' n x m1 m2):∀ {ns:List α} {xs:List (List Value)} {lo hi:Nat},kM P w g ns xs lo hi->(∀ k,lo<=k->k<hi->k≠g->w'.heap[k]?=w.heap[k]?)->kM P w' g ns xs lo hi
 | [], [],_,_,h,_=>h
 | n::ns,x::xs,lo,hi,h,hk=>by
  obtain ⟨a1,a2,hS,hp,ht⟩:=h
  have:=ht.le
  unfold Sub at hS
  exact ⟨a1,a2,hS,hP _ _ _ _ hp (λk h1 h2=>hk k (by omega) (by omega) (by omega)),ht.frame hP λk h1 h2 h3=>hk k (by omega) h2 h3⟩
 | [],_::_,_,_,h,_=>h.elim
 | _::_, [],_,_,h,_=>h.elim
def fL (w:World) (n:Nat×Nd) (x:List Value) (m1 m2:Nat):Prop:=∃ v,x = [.int .i64 (n.1:Int),v]/\Rq w n.2 m1 m2 v
theorem fL.frame {w w' : World} (hs:w.heap.size<=w'.heap.size) (n:Nat×Nd) (x:List Value) (m1 m2:Nat) (h:fL w n x m1 m2) (hk:∀ k,m1<=k->k<m2->w'.heap[k]?=w.heap[k]?):fL w' n x m1 m2:=by
 obtain ⟨v,e,r⟩:=h
 exact ⟨v,e,r.1.frame hs _ _ _ _ hk (λblk off n c ee=>hk blk (r.2 blk off n c ee).1 (r.2 blk off n c ee).2),r.2⟩
def lA (w:World) (n:Nm×Nat×Nd) (x:List Value) (m1 m2:Nat):Prop:=∃ v,x = [.string (bz n.1.1), .int .i64 (n.1.2:Int), .int .i64 (n.2.1:Int),v]/\cH v/\Rp w n.2.2 m1 m2 v
theorem lA.frame {w w' : World} (hs:w.heap.size<=w'.heap.size) (n:Nm×Nat×Nd) (x:List Value) (m1 m2:Nat) (h:lA w n x m1 m2) (hk:∀ k,m1<=k->k<m2->w'.heap[k]?=w.heap[k]?):lA w' n x m1 m2:=by
 obtain ⟨v,e,hn,r⟩:=h
 exact ⟨v,e,hn,r.frame hs _ _ _ _ hk (λ_ _ _ _ ee=>absurd ee (hn _ _ _))⟩
end Go.Proofs.YtgnncnhkgmhngaaGreatDoor
namespace Go.Proofs.YtgnncnhkgmhngaaGreatDoor.Sp
def okS (N:Nat):wB->Prop
 | .create _ cols=>cols.length<=7
 | .drop _=>True
 | .dH _ _ rows=>rows.length<=N/\∀ x∈rows,wf N x.2 .list/\x.2.len<=N/\x.2.dep<=N
 | .eO _ _ _=>False
 | .delete _ wh=>wf N wh .cl/\wh.dep<=N
 | .update _ _ _=>False
 | .trans _=>True
 | .query q=>wf N q .query/\q.dep<=N
theorem qQ {s:Bs} (hp:parse s=(0,0)):s.length<=2000:=by
 unfold parse at hp
 split at hp
 ·simp at hp
 ·omega
end Go.Proofs.YtgnncnhkgmhngaaGreatDoor.Sp
