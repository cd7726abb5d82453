import Derived.Test.YtgnncnhkgmhngaaGreatDoorJ15
import Derived.Deep.DeepMust
import Derived.Deep.RegionHeld3
import Derived.Deep.DrawnRows
import Derived.Deep.AppendLies
set_option maxHeartbeats 2000000
namespace Go.Proofs.YtgnncnhkgmhngaaGreatDoor
open Sp
open Go.RowKit
theorem PS.stay {b c cap len:Nat} {s:Sp.Bs} {d:Nat} {σ:St} {w w' : World} (h:PS b c cap len s d σ w) (hs:w.heap.size<=w'.heap.size) (hb:w'.heap[b]?=w.heap[b]?) (hc:w'.heap[c]?=w.heap[c]?) (h5:w'.heap[5]?=w.heap[5]?):PS b c cap len s d σ w':=by
 have eb:∀ i,w'.cell? ⟨b,i,none⟩=w.cell? ⟨b,i,none⟩:=λi=>fB (w:=w) (a:=⟨b,i,none⟩) hb
 have ec:∀ i,w'.cell? ⟨c,i,none⟩=w.cell? ⟨c,i,none⟩:=λi=>fB (w:=w) (a:=⟨c,i,none⟩) hc
 have ef:∀ i,w'.frozen? ⟨b,i,none⟩=w.frozen? ⟨b,i,none⟩:=λi=>wF (w:=w) (a:=⟨b,i,none⟩) hb
 obtain ⟨i,hi,h1⟩:=h.h1
 refine ⟨bY h.lb hs,bY h.lc hs,h.ne,h.tk,(eb 0).trans h.h0,⟨i,hi,(eb 1).trans h1⟩,(eb 2).trans h.h2,(eb 3).trans h.h3,(eb 4).trans h.h4,λo=>(ef o).trans (h.fz o),λj hj=>?_,h.h5,?_⟩
 ·obtain ⟨wd,t⟩:=h.tc j hj
  exact ⟨wd,(ec _).trans t.k,(ec _).trans t.a,(ec _).trans t.t,t.ok,t.wq⟩
 ·obtain ⟨m,hm⟩:=h.vm
  exact ⟨m,(fB (w:=w) (a:=⟨5,0,none⟩) h5).trans hm⟩
theorem Kept.grown {b:Nat} {a w w' : World} {g:Nat} (h:Kept b a w) (k:w.grownBy w' (some g)) (hg:a.heap.size<=g):Kept b a w':=
 ⟨k.os.trans h.os,k.tape.trans h.tape,k.output.trans h.output,cE h.size k.size,λi hi hb=>(k.block i (bY hi h.size) (by intro e;injection e with e;omega)).trans (h.block i hi hb)⟩
theorem Dt {b c cap len:Nat} {s:Sp.Bs} {n:Nat} (IH:Hid (∀ m,m<=n->All b c cap len s m)) (d:Nat) (σ:St) (w:World) (hd:d+(n+1)<=1000000) (hm' : 32*rem s σ+10<=n+1) (hp:PS b c cap len s d σ w) :
  Calls Tryz.prog 212 #[.pointer (some ⟨b,0,none⟩), .func (.func 175) #[.pointer (some ⟨b,0,none⟩)] #[]] w (aX b c cap len s d (Sp.run s (n+1) .list d σ) w qJ λw' v=>Rq w' (Sp.tr s (n+1) .list d .nil σ) w.heap.size w'.heap.size v):=by
 obtain ⟨i0,ji,fR,jz1,fS⟩:=info_parts IY
 have hr:=cJ s n .expr d σ
 have hbw:=hp.lb
 have hcw:=hp.lc
 have PY:=hp.h5.1
 have HP:=hid hp
 clear hp
 go_enter Tryz.func212,Tryz.ntmps212
 go_wp2_with fail
 refine ((IH.out n (aF _)).expr d σ _ (by omega) (by show 32*rem s σ+9<=n;omega) HP.out).mono ?_
 rintro r w1 ⟨v1,rfl,hp1,hk1,hi1,hr1⟩
 have bT:Hid (PS b c cap len s d (Sp.run s n .expr d σ) (w1.alloc (.cells #[v1] 242))):=hp1.alloc _
 have bD:Hid (Kept b w (w1.alloc (.cells #[v1] 242))):=hk1.alloc _
 have hz1':=hk1.size
 have H9:Hid ((w1.alloc (.cells #[v1] 242)).ownsRow w.heap.size 242 1 (.slice (some ⟨w1.heap.size,0,none⟩) 1 1) 1 [v1]):=jR w1 w.heap.size hz1' 242 1 #[v1] 1 rfl (by unfold maxLen;omega)
 have HR1:Hid ((Sp.run s n .expr d σ).aA=true->∃ hi,hi<=(w1.alloc (.cells #[v1] 242)).heap.size/\lZ (w1.alloc (.cells #[v1] 242)) w1.heap.size [Sp.tr s n .expr d .nil σ] [v1] w.heap.size hi):=λhl=>⟨w1.heap.size,by simp,w.heap.size,w1.heap.size,by unfold Sub;omega,hi1.bC,(hr1 hl).cF hi1.bC ((Kept.refl b w1).alloc _) hbw (aF _),aF _⟩
 have hv1:=hi1.cells
 unfold Value.cells at hv1
 clear hp1 hk1 hi1 hr1 HP
 go_wp2_with fail
 go_loopg [5] n (λgm v wr=>gm<=n/\∃ (σ' : St) (ns:List Nd) (xs:List Value) (g k kc:Nat),v = .slice (some ⟨g,0,none⟩) k kc/\k+gm<=n+1/\32*rem s σ'+1<=gm/\w.heap.size<=g/\g<wr.heap.size/\Hid (k=ns.length)/\Hid (Sp.run s (n+1) .list d σ=Sp.run s gm .gV d σ')/\Hid (Sp.tr s (n+1) .list d .nil σ=gG ns (Sp.tr s gm .gV d .nil σ'))/\Hid (PS b c cap len s d σ' wr)/\Hid (Kept b w wr)/\Hid (wr.ownsRow w.heap.size 242 1 (.slice (some ⟨g,0,none⟩) k kc) k xs)/\Hid (σ'.aA=true->∃ hi,hi<=wr.heap.size/\lZ wr g ns xs w.heap.size hi))
 case atStart=>exact ⟨aF _,_, [Sp.tr s n .expr d .nil σ], [v1],w1.heap.size,1,1,rfl,by omega,by omega,hz1',by simp,rfl,rfl,rfl,bT.out,bD.out,H9.out,HR1.out⟩
 case round=>
  obtain ⟨hmn,σ',ns,xs,g,k,kc,rfl,hkg,hms,hgw,hgr,A9,HR,o6,j9,fY,HOr,sJ⟩:=hrel
  obtain ⟨m,rfl⟩:∃ m,gk=m+1:=⟨gk - 1,by omega⟩
  cases hs:σ'.is s [44]
  ·have HV:Hid (Sp.run s (m+1) .gV d σ'=σ'):=by show _=_;rw [Sp.run,hs];rfl
   have cA:Hid (Sp.tr s (m+1) .gV d .nil σ' = .nil):=by show _=_;rw [Sp.tr,hs];rfl
   have HT:Hid (σ'.take s [44]=σ'):=bE hs
   go_wp2_with fail
   refine (aW j9.out [44] (by decide)).mono ?_
   rintro r w2 ⟨rfl,hp2,hk2⟩
   rw [HT.out] at hp2
   rw [hs]
   have HP2:Hid (PS b c cap len s d σ' w2):=hp2
   have aY:=hid hk2
   clear hp2 hk2
   go_wp2_with fail
   go_ret
   refine ⟨_,rfl,by rw [HR.out,HV.out];exact HP2.out,fY.out.trans aY.out,⟨_,_,_,rfl⟩,λhl=>?_⟩
   rw [HR.out,HV.out] at hl
   rw [o6.out,cA.out]
   obtain ⟨hi,h1,h2⟩:=sJ.out hl
   have hz2:=aY.out.size
   have hle:=h2.le
   have E:lZ w2 g ns xs w.heap.size hi:=h2.frame hz2 λk h1 h2 _=>aY.out.block k (by omega) (by omega)
   have O:=aV HOr.out (aY.out.block g hgr (by omega))
   have R:=lZ.rp (off:=0) (bY hgr hz2) kc E (λj u hj=>by have:=bO O j u hj;simpa using this)
   rw [<- A9.out] at R
   exact ⟨Rp.wide _ _ _ _ _ _ R (aF _) (by omega),λblk off n c e=>by injection e with e1 e2 e3;injection e1 with e1;injection e1 with e1;subst e1;omega⟩
  ·have HV:Hid (Sp.run s (m+1) .gV d σ'=Sp.run s m .gV d (Sp.run s m .expr d (σ'.step s))):=by show _=_;rw [Sp.run,hs];rfl
   have cA:Hid (Sp.tr s (m+1) .gV d .nil σ' = .cons (Sp.tr s m .expr d .nil (σ'.step s)) (Sp.tr s m .gV d .nil (Sp.run s m .expr d (σ'.step s)))):=by show _=_;rw [Sp.tr,hs];rfl
   have HT:Hid (σ'.take s [44]=σ'.step s):=aZ hs
   have HL:Hid (σ'.aA=true):=cK hs
   have h1:=aM hs
   have h2:=cJ s m .expr d (σ'.step s)
   go_wp2_with fail
   refine (aW j9.out [44] (by decide)).mono ?_
   rintro r w2 ⟨rfl,hp2,hk2⟩
   rw [HT.out] at hp2
   rw [hs]
   have HP2:Hid (PS b c cap len s d (σ'.step s) w2):=hp2
   have aY:=hid hk2
   clear hp2 hk2
   go_wp2_with fail
   refine ((IH.out m (by omega)).expr d _ _ (by omega) (by show 32*rem s _+9<=m;omega) HP2.out).mono ?_
   rintro r w3 ⟨v3,rfl,hp3,hk3,hi3,hr3⟩
   have cS:=hid hp3
   have bH:=hid hk3
   have HI3:=hid hi3
   have HR3:=hid hr3
   have hz2:=aY.out.size
   have hz3:=bH.out.size
   have MD:=fY.out.size
   have jG:Hid (w3.ownsRow w.heap.size 242 1 (.slice (some ⟨g,0,none⟩) k kc) k xs):=aV HOr.out ((aY.out.trans bH.out).block g hgr (by omega))
   have vJ:Hid ((w3.alloc (.cells #[v3] 242)).ownsRow w.heap.size 242 1 (.slice (some ⟨g,0,none⟩) k kc) k xs):=aV jG.out (kX _ _ _ (by omega))
   have hv3:=hi3.cells
   unfold Value.cells at hv3
   clear hp3 hk3 hi3 hr3 HP2 j9
   go_wp2_with (at_builtin;go_must (refine c6 _ rfl (.tmp 12) (.tmp 15) 237 rfl w.heap.size 242 i0 .nilIface 1 16 Tryz.underlying237 ji fR jz1 fS rfl (by decide) g k kc xs rfl vJ.out ⟨w3.heap.size,0,none⟩ 1 [v3] rfl rfl ?c1 ?c2 ?c3 ?c4 ?c5 ?_))
   case c1=>
    intro j u hj
    match j,hj with
    | 0,hj=>simp at hj;subst hj;rw [Addr.add_lit];simp
    | j+1,hj=>simp at hj
   case c2=>intro u hu;simp at hu;subst hu;exact HI3.out.one
   case c3=>unfold maxLen;omega
   case c4=>omega
   case c5=>simp;omega
   intro g' gE w5 hown hgrow hg'
   have CU:=hid hown
   have tM:=hid hgrow
   have hgg:g'=g\/w3.heap.size+1<=g':=by simpa using hg'
   have hg5:=(gC hown)
   clear hown hgrow hg' hv3
   go_wp2_with fail
   go_roundg m
   case measure=>omega
   case rel=>
    have rM:w3.heap.size+1<=w5.heap.size:=by have:=tM.out.size;simpa using this
    have hb5:∀ q,q<w3.heap.size->q≠g->w5.heap[q]?=w3.heap[q]?:=λq hq hn=>(tM.out.block q (by simp;omega) (λe=>by injection e with e;exact hn e)).trans (kX _ _ _ hq)
    refine ⟨by omega,_,ns ++ [Sp.tr s m .expr d .nil (σ'.step s)],xs ++ [v3],g',k+1,gE,rfl,by omega,by omega,hg5.1,hg5.2,by show _=_;rw [List.length_append,<- A9.out];rfl,by show _=_;rw [HR.out,HV.out],by show _=_;rw [o6.out,cA.out,FM],cS.out.stay (by omega) (hb5 b (by omega) (by omega)) (hb5 c (by omega) (by omega)) (hb5 5 (by omega) (by omega)),(((fY.out.trans aY.out).trans bH.out).alloc _).grown tM.out hgw,CU.out,λhl=>?_⟩
    obtain ⟨hi,e1,e2⟩:=sJ.out HL.out
    have hle:=e2.le
    have r3:=HR3.out hl
    have E:lZ w5 g ns xs w.heap.size hi:=(e2.frame (by omega) λq h1 h2 h3=>(hb5 q (by omega) h3).trans ((aY.out.trans bH.out).block q (by omega) (by omega)))
    have R:Rp w5 (Sp.tr s m .expr d .nil (σ'.step s)) w2.heap.size w3.heap.size v3:=r3.frame (by omega) _ _ _ _ (λq h1 h2=>hb5 q h2 (by omega)) (λ_ _ _ _ e=>absurd e (HI3.out.bC _ _ _))
    have S:=E.snoc (by omega) HI3.out.bC R (by omega)
    refine ⟨w3.heap.size,by omega,?_⟩
    rcases hgg with rfl | hgg
    ·exact S
    ·exact S.move (by omega)
theorem Du {b c cap len:Nat} {s:Sp.Bs} {n:Nat} (IH:Hid (∀ m,m<=n->All b c cap len s m)):Vg b c cap len s (n+1) .list qJ 174:=by
 intro d σ w hd hm hp
 have H:Hid (∀ w',w'=w->Calls Tryz.prog 212 #[.pointer (some ⟨b,0,none⟩), .func (.func 175) #[.pointer (some ⟨b,0,none⟩)] #[]] w' (aX b c cap len s d (Sp.run s (n+1) .list d σ) w qJ λw' v=>Rq w' (Sp.tr s (n+1) .list d .nil σ) w.heap.size w'.heap.size v)):=λw' e=>by subst e;exact Dt IH d σ w' hd hm hp
 clear hd hm hp
 have hmf:=lN
 go_enter Tryz.func174,Tryz.ntmps174
 go_wp2_with fail
 refine (H.out _ rfl).mono ?_
 rintro r w1 ⟨v1,rfl,hp1,hk1,hi1,hr1⟩
 have HX:Hid (PS b c cap len s d (Sp.run s (n+1) .list d σ) w1/\Kept b w w1/\qJ v1/\((Sp.run s (n+1) .list d σ).aA=true->Rq w1 (Sp.tr s (n+1) .list d .nil σ) w.heap.size w1.heap.size v1)):=⟨hp1,hk1,hi1,hr1⟩
 clear hp1 hk1 hi1 hr1
 go_wp2_with fail
 go_ret
 exact ⟨_,rfl,HX.out.1,HX.out.2.1,HX.out.2.2.1,HX.out.2.2.2⟩
theorem aQ.st {v:Value} (h:aQ v) (a:Addr) (m:Mode) (w:World):(store a v m).run Tryz.prog w=stored Tryz.prog w a v m:=run_store Tryz.prog w a v m h.one
theorem kL {b c cap len:Nat} {s:Sp.Bs} {n d:Nat} {σ:St} {w:World} (h:PS b c cap len s d σ w) (z:Sp.Bs) (hf:z∈iS)
  (hex:∀ w',PS b c cap len s d (σ.must s z) w'->Calls Tryz.prog 175 #[.pointer (some ⟨b,0,none⟩)] w' (aX b c cap len s d (Sp.run s n .expr d (σ.must s z)) w' aQ λw'' v=>Rp w'' (Sp.tr s n .expr d .nil (σ.must s z)) w'.heap.size w''.heap.size v)) :
  Calls Tryz.prog 129 #[.pointer (some ⟨b,0,none⟩), .string ⟨z.toArray⟩] w (aX b c cap len s d (Sp.run s n .expr d (σ.must s z)) w Ta λw' v=>∃ x,v = .agg #[.int .i64 (σ.at_ s:Nat),x]/\aQ x/\Rp w' (Sp.tr s n .expr d .nil (σ.must s z)) (w.heap.size+1) w'.heap.size x):=by
 have hbw:=h.lb
 have hcw:=h.lc
 have HEX:=hid hex
 obtain ⟨i,wd,hi,tc,PK⟩:=bG (h.alloc (.cells #[.int .i64 0, .nilIface] 244))
 have jQ:Hid (σ.aA=true->aO s (pos s i)=σ.at_ s):=λhl=>(dO hi tc hl).1
 have HH:Hid (PS b c cap len s d σ (w.alloc (.cells #[.int .i64 0, .nilIface] 244))):=h.alloc _
 have pH:Hid (Kept b w (w.alloc (.cells #[.int .i64 0, .nilIface] 244))):=(Kept.refl b w).alloc _
 have HB0:Hid (Bk (w.alloc (.cells #[.int .i64 0, .nilIface] 244)) w.heap.size [.int .i64 0, .nilIface]):=Bk.new _ _ _
 have gJ:Hid (∀ w',w'=w.alloc (.cells #[.int .i64 0, .nilIface] 244)->Calls Tryz.prog 75 #[.pointer (some ⟨b,0,none⟩)] w' λr w''=>r = .returned (.agg #[.int .i64 (kn (aD s (pos s i))), .int .i64 (aO s (pos s i):Nat), .string wd])/\Below (w.alloc (.cells #[.int .i64 0, .nilIface] 244)).heap.size (w.alloc (.cells #[.int .i64 0, .nilIface] 244)) w''):=λw' e=>by subst e;exact PK
 clear h tc hi PK hex
 generalize kn (aD s (pos s i))=kk at *
 generalize aO s (pos s i)=aa at *
 have hfd:=s7
 go_enter Tryz.func129,Tryz.ntmps129
 go_wp2_with fail
 refine (gJ.out _ rfl).mono ?_
 clear gJ
 rintro r w1 ⟨rfl,hb1⟩
 generalize w.alloc (.cells #[.int .i64 0, .nilIface] 244)=w0 at *
 have bT:=hid (HH.out.below hb1)
 have bD:Hid (Kept b w w1):=pH.out.trans (Kept.below hb1)
 have HB1:=hid (HB0.out.below hb1)
 clear hb1 HH pH HB0
 go_wp2_with fail
 refine (b8 bT.out z hf).mono ?_
 rintro r w2 ⟨rfl,hp2,hk2⟩
 have HP2:=hid hp2
 have aY:=hid (bD.out.trans hk2)
 have HB2:Hid (Bk w2 w.heap.size [.int .i64 0, .nilIface]):=HB1.out.kept hk2 (by omega)
 clear hp2 hk2 HB1 bT bD
 go_wp2_with fail
 refine (HEX.out _ HP2.out).mono ?_
 rintro r w3 ⟨v3,rfl,hp3,hk3,hi3,hr3⟩
 have cS:=hid hp3
 have bH:=hid (aY.out.trans hk3)
 have HI3:=hid hi3
 have HR3:=hid hr3
 have hB3:=HB2.out.kept hk3 (by omega)
 have hz2:w.heap.size+1<=w2.heap.size:=HB2.out.lt
 have c0:=hB3.c 0 (by decide)
 have c1:=hB3.c 1 (by decide)
 have f0:=hB3.f 0
 have f1:=hB3.f 1
 simp only [List.getElem_cons_zero,List.getElem_cons_succ] at c0 c1
 have hv3:=hi3.cells
 unfold Value.cells at hv3
 have hst3:=λa m w=>hi3.st a m w
 clear hp3 hk3 hi3 hr3 hB3
 go_wp2_with fail
 exact cL (v := .agg #[.int .i64 aa,v3]) (by simp [results,Tryz.results129,go_sem, *]) rfl ⟨_,rfl,(cS.out.put w.heap.size 0 (by omega) (by omega) _).put w.heap.size 1 (by omega) (by omega) _,(bH.out.aJ (by simp) _).aJ (by simp) _,⟨_,_,rfl,HI3.out⟩,λhl=>⟨v3,by rw [jQ.out (bK (dM hl))],HI3.out,by
  refine Rp.wide _ _ _ _ _ _ ((HR3.out hl).frame (by simp [World.setCell]) _ _ _ _ (λk h1 h2=>?_) (λ_ _ _ _ e=>absurd e (HI3.out.bC _ _ _))) hz2 (by simp [World.setCell])
  rw [dQ _ _ _ _ (by simp;omega),dQ _ _ _ _ (by simp;omega)]⟩⟩
def vK (s:Sp.Bs) (n d:Nat) (z:Sp.Bs) (σ:St):St:=if σ.is s z then Sp.run s n .expr d (σ.step s) else σ
def CV (s:Sp.Bs) (n d:Nat) (z:Sp.Bs) (σ:St):Nd:=if σ.is s z then .clause (σ.at_ s) (Sp.tr s n .expr d .nil (σ.step s)) else .none
theorem mA {s:Sp.Bs} {z:Sp.Bs} {σ:St} (h:σ.is s z=true):σ.must s z=σ.step s:=by rw [St.must,h];rfl
theorem eP {b c cap len:Nat} {s:Sp.Bs} {n d:Nat} {σ:St} {w:World} (h:PS b c cap len s d σ w) (z:Sp.Bs) (hf:z∈iS)
  (hex:σ.is s z=true->∀ w',PS b c cap len s d (σ.step s) w'->Calls Tryz.prog 175 #[.pointer (some ⟨b,0,none⟩)] w' (aX b c cap len s d (Sp.run s n .expr d (σ.step s)) w' aQ λw'' v=>Rp w'' (Sp.tr s n .expr d .nil (σ.step s)) w'.heap.size w''.heap.size v)) :
  Calls Tryz.prog 81 #[.pointer (some ⟨b,0,none⟩), .string ⟨z.toArray⟩] w (aX b c cap len s d (vK s n d z σ) w FW λw' v=>Rp w' (CV s n d z σ) w.heap.size w'.heap.size v):=by
 have hbw:=h.lb
 have HH:=hid h
 clear h
 cases hs:σ.is s z
 ·have HV:Hid (vK s n d z σ=σ/\CV s n d z σ = .none):=⟨by rw [vK,hs];rfl,by rw [CV,hs];rfl⟩
  clear hex
  go_enter Tryz.func81,Tryz.ntmps81
  go_wp2_with fail
  refine (lU HH.out z hf).mono ?_
  rintro r w1 ⟨rfl,hp1,hk1⟩
  rw [hs]
  have bT:=hid hp1
  have bD:=hid hk1
  clear hp1 hk1
  go_wp2_with fail
  go_ret
  exact ⟨_,rfl,by rw [HV.out.1];exact bT.out,bD.out,⟨_,rfl⟩,λ_=>by rw [HV.out.2];exact ⟨bD.out.size,rfl⟩⟩
 ·have HV:Hid (vK s n d z σ=Sp.run s n .expr d (σ.step s)/\CV s n d z σ = .clause (σ.at_ s) (Sp.tr s n .expr d .nil (σ.step s))):=⟨by rw [vK,hs];rfl,by rw [CV,hs];rfl⟩
  have HM:Hid (σ.must s z=σ.step s):=mA hs
  have HEX:Hid (∀ w',PS b c cap len s d (σ.must s z) w'->Calls Tryz.prog 175 #[.pointer (some ⟨b,0,none⟩)] w' (aX b c cap len s d (Sp.run s n .expr d (σ.must s z)) w' aQ λw'' v=>Rp w'' (Sp.tr s n .expr d .nil (σ.must s z)) w'.heap.size w''.heap.size v)):=by rw [mA hs];exact hex hs
  clear hex
  go_enter Tryz.func81,Tryz.ntmps81
  go_wp2_with fail
  refine (lU HH.out z hf).mono ?_
  rintro r w1 ⟨rfl,hp1,hk1⟩
  rw [hs]
  have bT:=hid hp1
  have bD:=hid hk1
  clear hp1 hk1
  go_wp2_with fail
  refine (kL (n:=n) bT.out z hf HEX.out).mono ?_
  rw [HM.out]
  rintro r w2 ⟨v2,rfl,hp2,hk2,⟨a2,x2,rfl,hi2⟩,hr2⟩
  have HP2:=hid hp2
  have aY:=hid hk2
  have HI2:=hid hi2
  have HR2:Hid ((Sp.run s n .expr d (σ.step s)).aA=true->a2=(σ.at_ s:Nat)/\Rp w2 (Sp.tr s n .expr d .nil (σ.step s)) (w1.heap.size+1) w2.heap.size x2):=λhl=>by
   obtain ⟨x,e,_,r⟩:=hr2 hl
   simp only [Value.agg.injEq] at e
   have e0:=congrArg (λx:Array Value=>x[0]?) e
   have e1:=congrArg (λx:Array Value=>x[1]?) e
   simp at e0 e1
   subst e0 e1
   exact ⟨rfl,r⟩
  have hv2:=hi2.cells
  unfold Value.cells at hv2
  have hst2:=λa m w=>hi2.st a m w
  clear hp2 hk2 hi2 hr2
  go_wp2_with fail
  go_ret
  refine ⟨_,rfl,by rw [HV.out.1];exact HP2.out.alloc _,(bD.out.trans aY.out).alloc _,⟨_,rfl⟩,λhl=>?_⟩
  rw [HV.out.1] at hl
  rw [HV.out.2]
  obtain ⟨e,r⟩:=HR2.out hl
  subst e
  have hz1:=bD.out.size
  have hz2:=aY.out.size
  exact ⟨w2.heap.size,x2,w1.heap.size+1,w2.heap.size,rfl,by omega,by simp,by have:=Rp.le _ _ _ _ r;unfold Sub;simp;omega,(Bk.new w2 _ _).at_,HI2.out.bC,r.cF HI2.out.bC ((Kept.refl b w2).alloc _) (by omega) (aF _)⟩
def To (v:Value):Prop:=∃ a x t y,v = .agg #[.int .i64 a,x, .int .i64 t,y]/\aQ x/\aQ y
theorem IZ {a c:Int} {x y:Value} (h:Value.agg #[.int .i64 a,x] = .agg #[.int .i64 c,y]):a=c/\x=y:=by
 simp only [Value.agg.injEq] at h
 have e0:=congrArg (λx:Array Value=>x[0]?) h
 have e1:=congrArg (λx:Array Value=>x[1]?) h
 simp at e0 e1
 exact ⟨e0,e1⟩
theorem E1 {b c cap len:Nat} {s:Sp.Bs} {n m d:Nat} {σ σ1:St} {w:World} (h:PS b c cap len s d σ w) (hσ:Sp.run s n .expr d (σ.must s [119,104,101,110])=σ1)
  (hw:∀ w',PS b c cap len s d (σ.must s [119,104,101,110]) w'->Calls Tryz.prog 175 #[.pointer (some ⟨b,0,none⟩)] w' (aX b c cap len s d (Sp.run s n .expr d (σ.must s [119,104,101,110])) w' aQ λw'' v=>Rp w'' (Sp.tr s n .expr d .nil (σ.must s [119,104,101,110])) w'.heap.size w''.heap.size v))
  (ht:∀ w',PS b c cap len s d (σ1.must s [116,104,101,110]) w'->Calls Tryz.prog 175 #[.pointer (some ⟨b,0,none⟩)] w' (aX b c cap len s d (Sp.run s m .expr d (σ1.must s [116,104,101,110])) w' aQ λw'' v=>Rp w'' (Sp.tr s m .expr d .nil (σ1.must s [116,104,101,110])) w'.heap.size w''.heap.size v)) :
  Calls Tryz.prog 353 #[.pointer (some ⟨b,0,none⟩)] w (aX b c cap len s d (Sp.run s m .expr d (σ1.must s [116,104,101,110])) w To λw' v=>∃ x y l2,v = .agg #[.int .i64 (σ.at_ s:Nat),x, .int .i64 (σ1.at_ s:Nat),y]/\aQ x/\aQ y/\Rp w' (Sp.tr s n .expr d .nil (σ.must s [119,104,101,110])) (w.heap.size+1) l2 x/\Rp w' (Sp.tr s m .expr d .nil (σ1.must s [116,104,101,110])) l2 w'.heap.size y):=by
 have hbw:=h.lb
 have hcw:=h.lc
 have HW:=hid hw
 have HT:=hid ht
 have HS:=hid hσ
 have HH:Hid (PS b c cap len s d σ (w.alloc (.cells #[.int .i64 0, .nilIface, .int .i64 0, .nilIface] 407))):=h.alloc _
 have pH:Hid (Kept b w (w.alloc (.cells #[.int .i64 0, .nilIface, .int .i64 0, .nilIface] 407))):=(Kept.refl b w).alloc _
 have HB0:Hid (Bk (w.alloc (.cells #[.int .i64 0, .nilIface, .int .i64 0, .nilIface] 407)) w.heap.size [.int .i64 0, .nilIface, .int .i64 0, .nilIface]):=Bk.new _ _ _
 have hz0:(w.alloc (.cells #[.int .i64 0, .nilIface, .int .i64 0, .nilIface] 407)).heap.size=w.heap.size+1:=by simp
 clear h hw ht hσ
 go_enter Tryz.func353,Tryz.ntmps353
 go_wp2_with fail
 generalize w.alloc (.cells #[.int .i64 0, .nilIface, .int .i64 0, .nilIface] 407)=w0 at *
 refine (kL (n:=n) HH.out [119,104,101,110] (by decide) HW.out).mono ?_
 rw [HS.out]
 rintro r w1 ⟨v1,rfl,hp1,hk1,⟨a1,x1,rfl,hi1⟩,hr1⟩
 have bT:=hid hp1
 have bD:=hid hk1
 have HB1:Hid (Bk w1 w.heap.size [.int .i64 0, .nilIface, .int .i64 0, .nilIface]):=HB0.out.kept hk1 (by omega)
 have HI1:=hid hi1
 have HR1:Hid (σ1.aA=true->a1=(σ.at_ s:Nat)/\Rp w1 (Sp.tr s n .expr d .nil (σ.must s [119,104,101,110])) (w0.heap.size+1) w1.heap.size x1):=λhl=>by
  obtain ⟨x,e,_,r⟩:=hr1 hl
  obtain ⟨e0,e1⟩:=IZ e
  subst e0 e1
  exact ⟨rfl,r⟩
 have hz1:=hk1.size
 clear hp1 hk1 hi1 hr1 HH
 go_wp2_with fail
 refine (kL (n:=m) bT.out [116,104,101,110] (by decide) HT.out).mono ?_
 rintro r w2 ⟨v2,rfl,hp2,hk2,⟨a2,x2,rfl,hi2⟩,hr2⟩
 have HP2:=hid hp2
 have aY:=hid hk2
 have hB2:=HB1.out.kept hk2 (by omega)
 have HI2:=hid hi2
 have HR2:Hid ((Sp.run s m .expr d (σ1.must s [116,104,101,110])).aA=true->a2=(σ1.at_ s:Nat)/\Rp w2 (Sp.tr s m .expr d .nil (σ1.must s [116,104,101,110])) (w1.heap.size+1) w2.heap.size x2):=λhl=>by
  obtain ⟨x,e,_,r⟩:=hr2 hl
  obtain ⟨e0,e1⟩:=IZ e
  subst e0 e1
  exact ⟨rfl,r⟩
 have hz2:=hk2.size
 have c0:=hB2.c 0 (by decide)
 have c1:=hB2.c 1 (by decide)
 have c2:=hB2.c 2 (by decide)
 have c3:=hB2.c 3 (by decide)
 have f0:=hB2.f 0
 have f1:=hB2.f 1
 have f2:=hB2.f 2
 have f3:=hB2.f 3
 simp only [List.getElem_cons_zero,List.getElem_cons_succ] at c0 c1 c2 c3
 have hst1:=λa m w=>HI1.out.st a m w
 have hst2:=λa m w=>hi2.st a m w
 clear hp2 hk2 hi2 hr2 hB2
 go_wp2_with fail
 refine cL (v := .agg #[.int .i64 a1,x1, .int .i64 a2,x2]) (by simp [results,Tryz.results353,go_sem, *]) rfl ⟨_,rfl,(((HP2.out.put w.heap.size 0 (by omega) (by omega) _).put w.heap.size 1 (by omega) (by omega) _).put w.heap.size 2 (by omega) (by omega) _).put w.heap.size 3 (by omega) (by omega) _,(((((pH.out.trans bD.out).trans aY.out).aJ (by simp) _).aJ (by simp) _).aJ (by simp) _).aJ (by simp) _,⟨_,_,_,_,rfl,HI1.out,HI2.out⟩,λhl=>?_⟩
 obtain ⟨e2,r2⟩:=HR2.out hl
 obtain ⟨e1,r1⟩:=HR1.out (bK (dM hl))
 subst e1 e2
 have hset:∀ k,k≠w.heap.size->((((w2.setCell ⟨w.heap.size,0,none⟩ (.int .i64 (σ.at_ s:Nat))).setCell ⟨w.heap.size,1,none⟩ x1).setCell ⟨w.heap.size,2,none⟩ (.int .i64 (σ1.at_ s:Nat))).setCell ⟨w.heap.size,3,none⟩ x2).heap[k]?=w2.heap[k]?:=λk hk=>by
  rw [dQ _ _ _ _ hk,dQ _ _ _ _ hk,dQ _ _ _ _ hk,dQ _ _ _ _ hk]
 refine ⟨x1,x2,w1.heap.size,rfl,HI1.out,HI2.out,?_,?_⟩
 ·exact Rp.wide _ _ _ _ _ _ ((r1.cF HI1.out.bC aY.out (by omega) (aF _)).frame (by simp [World.setCell]) _ _ _ _ (λk h1 h2=>hset k (by omega)) (λ_ _ _ _ e=>absurd e (HI1.out.bC _ _ _))) (by omega) (aF _)
 ·exact Rp.wide _ _ _ _ _ _ (r2.frame (by simp [World.setCell]) _ _ _ _ (λk h1 h2=>hset k (by omega)) (λ_ _ _ _ e=>absurd e (HI2.out.bC _ _ _))) (by omega) (by simp [World.setCell])
attribute [local go_sem ↓] Go.wp_at_zero Go.wp_at_succ
abbrev pO:=Nat×Nd×Nat×Nd
def tN (x:pO):Nd->Nd
 | .dW l e => .dW (.arms x.1 x.2.1 x.2.2.1 x.2.2.2 l) e
 | y=>y
def wT (l:List pO) (nd:Nd):Nd:=l.foldr tN nd
def PZ (l:List pO):Nd:=l.foldr (λx r => .arms x.1 x.2.1 x.2.2.1 x.2.2.2 r) .nil
theorem tO:∀ (l:List pO) (e:Nd),wT l (.dW .nil e) = .dW (PZ l) e
 | [],_=>rfl
 | x::l,e=>by show tN x (wT l (.dW .nil e))=_;rw [tO l e];rfl
theorem Dv (l:List pO) (x:pO) (nd:Nd):wT (l ++ [x]) nd=wT l (tN x nd):=by simp [wT]
def iZ (s:Sp.Bs) (m d:Nat) (σ:St):St:=if σ.is s [119,104,101,110] then Sp.run s m .cX d σ else if σ.is s [101,108,115,101] then Sp.run s m .pA d σ else σ
def i1 (s:Sp.Bs) (m d:Nat) (σ:St):Nd:=if σ.is s [119,104,101,110] then Sp.tr s m .cX d .nil σ else if σ.is s [101,108,115,101] then .dW .nil (Sp.tr s m .pA d .nil σ) else .dW .nil .none
def oJ (s:Sp.Bs) (m d:Nat) (σ:St):St:=Sp.run s m .expr d ((Sp.run s (m+1) .expr d (σ.must s [119,104,101,110])).must s [116,104,101,110])
def mB (s:Sp.Bs) (m d:Nat) (σ:St):pO:=(σ.at_ s,Sp.tr s (m+1) .expr d .nil (σ.must s [119,104,101,110]),(Sp.run s (m+1) .expr d (σ.must s [119,104,101,110])).at_ s,Sp.tr s m .expr d .nil ((Sp.run s (m+1) .expr d (σ.must s [119,104,101,110])).must s [116,104,101,110]))
theorem Bb (s:Sp.Bs) (m d:Nat) (σ:St):Sp.run s (m+2) .cX d σ=iZ s m d (oJ s m d σ):=by
 have e1:Sp.run s (m+2) .cX d σ=Sp.run s (m+1) .caseT d (Sp.run s (m+1) .expr d (σ.must s [119,104,101,110])):=by conv=>lhs;rw [Sp.run]
 have e2:∀ τ,Sp.run s (m+1) .caseT d τ=iZ s m d (Sp.run s m .expr d (τ.must s [116,104,101,110])):=λτ=>by
  conv=>lhs;rw [Sp.run]
  rfl
 rw [e1,e2,oJ]
theorem Dw (wa ta:Nat) (e t y:Nd):yG (.clause wa e) (.clause ta t) y=tN (wa,e,ta,t) y:=by cases y <;> rfl
theorem wU (s:Sp.Bs) (m d:Nat) (σ:St):Sp.tr s (m+2) .cX d .nil σ=tN (mB s m d σ) (i1 s m d (oJ s m d σ)):=by
 have e1:Sp.tr s (m+2) .cX d .nil σ=Sp.tr s (m+1) .caseT d (.clause (σ.at_ s) (Sp.tr s (m+1) .expr d .nil (σ.must s [119,104,101,110]))) (Sp.run s (m+1) .expr d (σ.must s [119,104,101,110])):=by conv=>lhs;rw [Sp.tr]
 have e2:∀ a τ,Sp.tr s (m+1) .caseT d a τ=(if (Sp.run s m .expr d (τ.must s [116,104,101,110])).is s [119,104,101,110] then yG a (.clause (τ.at_ s) (Sp.tr s m .expr d .nil (τ.must s [116,104,101,110]))) (Sp.tr s m .cX d .nil (Sp.run s m .expr d (τ.must s [116,104,101,110]))) else if (Sp.run s m .expr d (τ.must s [116,104,101,110])).is s [101,108,115,101] then .dW (arm a (.clause (τ.at_ s) (Sp.tr s m .expr d .nil (τ.must s [116,104,101,110]))) .nil) (Sp.tr s m .pA d .nil (Sp.run s m .expr d (τ.must s [116,104,101,110]))) else .dW (arm a (.clause (τ.at_ s) (Sp.tr s m .expr d .nil (τ.must s [116,104,101,110]))) .nil) .none):=λa τ=>by rw [Sp.tr]
 rw [e1,e2,oJ,mB,i1]
 split
 ·exact Dw _ _ _ _ _
 ·split <;> rfl
theorem I0 (s:Sp.Bs) (m d:Nat) (σ:St) (h:σ.is s [119,104,101,110]=false):iZ s (m+1) d σ=vK s m d [101,108,115,101] σ:=by
 rw [iZ,h,vK]
 simp only [Bool.false_eq_true,if_false]
 split
 ·rename_i he;rw [Sp.run,mA he]
 ·rfl
theorem I1 (s:Sp.Bs) (m d:Nat) (σ:St) (h:σ.is s [119,104,101,110]=false):i1 s (m+1) d σ = .dW .nil (CV s m d [101,108,115,101] σ):=by
 rw [i1,h,CV]
 simp only [Bool.false_eq_true,if_false]
 split
 ·rename_i he;rw [Sp.tr,mA he]
 ·rfl
theorem Bc (s:Sp.Bs) (m d:Nat) (σ:St):rem s (oJ s m d σ)<=rem s (σ.must s [119,104,101,110]):=
 cE (cJ _ _ _ _ _) (cE (bZ _ _ _) (cJ _ _ _ _ _))
def wV (w:World) (g q:Nat):List pO->List Value->Nat->Nat->Prop
 | [], [],lo,hi=>lo<=hi
 | (wa,e,ta,t)::ns,a::x::c::y::xs,lo,hi=>a = .int .i64 (wa:Int)/\c = .int .i64 (ta:Int)/\∃ m1 m2 m3,(lo<=m1/\m1<=m2/\m2<=m3/\m3<=hi)/\¬ (m1<=g/\g<m3)/\¬ (m1<=q/\q<m3)/\cH x/\Rp w e m1 m2 x/\cH y/\Rp w t m2 m3 y/\wV w g q ns xs m3 hi
 | _,_,_,_=>False
theorem wV.le {w:World} {g q:Nat} : ∀ {ns:List pO} {xs:List Value} {lo hi:Nat},wV w g q ns xs lo hi->lo<=hi:=by
 intro ns xs lo hi h
 match ns,xs,h with
 | [], [],h=>exact h
 | (_,_,_,_)::_,_::_::_::_::_,h=>obtain ⟨_,_,_,_,_,hS,_⟩:=h;omega
theorem wV.snoc {w:World} {g q:Nat} {wa ta:Nat} {e t:Nd} {x y:Value} {m1 m2 m3:Nat} (h1:m1<=m2) (h2:m2<=m3) (hg:¬ (m1<=g/\g<m3)) (hq:¬ (m1<=q/\q<m3)) (n1:cH x) (r1:Rp w e m1 m2 x) (n2:cH y) (r2:Rp w t m2 m3 y) :
  ∀ {ns:List pO} {xs:List Value} {lo hi:Nat},wV w g q ns xs lo hi->hi<=m1->wV w g q (ns ++ [(wa,e,ta,t)]) (xs ++ [.int .i64 (wa:Int),x, .int .i64 (ta:Int),y]) lo m3:=by
 intro ns
 induction ns with
 | nil=>
  intro xs lo hi h hh
  match xs,h with
  | [],h=>exact ⟨rfl,rfl,m1,m2,m3,by have:lo<=hi:=h;omega,hg,hq,n1,r1,n2,r2,aF _⟩
 | cons z ns ih=>
  intro xs lo hi h hh
  obtain ⟨Tp,e',ta',t'⟩:=z
  match xs,h with
  | a::x'::c::y'::xs,h=>
   obtain ⟨ea,ec,a1,a2,a3,hS,h3,h4,h5,h6,h7,h8,h9⟩:=h
   have:=h9.le
   exact ⟨ea,ec,a1,a2,a3,by omega,h3,h4,h5,h6,h7,h8,ih h9 hh⟩
theorem wV.move {w:World} {g g' q:Nat} : ∀ {ns:List pO} {xs:List Value} {lo hi:Nat},wV w g q ns xs lo hi->hi<=g'->wV w g' q ns xs lo hi:=by
 intro ns
 induction ns with
 | nil=>intro xs lo hi h _;match xs,h with | [],h=>exact h
 | cons z ns ih=>
  intro xs lo hi h hh
  obtain ⟨Tp,e',ta',t'⟩:=z
  match xs,h with
  | a::x'::c::y'::xs,h=>
   obtain ⟨ea,ec,a1,a2,a3,hS,h3,h4,h5,h6,h7,h8,h9⟩:=h
   exact ⟨ea,ec,a1,a2,a3,hS,by omega,h4,h5,h6,h7,h8,ih h9 hh⟩
theorem wV.frame {w w' : World} {g q:Nat} (hs:w.heap.size<=w'.heap.size):∀ {ns:List pO} {xs:List Value} {lo hi:Nat},wV w g q ns xs lo hi->(∀ k,lo<=k->k<hi->k≠g->k≠q->w'.heap[k]?=w.heap[k]?)->wV w' g q ns xs lo hi:=by
 intro ns
 induction ns with
 | nil=>intro xs lo hi h _;match xs,h with | [],h=>exact h
 | cons z ns ih=>
  intro xs lo hi h hk
  obtain ⟨Tp,e',ta',t'⟩:=z
  match xs,h with
  | a::x'::c::y'::xs,h=>
   obtain ⟨ea,ec,a1,a2,a3,hS,h3,h4,h5,h6,h7,h8,h9⟩:=h
   have:=h9.le
   exact ⟨ea,ec,a1,a2,a3,hS,h3,h4,h5,h6.frame hs _ _ _ _ (λk p1 p2=>hk k (by omega) (by omega) (by omega) (by omega)) (λ_ _ _ _ e=>absurd e (h5 _ _ _)),h7,h8.frame hs _ _ _ _ (λk p1 p2=>hk k (by omega) (by omega) (by omega) (by omega)) (λ_ _ _ _ e=>absurd e (h7 _ _ _)),ih h9 λk p1 p2 p3 p4=>hk k (by omega) p2 p3 p4⟩
theorem wV.rp {w:World} {g q:Nat} (hg:g<w.heap.size) (cap:Nat):∀ {ns:List pO} {xs:List Value} {lo hi off:Nat},wV w g q ns xs lo hi->(∀ j u,xs[j]?=some u->w.cell? ⟨g,off+j,none⟩=some u)->Rp w (PZ ns) lo hi (.slice (some ⟨g,off,none⟩) ns.length cap):=by
 intro ns
 induction ns with
 | nil=>intro xs lo hi off h _;match xs,h with | [],h=>exact ⟨h,_,_,rfl⟩
 | cons z ns ih=>
  intro xs lo hi off h hc
  obtain ⟨Tp,e',ta',t'⟩:=z
  match xs,h with
  | a::x'::c::y'::xs,h=>
   obtain ⟨ea,ec,a1,a2,a3,hS,h3,h4,h5,h6,h7,h8,h9⟩:=h
   subst ea ec
   refine ⟨g,off,ns.length,cap,x',y',a1,a2,a3,rfl,hg,by unfold Sub;omega,by unfold Sub;omega,by simpa using hc 0 _ rfl,hc 1 _ rfl,hc 2 _ rfl,hc 3 _ rfl,h5,h6,h7,h8,?_⟩
   exact ih h9 λj u hj=>by have:=hc (j+4) u (by simpa using hj);rw [show off+4+j=off+(j+4) by omega];exact this
theorem K0:(Tryz.prog.info? 407).map (λi=>(i.zero,i.size,i.bytes))=some (some (.agg #[.int .i64 0, .nilIface, .int .i64 0, .nilIface]),4,48):=by kernel_rfl
end Go.Proofs.YtgnncnhkgmhngaaGreatDoor
