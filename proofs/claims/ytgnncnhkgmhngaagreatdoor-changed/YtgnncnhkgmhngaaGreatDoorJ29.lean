import Derived.Test.YtgnncnhkgmhngaaGreatDoorJ28
set_option maxHeartbeats 4000000
namespace Go.Proofs.YtgnncnhkgmhngaaGreatDoor
open Sp
open Tryz
open Go.RowKit
def KE (w:World) (a:Nat) (nm:Nm) (ns:List (Nat×Nd)) (lo hi:Nat) (v:Value):Prop:=
 ∃ q sl,v = .pointer (some ⟨q,0,none⟩)/\lo<=q/\q<hi/\At w q [.int .i64 (a:Nat), .string (bz nm.1), .int .i64 (nm.2:Nat),sl, .nilIface]/\DE fZ w ns (q+1) hi sl
def Rm (w:World) (a:Nat) (nm:Nm) (nd:Nd) (lo hi:Nat) (v:Value):Prop:=
 ∃ q y,v = .pointer (some ⟨q,0,none⟩)/\lo<=q/\q<hi/\At w q [.int .i64 (a:Nat), .string (bz nm.1), .int .i64 (nm.2:Nat), .slice none 0 0,y]/\aR y/\Rp w nd (q+1) hi y
theorem DE.frame {α:Type} {P:World->α->List Value->Nat->Nat->Prop} {w w' : World} (hP:∀ n x m1 m2,P w n x m1 m2->(∀ k,m1<=k->k<m2->w'.heap[k]?=w.heap[k]?)->P w' n x m1 m2) {ns:List α} {lo hi:Nat} {v:Value} (h:DE P w ns lo hi v) (hk:∀ k,lo<=k->k<hi->w'.heap[k]?=w.heap[k]?):DE P w' ns lo hi v:=by
 obtain ⟨g,kc,xs,h1,e,a1,a2,a3,a4,a5⟩:=h
 exact ⟨g,kc,xs,h1,e,a1,a2,a3,a4.frame hP λk p1 p2 _=>hk k p1 (by omega),λj u hj=>(dV (w:=w) (a:=⟨g,j,none⟩) (hk g a1 a2)).trans (a5 j u hj)⟩
theorem gX.low {α:Type} {P:World->α->List Value->Nat->Nat->Prop} {w:World} {g:Nat} : ∀ {ns:List α} {xs:List (List Value)} {lo hi lo' : Nat},gX P w g ns xs lo hi->lo'<=lo->gX P w g ns xs lo' hi
 | [], [],lo,hi,lo',h,h1=>by have:lo<=hi:=h;show lo'<=hi;omega
 | _::_,_::_,lo,hi,lo',h,h1=>by
  obtain ⟨m1,m2,hS,p,r⟩:=h
  exact ⟨m1,m2,by unfold Sub at *;omega,p,r⟩
 | [],_::_,_,_,_,h,_=>h.elim
 | _::_, [],_,_,_,h,_=>h.elim
theorem DE.wide {α:Type} {P:World->α->List Value->Nat->Nat->Prop} {w:World} {ns:List α} {lo hi lo' hi' : Nat} {v:Value} (h:DE P w ns lo hi v) (h1:lo'<=lo) (h2:hi<=hi'):DE P w ns lo' hi' v:=by
 obtain ⟨g,kc,xs,t,e,a1,a2,a3,a4,a5⟩:=h
 exact ⟨g,kc,xs,t,e,by omega,by omega,by omega,a4.low h1,a5⟩
theorem yK {s:Sp.Bs} {n:Nat} : ∀ {m:Nat} {σ:St},(wI s n m σ).aA=true->σ.aA=true
 | 0,_,h=>h
 | m+1,σ,h=>by
  rw [EG] at h
  have g:(rowT s n σ).aA=true:=by
   unfold M0 at h
   split at h
   ·exact cU (yK h)
   ·exact h
  exact bK (dU (bK g))
theorem Ci {b c cap len:Nat} {s:Sp.Bs} {m:Nat} {σ:St} {w:World} (IA:All b c cap len s (m+1)) (hn:m+1<=900000) (hm:32*rem s σ+31<=m+1) (hp:PS b c cap len s 0 σ w) (hv:St.is s [118,97,108,117,101,115] ((σ.must s [105,110,116,111]).aD s)=true) :
  Calls prog 80 #[.pointer (some ⟨b,0,none⟩)] w (aX b c cap len s 0 (wI s (m+1) (m+1) (St.step s ((σ.must s [105,110,116,111]).aD s))) w M5 λw' v=>KE w' (σ.at_ s) (St.nm s (σ.must s [105,110,116,111])) (oO s (m+1) (m+1) (St.step s ((σ.must s [105,110,116,111]).aD s))) w.heap.size w'.heap.size v):=by
 have hbw:=hp.lb
 have hcw:=hp.lc
 have r1:=cA s [105,110,116,111] σ
 have r2:=dT s (σ.must s [105,110,116,111])
 have r3:=cN s ((σ.must s [105,110,116,111]).aD s)
 obtain ⟨i,wd,hi,tc,PK⟩:=bG hp
 have jV:Hid (σ.aA=true->aP s (pos s i)=σ.at_ s):=λhl=>(dW hi tc hl).1
 have rI:=hid hp
 have gP:=jR PK
 have yE:=hid IA
 clear hp tc hi PK IA
 generalize kn (aE s (pos s i))=kk at *
 generalize aP s (pos s i)=st at *
 have hfd:=t7
 have hmf:=mG
 go_enter func80,ntmps80
 go_wp2_with fail
 refine (gP.out _ rfl).mono ?_
 clear gP
 rintro r w1 ⟨rfl,hb1⟩
 have bP:Hid (PS b c cap len s 0 σ (w1.alloc (.cells #[.int .i64 (st:Int), .string ⟨#[]⟩, .int .i64 0, .slice none 0 0, .nilIface] 235))):=(rI.out.below hb1).alloc _
 have bD:Hid (Kept b w (w1.alloc (.cells #[.int .i64 (st:Int), .string ⟨#[]⟩, .int .i64 0, .slice none 0 0, .nilIface] 235))):=(Kept.below hb1).alloc _
 have qY:Hid (Bk (w1.alloc (.cells #[.int .i64 (st:Int), .string ⟨#[]⟩, .int .i64 0, .slice none 0 0, .nilIface] 235)) w1.heap.size [.int .i64 (st:Int), .string ⟨#[]⟩, .int .i64 0, .slice none 0 0, .nilIface]):=Bk.new _ _ _
 have hz1:w.heap.size<=w1.heap.size:=hb1.size
 clear hb1 rI
 go_wp2_with fail
 refine (kY bP.out [105,110,116,111] (by decide) _ (by simp)).mono ?_
 generalize w1.alloc (.cells #[.int .i64 (st:Int), .string ⟨#[]⟩, .int .i64 0, .slice none 0 0, .nilIface] 235)=w1' at *
 rintro r w2 ⟨rfl,hp2,hk2⟩
 have HP2:=hid hp2
 have aY:=hid (bD.out.trans hk2)
 have lL:Hid (Bk w2 w1.heap.size [.int .i64 (st:Int), .string ⟨#[]⟩, .int .i64 0, .slice none 0 0, .nilIface]):=qY.out.kept hk2 (by omega)
 clear hp2 hk2 bP bD qY
 go_wp2_with fail
 refine (name_any HP2.out).mono ?_
 rintro r w4 ⟨v4,rfl,gJ,hk4,⟨wd4,a4,rfl⟩,hq4⟩
 have tJ:=lL.out.kept hk4 (by omega)
 have iD:Hid (PS b c cap len s 0 ((σ.must s [105,110,116,111]).aD s) ((w4.setCell ⟨w1.heap.size,1,none⟩ (.string wd4)).setCell ⟨w1.heap.size,2,none⟩ (.int .i64 a4))):=(gJ.put w1.heap.size 1 (by omega) (by omega) _).put w1.heap.size 2 (by omega) (by omega) _
 have eS:Hid (Kept b w ((w4.setCell ⟨w1.heap.size,1,none⟩ (.string wd4)).setCell ⟨w1.heap.size,2,none⟩ (.int .i64 a4))):=((aY.out.trans hk4).aI (by simpa using hz1) _).aI (by simpa using hz1) _
 have lM:Hid (Bk ((w4.setCell ⟨w1.heap.size,1,none⟩ (.string wd4)).setCell ⟨w1.heap.size,2,none⟩ (.int .i64 a4)) w1.heap.size [.int .i64 (st:Int), .string wd4, .int .i64 a4, .slice none 0 0, .nilIface]):=(tJ.put 1 (by simp) _).put 2 (by simp) _
 have HR4:Hid (St.aA ((σ.must s [105,110,116,111]).aD s)=true->wd4=bz (St.nm s (σ.must s [105,110,116,111])).1/\a4=((St.nm s (σ.must s [105,110,116,111])).2:Nat)):=λhl=>mY (hq4 hl)
 have c1:=tJ.k1
 have c2:=tJ.k2
 have f1:=tJ.f 1
 have f2:=tJ.f 2
 clear gJ hk4 hq4 tJ HP2 aY lL
 go_wp2_with fail
 refine (cX iD.out [118,97,108,117,101,115] (by decide) _ (by simp)).mono ?_
 generalize hw4:(w4.setCell ⟨w1.heap.size,1,none⟩ (.string wd4)).setCell ⟨w1.heap.size,2,none⟩ (.int .i64 a4)=w4' at *
 clear hw4 c1 c2 f1 f2
 rintro r w5 ⟨rfl,oJ,hk5⟩
 rw [aZ hv] at oJ
 rw [hv]
 have i7:=hid oJ
 have iR:=hid (eS.out.trans hk5)
 have eT:Hid (Bk w5 w1.heap.size [.int .i64 (st:Int), .string wd4, .int .i64 a4, .slice none 0 0, .nilIface]):=lM.out.kept hk5 (by omega)
 have tG:w1.heap.size<w5.heap.size:=eT.out.lt
 clear oJ hk5 iD eS lM
 go_wp2_with fail
 refine (Ce (m:=m) yE.out hn (by omega) (by omega) (by omega) i7.out).mono ?_
 rintro r w6 ⟨v6,rfl,Bb,hk6,⟨sa,sn,sc,rfl⟩,hq6⟩
 have F9:=eT.out.kept hk6 (by omega)
 have c3:=F9.k3
 have f3:=F9.f 3
 have kN:=hid Bb
 have iS:=hid (iR.out.trans hk6)
 have jF:Hid (Bk (w6.setCell ⟨w1.heap.size,3,none⟩ (.slice sa sn sc)) w1.heap.size [.int .i64 (st:Int), .string wd4, .int .i64 a4, .slice sa sn sc, .nilIface]):=F9.put 3 (by simp) _
 have Jh:=hid hq6
 have x8:=hk6.size
 clear Bb hk6 hq6 F9 i7 eT iR
 go_wp2_with fail
 go_ret
 refine ⟨_,rfl,kN.out.put w1.heap.size 3 (by omega) (by omega) _,iS.out.aI (by simpa using hz1) _,⟨_,rfl⟩,λhl=>?_⟩
 have hl1:St.aA ((σ.must s [105,110,116,111]).aD s)=true:=cU (yK hl)
 obtain ⟨e0,e1⟩:=HR4.out hl1
 have e2:=jV.out (bK (gD hl1))
 refine ⟨_,(.slice sa sn sc),rfl,by omega,by simp [World.setCell];omega,?_,?_⟩
 ·rw [<- e0,<- e1,<- e2]
  exact jF.out.at_
 ·exact ((Jh.out hl).frame (w':=w6.setCell ⟨w1.heap.size,3,none⟩ (.slice sa sn sc)) (λn x m1 m2 hp hk=>fZ.frame (by simp [World.setCell]) n x m1 m2 hp hk) λk h1 h2=>c6 _ _ _ _ (by simp;omega)).wide (by omega) (by simp [World.setCell])
theorem Cj {b c cap len:Nat} {s:Sp.Bs} {m:Nat} {σ:St} {w:World} (IA:All b c cap len s (m+1)) (hn:m+1<=900000) (hm:32*rem s σ+31<=m+1) (hp:PS b c cap len s 0 σ w) (hv:St.is s [118,97,108,117,101,115] ((σ.must s [105,110,116,111]).aD s)=false) :
  Calls prog 80 #[.pointer (some ⟨b,0,none⟩)] w (aX b c cap len s 0 (Sp.run s (m+1) .query 0 ((σ.must s [105,110,116,111]).aD s)) w M5 λw' v=>Rm w' (σ.at_ s) (St.nm s (σ.must s [105,110,116,111])) (Sp.tr s (m+1) .query 0 .nil ((σ.must s [105,110,116,111]).aD s)) w.heap.size w'.heap.size v):=by
 have hbw:=hp.lb
 have hcw:=hp.lc
 have r1:=cA s [105,110,116,111] σ
 have r2:=dT s (σ.must s [105,110,116,111])
 have r3:=cN s ((σ.must s [105,110,116,111]).aD s)
 obtain ⟨i,wd,hi,tc,PK⟩:=bG hp
 have jV:Hid (σ.aA=true->aP s (pos s i)=σ.at_ s):=λhl=>(dW hi tc hl).1
 have rI:=hid hp
 have gP:=jR PK
 have yE:=hid IA
 clear hp tc hi PK IA
 generalize kn (aE s (pos s i))=kk at *
 generalize aP s (pos s i)=st at *
 have hfd:=t7
 have hmf:=mG
 go_enter func80,ntmps80
 go_wp2_with fail
 refine (gP.out _ rfl).mono ?_
 clear gP
 rintro r w1 ⟨rfl,hb1⟩
 have bP:Hid (PS b c cap len s 0 σ (w1.alloc (.cells #[.int .i64 (st:Int), .string ⟨#[]⟩, .int .i64 0, .slice none 0 0, .nilIface] 235))):=(rI.out.below hb1).alloc _
 have bD:Hid (Kept b w (w1.alloc (.cells #[.int .i64 (st:Int), .string ⟨#[]⟩, .int .i64 0, .slice none 0 0, .nilIface] 235))):=(Kept.below hb1).alloc _
 have qY:Hid (Bk (w1.alloc (.cells #[.int .i64 (st:Int), .string ⟨#[]⟩, .int .i64 0, .slice none 0 0, .nilIface] 235)) w1.heap.size [.int .i64 (st:Int), .string ⟨#[]⟩, .int .i64 0, .slice none 0 0, .nilIface]):=Bk.new _ _ _
 have hz1:w.heap.size<=w1.heap.size:=hb1.size
 clear hb1 rI
 go_wp2_with fail
 refine (kY bP.out [105,110,116,111] (by decide) _ (by simp)).mono ?_
 generalize w1.alloc (.cells #[.int .i64 (st:Int), .string ⟨#[]⟩, .int .i64 0, .slice none 0 0, .nilIface] 235)=w1' at *
 rintro r w2 ⟨rfl,hp2,hk2⟩
 have HP2:=hid hp2
 have aY:=hid (bD.out.trans hk2)
 have lL:Hid (Bk w2 w1.heap.size [.int .i64 (st:Int), .string ⟨#[]⟩, .int .i64 0, .slice none 0 0, .nilIface]):=qY.out.kept hk2 (by omega)
 clear hp2 hk2 bP bD qY
 go_wp2_with fail
 refine (name_any HP2.out).mono ?_
 rintro r w4 ⟨v4,rfl,gJ,hk4,⟨wd4,a4,rfl⟩,hq4⟩
 have tJ:=lL.out.kept hk4 (by omega)
 have iD:Hid (PS b c cap len s 0 ((σ.must s [105,110,116,111]).aD s) ((w4.setCell ⟨w1.heap.size,1,none⟩ (.string wd4)).setCell ⟨w1.heap.size,2,none⟩ (.int .i64 a4))):=(gJ.put w1.heap.size 1 (by omega) (by omega) _).put w1.heap.size 2 (by omega) (by omega) _
 have eS:Hid (Kept b w ((w4.setCell ⟨w1.heap.size,1,none⟩ (.string wd4)).setCell ⟨w1.heap.size,2,none⟩ (.int .i64 a4))):=((aY.out.trans hk4).aI (by simpa using hz1) _).aI (by simpa using hz1) _
 have lM:Hid (Bk ((w4.setCell ⟨w1.heap.size,1,none⟩ (.string wd4)).setCell ⟨w1.heap.size,2,none⟩ (.int .i64 a4)) w1.heap.size [.int .i64 (st:Int), .string wd4, .int .i64 a4, .slice none 0 0, .nilIface]):=(tJ.put 1 (by simp) _).put 2 (by simp) _
 have HR4:Hid (St.aA ((σ.must s [105,110,116,111]).aD s)=true->wd4=bz (St.nm s (σ.must s [105,110,116,111])).1/\a4=((St.nm s (σ.must s [105,110,116,111])).2:Nat)):=λhl=>mY (hq4 hl)
 have c1:=tJ.k1
 have c2:=tJ.k2
 have f1:=tJ.f 1
 have f2:=tJ.f 2
 clear gJ hk4 hq4 tJ HP2 aY lL
 go_wp2_with fail
 refine (cX iD.out [118,97,108,117,101,115] (by decide) _ (by simp)).mono ?_
 generalize hw4:(w4.setCell ⟨w1.heap.size,1,none⟩ (.string wd4)).setCell ⟨w1.heap.size,2,none⟩ (.int .i64 a4)=w4' at *
 clear hw4 c1 c2 f1 f2
 rintro r w5 ⟨rfl,oJ,hk5⟩
 rw [bE hv] at oJ
 rw [hv]
 have i7:=hid oJ
 have iR:=hid (eS.out.trans hk5)
 have eT:Hid (Bk w5 w1.heap.size [.int .i64 (st:Int), .string wd4, .int .i64 a4, .slice none 0 0, .nilIface]):=lM.out.kept hk5 (by omega)
 have tG:w1.heap.size<w5.heap.size:=eT.out.lt
 clear oJ hk5 iD eS lM
 go_wp2_with fail
 refine (yE.out.query 0 _ _ (by omega) (cF (Nat.add_le_add_left (by decide:mD .query<=31) _) (by omega)) i7.out).mono ?_
 rintro r w6 ⟨y6,rfl,Bb,hk6,SQ,hq6⟩
 have F9:=eT.out.kept hk6 (by omega)
 have c3:=F9.k4
 have f3:=F9.f 4
 have kN:=hid Bb
 have iS:=hid (iR.out.trans hk6)
 have jF:Hid (Bk (w6.setCell ⟨w1.heap.size,4,none⟩ y6) w1.heap.size [.int .i64 (st:Int), .string wd4, .int .i64 a4, .slice none 0 0,y6]):=F9.put 4 (by simp) _
 have Jh:=hid hq6
 have x8:=hk6.size
 have XL:=hid SQ
 have hv6:=SQ.st
 have hc6:=SQ.cells
 have ho6:=SQ.one
 unfold Value.cells at hc6
 clear SQ
 clear Bb hk6 hq6 F9 i7 eT iR
 go_wp2_with fail
 go_ret
 refine ⟨_,rfl,kN.out.put w1.heap.size 4 (by omega) (by omega) _,iS.out.aI (by simpa using hz1) _,⟨_,rfl⟩,λhl=>?_⟩
 have hl1:St.aA ((σ.must s [105,110,116,111]).aD s)=true:=dU hl
 obtain ⟨e0,e1⟩:=HR4.out hl1
 have e2:=jV.out (bK (gD hl1))
 refine ⟨_,y6,rfl,by omega,by simp [World.setCell];omega,?_,XL.out,?_⟩
 ·rw [<- e0,<- e1,<- e2]
  exact jF.out.at_
 ·exact Rp.wide _ _ _ _ _ _ ((Jh.out hl).frame (w':=w6.setCell ⟨w1.heap.size,4,none⟩ y6) (by simp [World.setCell]) _ _ _ _ (λk h1 h2=>c6 _ _ _ _ (by simp;omega)) (λblk off n c ee=>(XL.out.bC _ _ _ ee).elim)) (by omega) (by simp [World.setCell])
theorem yL {s:Sp.Bs} {n:Nat} : ∀ {m:Nat} {σ:St},(jA s n m σ).aA=true->σ.aA=true
 | 0,_,h=>h
 | m+1,σ,h=>by
  rw [Aj] at h
  have g:(pT s n σ).aA=true:=by
   unfold wZ at h
   split at h
   ·exact cU (yL h)
   ·exact h
  exact gD (bK (dU g))
theorem Ck {s:Sp.Bs} {n d:Nat} {z:Sp.Bs} {σ:St} (h:(wR s n d z σ).aA=true):σ.aA=true:=by
 unfold wR at h
 split at h
 ·exact cU (dU h)
 ·exact h
def Ro (w:World) (nm:Nm) (ns:List (Nm×Nat×Nd)) (wh:Nd) (lo hi:Nat) (v:Value):Prop:=
 ∃ q sl pv mid,v = .pointer (some ⟨q,0,none⟩)/\lo<=mid/\mid<=q/\q<hi/\At w q [.string (bz nm.1), .int .i64 (nm.2:Nat),sl,pv]/\DE f7 w ns lo mid sl/\DX pv/\Rp w wh mid q pv
theorem Cn (s:Sp.Bs) (n:Nat):∀ (m:Nat) (σ:St),rem s (jA s n m σ)<=rem s σ
 | 0,_=>aF _
 | m+1,σ=>by
  rw [Aj]
  have h1:=Ai s n σ
  unfold wZ
  split
  ·exact cF (Cn s n m _) (cF (cN _ _) h1)
  ·exact h1
theorem EM {b c cap len:Nat} {s:Sp.Bs} {m:Nat} {σ:St} {w:World} (IA:All b c cap len s (m+1)) (IB:All b c cap len s m) (hn:m+1<=900000) (hm:32*rem s σ+31<=m+1) (hp:PS b c cap len s 0 σ w) :
  Calls prog 82 #[.pointer (some ⟨b,0,none⟩)] w (aX b c cap len s 0 (Sp.run s (m+1) .dS 0 (jA s (m+1) (m+1) ((σ.aD s).must s [115,101,116]))) w M5 λw' v=>Ro w' (σ.nm s) (mE s (m+1) (m+1) ((σ.aD s).must s [115,101,116])) (Sp.tr s (m+1) .dS 0 .nil (jA s (m+1) (m+1) ((σ.aD s).must s [115,101,116]))) w.heap.size w'.heap.size v):=by
 have hbw:=hp.lb
 have hcw:=hp.lc
 have r1:=dT s σ
 have r2:=cA s [115,101,116] (σ.aD s)
 have rI:=hid hp
 have r3:=Cn s (m+1) (m+1) ((σ.aD s).must s [115,101,116])
 have HV:Hid (Sp.run s (m+1) .dS 0 (jA s (m+1) (m+1) ((σ.aD s).must s [115,101,116]))=wR s m 0 [119,104,101,114,101] (jA s (m+1) (m+1) ((σ.aD s).must s [115,101,116]))):=uZ s m 0 _
 have cL:Hid (Sp.tr s (m+1) .dS 0 .nil (jA s (m+1) (m+1) ((σ.aD s).must s [115,101,116]))=DC s m 0 [119,104,101,114,101] (jA s (m+1) (m+1) ((σ.aD s).must s [115,101,116]))):=rL s m 0 _
 have yE:=hid IA
 have Uz:=hid IB
 have hmf:=mG
 clear hp IA IB
 go_enter func82,ntmps82
 go_wp2_with fail
 refine (name_any rI.out).mono ?_
 rintro r w1 ⟨v1,rfl,hp1,hk1,⟨oB,a1,rfl⟩,hq1⟩
 have bP:Hid (PS b c cap len s 0 (σ.aD s) (w1.alloc (.cells #[.string oB, .int .i64 a1] 165))):=hp1.alloc _
 have bD:Hid (Kept b w (w1.alloc (.cells #[.string oB, .int .i64 a1] 165))):=hk1.alloc _
 have qY:Hid (Bk (w1.alloc (.cells #[.string oB, .int .i64 a1] 165)) w1.heap.size [.string oB, .int .i64 a1]):=Bk.new _ _ _
 have HR1:Hid ((σ.aD s).aA=true->oB=bz (σ.nm s).1/\a1=((σ.nm s).2:Nat)):=λhl=>mY (hq1 hl)
 have hz1:=hk1.size
 clear hp1 hk1 hq1 rI
 go_wp2_with fail
 refine (kY bP.out [115,101,116] (by decide) _ (by simp)).mono ?_
 generalize w1.alloc (.cells #[.string oB, .int .i64 a1] 165)=w1' at *
 rintro r w2 ⟨rfl,hp2,hk2⟩
 have HP2:=hid hp2
 have aY:=hid (bD.out.trans hk2)
 have lL:Hid (Bk w2 w1.heap.size [.string oB, .int .i64 a1]):=qY.out.kept hk2 (by omega)
 clear hp2 hk2 bP bD qY
 go_wp2_with fail
 have x0:=lL.out.k0
 have x1:=lL.out.k1
 have hx2:=lL.out.lt
 go_region_held3 (λw'=>w'.cell? ⟨w1.heap.size,0,none⟩=some (.string oB)/\w'.cell? ⟨w1.heap.size,1,none⟩=some (.int .i64 a1)) (first | exact ⟨x0,x1⟩ | exact ⟨x30,x31⟩ | exact ⟨x40,x41⟩ | exact ⟨(tJ.alloc _).c 0 (by simp),(tJ.alloc _).c 1 (by simp)⟩ | (constructor <;> go_simp)) (first | (go_at_call 130;refine (Cg (m:=m) yE.out hn (by omega) (by omega) (by omega) HP2.out.drew).mono ?_;rintro e w3 ⟨v3,rfl,hp3,hk3,⟨sa,sn,sc,rfl⟩,hr3⟩;have M7 : Kept b w2 w3:=((Kept.refl b w2).drew).trans hk3;have Je:=lL.out.kept M7 (by omega);have x30:=Je.k0;have x31:=Je.k1) | (go_at_call 81;refine (fC (n:=m) hp3 [119,104,101,114,101] (by decide) (λhw w' hp'=>Uz.out.expr 0 _ _ (by omega) (by have:=aO hw;show 32*rem s _+9<=m;omega) hp')).mono ?_;rintro e w4 ⟨v4,rfl,gJ,hk4,⟨pa,rfl⟩,hr4⟩;have tJ:=Je.kept hk4 (by omega);have x40:=tJ.k0;have x41:=tJ.k1))
 have iD:=hid gJ
 have bL:Hid (Kept b w w3):=aY.out.trans M7
 have eS:=hid hk4
 have HR3:Hid ((jA s (m+1) (m+1) ((σ.aD s).must s [115,101,116])).aA=true->DE f7 w3 (mE s (m+1) (m+1) ((σ.aD s).must s [115,101,116])) w2.heap.size w3.heap.size (.slice sa sn sc)):=hr3
 have HR4:Hid ((wR s m 0 [119,104,101,114,101] (jA s (m+1) (m+1) ((σ.aD s).must s [115,101,116]))).aA=true->Rp w4 (DC s m 0 [119,104,101,114,101] (jA s (m+1) (m+1) ((σ.aD s).must s [115,101,116]))) w3.heap.size w4.heap.size (.pointer pa)):=hr4
 have hz2:=aY.out.size
 have hz3:=M7.size
 have tH:=hk4.size
 clear hp3 hk3 M7 hr3 Je gJ hk4 hr4 tJ x0 x1 x30 x31 x40 x41 HP2 lL aY
 go_wp2_with fail
 go_ret
 refine ⟨_,rfl,by rw [HV.out];exact iD.out.alloc _,(bL.out.trans eS.out).alloc _,⟨_,rfl⟩,λhl=>?_⟩
 rw [HV.out] at hl
 have hl3:(jA s (m+1) (m+1) ((σ.aD s).must s [115,101,116])).aA=true:=Ck hl
 obtain ⟨e0,e1⟩:=HR1.out (bK (yL hl3))
 refine ⟨_, .slice sa sn sc, .pointer pa,w3.heap.size,rfl,by omega,by omega,by simp,?_,?_,⟨_,rfl⟩,?_⟩
 ·rw [<- e0,<- e1]
  exact (Bk.new w4 #[.string oB, .int .i64 a1, .slice sa sn sc, .pointer pa] _).at_
 ·exact ((HR3.out hl3).frame (w':=w4.alloc (.cells #[.string oB, .int .i64 a1, .slice sa sn sc, .pointer pa] 252)) (λn x m1 m2 hp hk=>f7.frame (by simp;omega) n x m1 m2 hp hk) λk h1 h2=>(lK _ _ _ (by omega)).trans (eS.out.block k (by omega) (by omega))).wide (by omega) (aF _)
 ·rw [cL.out]
  exact (HR4.out hl).frame (by simp) _ _ _ _ (λk h1 h2=>lK _ _ _ h2) (λblk off n c ee=>by cases ee)
end Go.Proofs.YtgnncnhkgmhngaaGreatDoor
