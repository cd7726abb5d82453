import Derived.Test.YtgnncnhkgmhngaaGreatDoorJ27
set_option maxHeartbeats 4000000
namespace Go.Proofs.YtgnncnhkgmhngaaGreatDoor
open Sp
open Go.RowKit
def Jp (w:World) (a:Nat) (nm:Nm) (ns:List (Nat×Nd)) (lo hi:Nat) (v:Value):Prop:=
 ∃ q sl,v = .pointer (some ⟨q,0,none⟩)/\lo<=q/\q<hi/\At w q [.int .i64 (a:Nat), .string (bz nm.1), .int .i64 (nm.2:Nat),sl, .nilIface]/\GD fL w ns (q+1) hi sl
def Pm (w:World) (a:Nat) (nm:Nm) (nd:Nd) (lo hi:Nat) (v:Value):Prop:=
 ∃ q y,v = .pointer (some ⟨q,0,none⟩)/\lo<=q/\q<hi/\At w q [.int .i64 (a:Nat), .string (bz nm.1), .int .i64 (nm.2:Nat), .slice none 0 0,y]/\aQ y/\Rp w nd (q+1) hi y
theorem GD.frame {α:Type} {P:World->α->List Value->Nat->Nat->Prop} {w w' : World} (hP:∀ n x m1 m2,P w n x m1 m2->(∀ k,m1<=k->k<m2->w'.heap[k]?=w.heap[k]?)->P w' n x m1 m2) {ns:List α} {lo hi:Nat} {v:Value} (h:GD P w ns lo hi v) (hk:∀ k,lo<=k->k<hi->w'.heap[k]?=w.heap[k]?):GD P w' ns lo hi v:=by
 obtain ⟨g,kc,xs,h1,e,a1,a2,a3,a4,a5⟩:=h
 exact ⟨g,kc,xs,h1,e,a1,a2,a3,a4.frame hP λk p1 p2 _=>hk k p1 (by omega),λj u hj=>(fB (w:=w) (a:=⟨g,j,none⟩) (hk g a1 a2)).trans (a5 j u hj)⟩
theorem kM.low {α:Type} {P:World->α->List Value->Nat->Nat->Prop} {w:World} {g:Nat} : ∀ {ns:List α} {xs:List (List Value)} {lo hi lo' : Nat},kM P w g ns xs lo hi->lo'<=lo->kM P w g ns xs lo' hi
 | [], [],lo,hi,lo',h,h1=>by have:lo<=hi:=h;show lo'<=hi;omega
 | _::_,_::_,lo,hi,lo',h,h1=>by
  obtain ⟨m1,m2,hS,p,r⟩:=h
  exact ⟨m1,m2,by unfold Sub at *;omega,p,r⟩
 | [],_::_,_,_,_,h,_=>h.elim
 | _::_, [],_,_,_,h,_=>h.elim
theorem GD.wide {α:Type} {P:World->α->List Value->Nat->Nat->Prop} {w:World} {ns:List α} {lo hi lo' hi' : Nat} {v:Value} (h:GD P w ns lo hi v) (h1:lo'<=lo) (h2:hi<=hi'):GD P w ns lo' hi' v:=by
 obtain ⟨g,kc,xs,t,e,a1,a2,a3,a4,a5⟩:=h
 exact ⟨g,kc,xs,t,e,by omega,by omega,by omega,a4.low h1,a5⟩
theorem xF {s:Sp.Bs} {n:Nat} : ∀ {m:Nat} {σ:St},(u6 s n m σ).aA=true->σ.aA=true
 | 0,_,h=>h
 | m+1,σ,h=>by
  rw [DS] at h
  have g:(rowT s n σ).aA=true:=by
   unfold Li at h
   split at h
   ·exact cP (xF h)
   ·exact h
  exact bK (dM (bK g))
theorem BG {b c cap len:Nat} {s:Sp.Bs} {m:Nat} {σ:St} {w:World} (IA:All b c cap len s (m+1)) (hn:m+1<=900000) (hm:32*rem s σ+31<=m+1) (hp:PS b c cap len s 0 σ w) (hv:St.is s [118,97,108,117,101,115] ((σ.must s [105,110,116,111]).aC s)=true) :
  Calls Tryz.prog 80 #[.pointer (some ⟨b,0,none⟩)] w (aX b c cap len s 0 (u6 s (m+1) (m+1) (St.step s ((σ.must s [105,110,116,111]).aC s))) w Lp λw' v=>Jp w' (σ.at_ s) (St.nm s (σ.must s [105,110,116,111])) (nW s (m+1) (m+1) (St.step s ((σ.must s [105,110,116,111]).aC s))) w.heap.size w'.heap.size v):=by
 have hbw:=hp.lb
 have hcw:=hp.lc
 have r1:=bZ s [105,110,116,111] σ
 have r2:=dL s (σ.must s [105,110,116,111])
 have r3:=cC s ((σ.must s [105,110,116,111]).aC s)
 obtain ⟨i,wd,hi,tc,PK⟩:=bG hp
 have jQ:Hid (σ.aA=true->aO s (pos s i)=σ.at_ s):=λhl=>(dO hi tc hl).1
 have qM:=hid hp
 have gJ:=jL PK
 have xD:=hid IA
 clear hp tc hi PK IA
 generalize kn (aD s (pos s i))=kk at *
 generalize aO s (pos s i)=st at *
 have hfd:=s7
 have hmf:=lN
 go_enter Tryz.func80,Tryz.ntmps80
 go_wp2_with fail
 refine (gJ.out _ rfl).mono ?_
 clear gJ
 rintro r w1 ⟨rfl,hb1⟩
 have bT:Hid (PS b c cap len s 0 σ (w1.alloc (.cells #[.int .i64 (st:Int), .string ⟨#[]⟩, .int .i64 0, .slice none 0 0, .nilIface] 235))):=(qM.out.below hb1).alloc _
 have bD:Hid (Kept b w (w1.alloc (.cells #[.int .i64 (st:Int), .string ⟨#[]⟩, .int .i64 0, .slice none 0 0, .nilIface] 235))):=(Kept.below hb1).alloc _
 have qB:Hid (Bk (w1.alloc (.cells #[.int .i64 (st:Int), .string ⟨#[]⟩, .int .i64 0, .slice none 0 0, .nilIface] 235)) w1.heap.size [.int .i64 (st:Int), .string ⟨#[]⟩, .int .i64 0, .slice none 0 0, .nilIface]):=Bk.new _ _ _
 have hz1:w.heap.size<=w1.heap.size:=hb1.size
 clear hb1 qM
 go_wp2_with fail
 refine (kK bT.out [105,110,116,111] (by decide) _ (by simp)).mono ?_
 generalize w1.alloc (.cells #[.int .i64 (st:Int), .string ⟨#[]⟩, .int .i64 0, .slice none 0 0, .nilIface] 235)=w1' at *
 rintro r w2 ⟨rfl,hp2,hk2⟩
 have HP2:=hid hp2
 have aY:=hid (bD.out.trans hk2)
 have iN:Hid (Bk w2 w1.heap.size [.int .i64 (st:Int), .string ⟨#[]⟩, .int .i64 0, .slice none 0 0, .nilIface]):=qB.out.kept hk2 (by omega)
 clear hp2 hk2 bT bD qB
 go_wp2_with fail
 refine (name_any HP2.out).mono ?_
 rintro r w4 ⟨v4,rfl,gD,hk4,⟨wd4,a4,rfl⟩,hq4⟩
 have sN:=iN.out.kept hk4 (by omega)
 have gY:Hid (PS b c cap len s 0 ((σ.must s [105,110,116,111]).aC s) ((w4.setCell ⟨w1.heap.size,1,none⟩ (.string wd4)).setCell ⟨w1.heap.size,2,none⟩ (.int .i64 a4))):=(gD.put w1.heap.size 1 (by omega) (by omega) _).put w1.heap.size 2 (by omega) (by omega) _
 have eC:Hid (Kept b w ((w4.setCell ⟨w1.heap.size,1,none⟩ (.string wd4)).setCell ⟨w1.heap.size,2,none⟩ (.int .i64 a4))):=((aY.out.trans hk4).aJ (by simpa using hz1) _).aJ (by simpa using hz1) _
 have lE:Hid (Bk ((w4.setCell ⟨w1.heap.size,1,none⟩ (.string wd4)).setCell ⟨w1.heap.size,2,none⟩ (.int .i64 a4)) w1.heap.size [.int .i64 (st:Int), .string wd4, .int .i64 a4, .slice none 0 0, .nilIface]):=(sN.put 1 (by simp) _).put 2 (by simp) _
 have HR4:Hid (St.aA ((σ.must s [105,110,116,111]).aC s)=true->wd4=bz (St.nm s (σ.must s [105,110,116,111])).1/\a4=((St.nm s (σ.must s [105,110,116,111])).2:Nat)):=λhl=>mC (hq4 hl)
 have c1:=sN.k1
 have c2:=sN.k2
 have f1:=sN.f 1
 have f2:=sN.f 2
 clear gD hk4 hq4 sN HP2 aY iN
 go_wp2_with fail
 refine (cQ gY.out [118,97,108,117,101,115] (by decide) _ (by simp)).mono ?_
 generalize hw4:(w4.setCell ⟨w1.heap.size,1,none⟩ (.string wd4)).setCell ⟨w1.heap.size,2,none⟩ (.int .i64 a4)=w4' at *
 clear hw4 c1 c2 f1 f2
 rintro r w5 ⟨rfl,nT,hk5⟩
 rw [aZ hv] at nT
 rw [hv]
 have iV:=hid nT
 have iD:=hid (eC.out.trans hk5)
 have eM:Hid (Bk w5 w1.heap.size [.int .i64 (st:Int), .string wd4, .int .i64 a4, .slice none 0 0, .nilIface]):=lE.out.kept hk5 (by omega)
 have rM:w1.heap.size<w5.heap.size:=eM.out.lt
 clear nT hk5 gY eC lE
 go_wp2_with fail
 refine (BC (m:=m) xD.out hn (by omega) (by omega) (by omega) iV.out).mono ?_
 rintro r w6 ⟨v6,rfl,Ay,hk6,⟨sa,sn,sc,rfl⟩,hq6⟩
 have E8:=eM.out.kept hk6 (by omega)
 have c3:=E8.k3
 have f3:=E8.f 3
 have kA:=hid Ay
 have iX:=hid (iD.out.trans hk6)
 have iY:Hid (Bk (w6.setCell ⟨w1.heap.size,3,none⟩ (.slice sa sn sc)) w1.heap.size [.int .i64 (st:Int), .string wd4, .int .i64 a4, .slice sa sn sc, .nilIface]):=E8.put 3 (by simp) _
 have H8:=hid hq6
 have Ds:=hk6.size
 clear Ay hk6 hq6 E8 iV eM iD
 go_wp2_with fail
 go_ret
 refine ⟨_,rfl,kA.out.put w1.heap.size 3 (by omega) (by omega) _,iX.out.aJ (by simpa using hz1) _,⟨_,rfl⟩,λhl=>?_⟩
 have hl1:St.aA ((σ.must s [105,110,116,111]).aC s)=true:=cP (xF hl)
 obtain ⟨e0,e1⟩:=HR4.out hl1
 have e2:=jQ.out (bK (fU hl1))
 refine ⟨_,(.slice sa sn sc),rfl,by omega,by simp [World.setCell];omega,?_,?_⟩
 ·rw [<- e0,<- e1,<- e2]
  exact iY.out.at_
 ·exact ((H8.out hl).frame (w':=w6.setCell ⟨w1.heap.size,3,none⟩ (.slice sa sn sc)) (λn x m1 m2 hp hk=>fL.frame (by simp [World.setCell]) n x m1 m2 hp hk) λk h1 h2=>dQ _ _ _ _ (by simp;omega)).wide (by omega) (by simp [World.setCell])
theorem BH {b c cap len:Nat} {s:Sp.Bs} {m:Nat} {σ:St} {w:World} (IA:All b c cap len s (m+1)) (hn:m+1<=900000) (hm:32*rem s σ+31<=m+1) (hp:PS b c cap len s 0 σ w) (hv:St.is s [118,97,108,117,101,115] ((σ.must s [105,110,116,111]).aC s)=false) :
  Calls Tryz.prog 80 #[.pointer (some ⟨b,0,none⟩)] w (aX b c cap len s 0 (Sp.run s (m+1) .query 0 ((σ.must s [105,110,116,111]).aC s)) w Lp λw' v=>Pm w' (σ.at_ s) (St.nm s (σ.must s [105,110,116,111])) (Sp.tr s (m+1) .query 0 .nil ((σ.must s [105,110,116,111]).aC s)) w.heap.size w'.heap.size v):=by
 have hbw:=hp.lb
 have hcw:=hp.lc
 have r1:=bZ s [105,110,116,111] σ
 have r2:=dL s (σ.must s [105,110,116,111])
 have r3:=cC s ((σ.must s [105,110,116,111]).aC s)
 obtain ⟨i,wd,hi,tc,PK⟩:=bG hp
 have jQ:Hid (σ.aA=true->aO s (pos s i)=σ.at_ s):=λhl=>(dO hi tc hl).1
 have qM:=hid hp
 have gJ:=jL PK
 have xD:=hid IA
 clear hp tc hi PK IA
 generalize kn (aD s (pos s i))=kk at *
 generalize aO s (pos s i)=st at *
 have hfd:=s7
 have hmf:=lN
 go_enter Tryz.func80,Tryz.ntmps80
 go_wp2_with fail
 refine (gJ.out _ rfl).mono ?_
 clear gJ
 rintro r w1 ⟨rfl,hb1⟩
 have bT:Hid (PS b c cap len s 0 σ (w1.alloc (.cells #[.int .i64 (st:Int), .string ⟨#[]⟩, .int .i64 0, .slice none 0 0, .nilIface] 235))):=(qM.out.below hb1).alloc _
 have bD:Hid (Kept b w (w1.alloc (.cells #[.int .i64 (st:Int), .string ⟨#[]⟩, .int .i64 0, .slice none 0 0, .nilIface] 235))):=(Kept.below hb1).alloc _
 have qB:Hid (Bk (w1.alloc (.cells #[.int .i64 (st:Int), .string ⟨#[]⟩, .int .i64 0, .slice none 0 0, .nilIface] 235)) w1.heap.size [.int .i64 (st:Int), .string ⟨#[]⟩, .int .i64 0, .slice none 0 0, .nilIface]):=Bk.new _ _ _
 have hz1:w.heap.size<=w1.heap.size:=hb1.size
 clear hb1 qM
 go_wp2_with fail
 refine (kK bT.out [105,110,116,111] (by decide) _ (by simp)).mono ?_
 generalize w1.alloc (.cells #[.int .i64 (st:Int), .string ⟨#[]⟩, .int .i64 0, .slice none 0 0, .nilIface] 235)=w1' at *
 rintro r w2 ⟨rfl,hp2,hk2⟩
 have HP2:=hid hp2
 have aY:=hid (bD.out.trans hk2)
 have iN:Hid (Bk w2 w1.heap.size [.int .i64 (st:Int), .string ⟨#[]⟩, .int .i64 0, .slice none 0 0, .nilIface]):=qB.out.kept hk2 (by omega)
 clear hp2 hk2 bT bD qB
 go_wp2_with fail
 refine (name_any HP2.out).mono ?_
 rintro r w4 ⟨v4,rfl,gD,hk4,⟨wd4,a4,rfl⟩,hq4⟩
 have sN:=iN.out.kept hk4 (by omega)
 have gY:Hid (PS b c cap len s 0 ((σ.must s [105,110,116,111]).aC s) ((w4.setCell ⟨w1.heap.size,1,none⟩ (.string wd4)).setCell ⟨w1.heap.size,2,none⟩ (.int .i64 a4))):=(gD.put w1.heap.size 1 (by omega) (by omega) _).put w1.heap.size 2 (by omega) (by omega) _
 have eC:Hid (Kept b w ((w4.setCell ⟨w1.heap.size,1,none⟩ (.string wd4)).setCell ⟨w1.heap.size,2,none⟩ (.int .i64 a4))):=((aY.out.trans hk4).aJ (by simpa using hz1) _).aJ (by simpa using hz1) _
 have lE:Hid (Bk ((w4.setCell ⟨w1.heap.size,1,none⟩ (.string wd4)).setCell ⟨w1.heap.size,2,none⟩ (.int .i64 a4)) w1.heap.size [.int .i64 (st:Int), .string wd4, .int .i64 a4, .slice none 0 0, .nilIface]):=(sN.put 1 (by simp) _).put 2 (by simp) _
 have HR4:Hid (St.aA ((σ.must s [105,110,116,111]).aC s)=true->wd4=bz (St.nm s (σ.must s [105,110,116,111])).1/\a4=((St.nm s (σ.must s [105,110,116,111])).2:Nat)):=λhl=>mC (hq4 hl)
 have c1:=sN.k1
 have c2:=sN.k2
 have f1:=sN.f 1
 have f2:=sN.f 2
 clear gD hk4 hq4 sN HP2 aY iN
 go_wp2_with fail
 refine (cQ gY.out [118,97,108,117,101,115] (by decide) _ (by simp)).mono ?_
 generalize hw4:(w4.setCell ⟨w1.heap.size,1,none⟩ (.string wd4)).setCell ⟨w1.heap.size,2,none⟩ (.int .i64 a4)=w4' at *
 clear hw4 c1 c2 f1 f2
 rintro r w5 ⟨rfl,nT,hk5⟩
 rw [bE hv] at nT
 rw [hv]
 have iV:=hid nT
 have iD:=hid (eC.out.trans hk5)
 have eM:Hid (Bk w5 w1.heap.size [.int .i64 (st:Int), .string wd4, .int .i64 a4, .slice none 0 0, .nilIface]):=lE.out.kept hk5 (by omega)
 have rM:w1.heap.size<w5.heap.size:=eM.out.lt
 clear nT hk5 gY eC lE
 go_wp2_with fail
 refine (xD.out.query 0 _ _ (by omega) (cE (Nat.add_le_add_left (by decide:lK .query<=31) _) (by omega)) iV.out).mono ?_
 rintro r w6 ⟨y6,rfl,Ay,hk6,Qx,hq6⟩
 have E8:=eM.out.kept hk6 (by omega)
 have c3:=E8.k4
 have f3:=E8.f 4
 have kA:=hid Ay
 have iX:=hid (iD.out.trans hk6)
 have iY:Hid (Bk (w6.setCell ⟨w1.heap.size,4,none⟩ y6) w1.heap.size [.int .i64 (st:Int), .string wd4, .int .i64 a4, .slice none 0 0,y6]):=E8.put 4 (by simp) _
 have H8:=hid hq6
 have Ds:=hk6.size
 have VI:=hid Qx
 have hv6:=Qx.st
 have hc6:=Qx.cells
 have ZL:=Qx.one
 unfold Value.cells at hc6
 clear Qx
 clear Ay hk6 hq6 E8 iV eM iD
 go_wp2_with fail
 go_ret
 refine ⟨_,rfl,kA.out.put w1.heap.size 4 (by omega) (by omega) _,iX.out.aJ (by simpa using hz1) _,⟨_,rfl⟩,λhl=>?_⟩
 have hl1:St.aA ((σ.must s [105,110,116,111]).aC s)=true:=dM hl
 obtain ⟨e0,e1⟩:=HR4.out hl1
 have e2:=jQ.out (bK (fU hl1))
 refine ⟨_,y6,rfl,by omega,by simp [World.setCell];omega,?_,VI.out,?_⟩
 ·rw [<- e0,<- e1,<- e2]
  exact iY.out.at_
 ·exact Rp.wide _ _ _ _ _ _ ((H8.out hl).frame (w':=w6.setCell ⟨w1.heap.size,4,none⟩ y6) (by simp [World.setCell]) _ _ _ _ (λk h1 h2=>dQ _ _ _ _ (by simp;omega)) (λblk off n c ee=>(VI.out.bC _ _ _ ee).elim)) (by omega) (by simp [World.setCell])
theorem xG {s:Sp.Bs} {n:Nat} : ∀ {m:Nat} {σ:St},(iQ s n m σ).aA=true->σ.aA=true
 | 0,_,h=>h
 | m+1,σ,h=>by
  rw [zL] at h
  have g:(pB s n σ).aA=true:=by
   unfold vR at h
   split at h
   ·exact cP (xG h)
   ·exact h
  exact fU (bK (dM g))
theorem BI {s:Sp.Bs} {n d:Nat} {z:Sp.Bs} {σ:St} (h:(vK s n d z σ).aA=true):σ.aA=true:=by
 unfold vK at h
 split at h
 ·exact cP (dM h)
 ·exact h
def Pn (w:World) (nm:Nm) (ns:List (Nm×Nat×Nd)) (wh:Nd) (lo hi:Nat) (v:Value):Prop:=
 ∃ q sl pv mid,v = .pointer (some ⟨q,0,none⟩)/\lo<=mid/\mid<=q/\q<hi/\At w q [.string (bz nm.1), .int .i64 (nm.2:Nat),sl,pv]/\GD lA w ns lo mid sl/\FW pv/\Rp w wh mid q pv
theorem BJ (s:Sp.Bs) (n:Nat):∀ (m:Nat) (σ:St),rem s (iQ s n m σ)<=rem s σ
 | 0,_=>aF _
 | m+1,σ=>by
  rw [zL]
  have h1:=zK s n σ
  unfold vR
  split
  ·exact cE (BJ s n m _) (cE (cC _ _) h1)
  ·exact h1
theorem DY {b c cap len:Nat} {s:Sp.Bs} {m:Nat} {σ:St} {w:World} (IA:All b c cap len s (m+1)) (IB:All b c cap len s m) (hn:m+1<=900000) (hm:32*rem s σ+31<=m+1) (hp:PS b c cap len s 0 σ w) :
  Calls Tryz.prog 82 #[.pointer (some ⟨b,0,none⟩)] w (aX b c cap len s 0 (Sp.run s (m+1) .dK 0 (iQ s (m+1) (m+1) ((σ.aC s).must s [115,101,116]))) w Lp λw' v=>Pn w' (σ.nm s) (lL s (m+1) (m+1) ((σ.aC s).must s [115,101,116])) (Sp.tr s (m+1) .dK 0 .nil (iQ s (m+1) (m+1) ((σ.aC s).must s [115,101,116]))) w.heap.size w'.heap.size v):=by
 have hbw:=hp.lb
 have hcw:=hp.lc
 have r1:=dL s σ
 have r2:=bZ s [115,101,116] (σ.aC s)
 have qM:=hid hp
 have r3:=BJ s (m+1) (m+1) ((σ.aC s).must s [115,101,116])
 have HV:Hid (Sp.run s (m+1) .dK 0 (iQ s (m+1) (m+1) ((σ.aC s).must s [115,101,116]))=vK s m 0 [119,104,101,114,101] (iQ s (m+1) (m+1) ((σ.aC s).must s [115,101,116]))):=tW s m 0 _
 have cA:Hid (Sp.tr s (m+1) .dK 0 .nil (iQ s (m+1) (m+1) ((σ.aC s).must s [115,101,116]))=CV s m 0 [119,104,101,114,101] (iQ s (m+1) (m+1) ((σ.aC s).must s [115,101,116]))):=qO s m 0 _
 have xD:=hid IA
 have So:=hid IB
 have hmf:=lN
 clear hp IA IB
 go_enter Tryz.func82,Tryz.ntmps82
 go_wp2_with fail
 refine (name_any qM.out).mono ?_
 rintro r w1 ⟨v1,rfl,hp1,hk1,⟨nL,a1,rfl⟩,hq1⟩
 have bT:Hid (PS b c cap len s 0 (σ.aC s) (w1.alloc (.cells #[.string nL, .int .i64 a1] 165))):=hp1.alloc _
 have bD:Hid (Kept b w (w1.alloc (.cells #[.string nL, .int .i64 a1] 165))):=hk1.alloc _
 have qB:Hid (Bk (w1.alloc (.cells #[.string nL, .int .i64 a1] 165)) w1.heap.size [.string nL, .int .i64 a1]):=Bk.new _ _ _
 have HR1:Hid ((σ.aC s).aA=true->nL=bz (σ.nm s).1/\a1=((σ.nm s).2:Nat)):=λhl=>mC (hq1 hl)
 have hz1:=hk1.size
 clear hp1 hk1 hq1 qM
 go_wp2_with fail
 refine (kK bT.out [115,101,116] (by decide) _ (by simp)).mono ?_
 generalize w1.alloc (.cells #[.string nL, .int .i64 a1] 165)=w1' at *
 rintro r w2 ⟨rfl,hp2,hk2⟩
 have HP2:=hid hp2
 have aY:=hid (bD.out.trans hk2)
 have iN:Hid (Bk w2 w1.heap.size [.string nL, .int .i64 a1]):=qB.out.kept hk2 (by omega)
 clear hp2 hk2 bT bD qB
 go_wp2_with fail
 have x0:=iN.out.k0
 have x1:=iN.out.k1
 have hx2:=iN.out.lt
 go_region_held3 (λw'=>w'.cell? ⟨w1.heap.size,0,none⟩=some (.string nL)/\w'.cell? ⟨w1.heap.size,1,none⟩=some (.int .i64 a1)) (first | exact ⟨x0,x1⟩ | exact ⟨x30,x31⟩ | exact ⟨x40,x41⟩ | exact ⟨(sN.alloc _).c 0 (by simp),(sN.alloc _).c 1 (by simp)⟩ | (constructor <;> go_simp)) (first | (go_at_call 130;refine (BE (m:=m) xD.out hn (by omega) (by omega) (by omega) HP2.out.drew).mono ?_;rintro e w3 ⟨v3,rfl,hp3,hk3,⟨sa,sn,sc,rfl⟩,hr3⟩;have Lr : Kept b w2 w3:=((Kept.refl b w2).drew).trans hk3;have H7:=iN.out.kept Lr (by omega);have x30:=H7.k0;have x31:=H7.k1) | (go_at_call 81;refine (eP (n:=m) hp3 [119,104,101,114,101] (by decide) (λhw w' hp'=>So.out.expr 0 _ _ (by omega) (by have:=aM hw;show 32*rem s _+9<=m;omega) hp')).mono ?_;rintro e w4 ⟨v4,rfl,gD,hk4,⟨pa,rfl⟩,hr4⟩;have sN:=H7.kept hk4 (by omega);have x40:=sN.k0;have x41:=sN.k1))
 have gY:=hid gD
 have bH:Hid (Kept b w w3):=aY.out.trans Lr
 have eC:=hid hk4
 have HR3:Hid ((iQ s (m+1) (m+1) ((σ.aC s).must s [115,101,116])).aA=true->GD lA w3 (lL s (m+1) (m+1) ((σ.aC s).must s [115,101,116])) w2.heap.size w3.heap.size (.slice sa sn sc)):=hr3
 have HR4:Hid ((vK s m 0 [119,104,101,114,101] (iQ s (m+1) (m+1) ((σ.aC s).must s [115,101,116]))).aA=true->Rp w4 (CV s m 0 [119,104,101,114,101] (iQ s (m+1) (m+1) ((σ.aC s).must s [115,101,116]))) w3.heap.size w4.heap.size (.pointer pa)):=hr4
 have hz2:=aY.out.size
 have hz3:=Lr.size
 have y8:=hk4.size
 clear hp3 hk3 Lr hr3 H7 gD hk4 hr4 sN x0 x1 x30 x31 x40 x41 HP2 iN aY
 go_wp2_with fail
 go_ret
 refine ⟨_,rfl,by rw [HV.out];exact gY.out.alloc _,(bH.out.trans eC.out).alloc _,⟨_,rfl⟩,λhl=>?_⟩
 rw [HV.out] at hl
 have hl3:(iQ s (m+1) (m+1) ((σ.aC s).must s [115,101,116])).aA=true:=BI hl
 obtain ⟨e0,e1⟩:=HR1.out (bK (xG hl3))
 refine ⟨_, .slice sa sn sc, .pointer pa,w3.heap.size,rfl,by omega,by omega,by simp,?_,?_,⟨_,rfl⟩,?_⟩
 ·rw [<- e0,<- e1]
  exact (Bk.new w4 #[.string nL, .int .i64 a1, .slice sa sn sc, .pointer pa] _).at_
 ·exact ((HR3.out hl3).frame (w':=w4.alloc (.cells #[.string nL, .int .i64 a1, .slice sa sn sc, .pointer pa] 252)) (λn x m1 m2 hp hk=>lA.frame (by simp;omega) n x m1 m2 hp hk) λk h1 h2=>(kX _ _ _ (by omega)).trans (eC.out.block k (by omega) (by omega))).wide (by omega) (aF _)
 ·rw [cA.out]
  exact (HR4.out hl).frame (by simp) _ _ _ _ (λk h1 h2=>kX _ _ _ h2) (λblk off n c ee=>by cases ee)
end Go.Proofs.YtgnncnhkgmhngaaGreatDoor
