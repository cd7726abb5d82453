import Derived.Test.YtgnncnhkgmhngaaGreatDoorJ28
set_option maxHeartbeats 20000000
namespace Go.Proofs.YtgnncnhkgmhngaaGreatDoor
open Sp
open Go.RowKit
def nM (w:World):wB->Nat->Nat->Value->Prop
 | .create t cols,lo,hi,v=>∃ p,v = .iface 160 p/\Jo w t cols lo hi p
 | .drop t,lo,hi,v=>∃ q,v = .iface 163 (.pointer (some ⟨q,0,none⟩))/\lo<=q/\q<hi/\At w q [.string (bz t.1), .int .i64 (t.2:Nat)]
 | .dH a t rows,lo,hi,v=>∃ p,v = .iface 169 p/\Jp w a t rows lo hi p
 | .eO a t nd,lo,hi,v=>∃ p,v = .iface 169 p/\Pm w a t nd lo hi p
 | .delete t wh,lo,hi,v=>∃ q pv,v = .iface 171 (.pointer (some ⟨q,0,none⟩))/\lo<=q/\q<hi/\At w q [.string (bz t.1), .int .i64 (t.2:Nat),pv]/\FW pv/\Rp w wh lo q pv
 | .update t sets wh,lo,hi,v=>∃ p,v = .iface 176 p/\Pn w t sets wh lo hi p
 | .trans z,lo,hi,v=>∃ q,v = .iface 122 (.pointer (some ⟨q,0,none⟩))/\lo<=q/\q<hi/\At w q [.string (bz z)]
 | .query nd,lo,hi,v=>Rp w nd lo hi v
theorem Jo.low {w:World} {nm:Nm} {ns:List (Nm×Int)} {lo hi lo' : Nat} {v:Value} (h:Jo w nm ns lo hi v) (h1:lo'<=lo):Jo w nm ns lo' hi v:=by
 obtain ⟨q,sl,e,a,b,c,d⟩:=h
 exact ⟨q,sl,e,by omega,b,c,d.wide h1 (aF _)⟩
theorem Jp.low {w:World} {a:Nat} {nm:Nm} {ns:List (Nat×Nd)} {lo hi lo' : Nat} {v:Value} (h:Jp w a nm ns lo hi v) (h1:lo'<=lo):Jp w a nm ns lo' hi v:=by
 obtain ⟨q,sl,e,a,b,c,d⟩:=h
 exact ⟨q,sl,e,by omega,b,c,d⟩
theorem Pm.low {w:World} {a:Nat} {nm:Nm} {nd:Nd} {lo hi lo' : Nat} {v:Value} (h:Pm w a nm nd lo hi v) (h1:lo'<=lo):Pm w a nm nd lo' hi v:=by
 obtain ⟨q,sl,e,a,b,c,d⟩:=h
 exact ⟨q,sl,e,by omega,b,c,d⟩
theorem Pn.low {w:World} {nm:Nm} {ns:List (Nm×Nat×Nd)} {wh:Nd} {lo hi lo' : Nat} {v:Value} (h:Pn w nm ns wh lo hi v) (h1:lo'<=lo):Pn w nm ns wh lo' hi v:=by
 obtain ⟨q,sl,pv,mid,e,a,b,c,d,f,g⟩:=h
 exact ⟨q,sl,pv,mid,e,by omega,b,c,d,f.wide h1 (aF _),g⟩
theorem three (s:Sp.Bs) (x y z:Sp.Bs) (σ:St):aT s [x,y,z] σ=(σ.is s x||σ.is s y||σ.is s z):=by simp [aT,Bool.or_assoc]
theorem vS {b c cap len:Nat} {s:Sp.Bs} {m:Nat} {σ:St} {w:World} (IA:All b c cap len s (m+1)) (IB:All b c cap len s m) (hn:m+1<=900000) (hm:32*rem s σ+31<=m+1) (hp:PS b c cap len s 0 σ w) :
  Calls Tryz.prog 48 #[.pointer (some ⟨b,0,none⟩)] w (aX b c cap len s 0 (stmt s (m+1) σ) w aQ λw' v=>nM w' (sC s (m+1) σ) w.heap.size w'.heap.size v):=by
 have hbw:=hp.lb
 have hcw:=hp.lc
 have r0:=cC s σ
 obtain ⟨i,wd,hi,tc,PK⟩:=bG hp
 have jQ:Hid (σ.aA=true->(∀ e,σ = .live e->aD s e ≠ .bad)->wd=bz (σ.word s)):=λhl=>(dO hi tc hl).2
 have qM:=hid hp
 have gJ:=jL PK
 have xD:=hid IA
 have So:=hid IB
 clear hp tc hi PK IA IB
 generalize kn (aD s (pos s i))=kk at *
 generalize aO s (pos s i)=st at *
 have hfd:=PD
 go_enter Tryz.func48,Tryz.ntmps48
 go_wp2_with fail
 refine (gJ.out _ rfl).mono ?_
 clear gJ
 rintro r w1 ⟨rfl,hb1⟩
 have bT:Hid (PS b c cap len s 0 σ (w1.alloc (.cells #[.int .i64 kk, .int .i64 (st:Int), .string wd] 155))):=(qM.out.below hb1).alloc _
 have bD:Hid (Kept b w (w1.alloc (.cells #[.int .i64 kk, .int .i64 (st:Int), .string wd] 155))):=(Kept.below hb1).alloc _
 have qB:Hid (Bk (w1.alloc (.cells #[.int .i64 kk, .int .i64 (st:Int), .string wd] 155)) w1.heap.size [.int .i64 kk, .int .i64 (st:Int), .string wd]):=Bk.new _ _ _
 have hz1:w.heap.size<=w1.heap.size:=hb1.size
 clear hb1 qM
 go_wp2_with fail
 refine (cQ bT.out [99,114,101,97,116,101] (by decide) _ (by simp)).mono ?_
 generalize w1.alloc (.cells #[.int .i64 kk, .int .i64 (st:Int), .string wd] 155)=w1' at *
 rintro r w2 ⟨rfl,hp2,hk2⟩
 cases b6:σ.is s [99,114,101,97,116,101]
 case true=>
  have HV:Hid (stmt s (m+1) σ=VH s m (σ.step s)):=by show _=_;simp only [stmt,b6,if_true];rfl
  have cA:Hid (sC s (m+1) σ = .create (((σ.step s).must s [116,97,98,108,101]).nm s) (nV s (m+1) 0 ((((σ.step s).must s [116,97,98,108,101]).aC s).must s [40]))):=by show _=_;simp only [sC,b6,if_true]
  rw [aZ b6] at hp2
  have HP2:=hid hp2
  have aY:=hid (bD.out.trans hk2)
  have iN:Hid (Bk w2 w1.heap.size [.int .i64 kk, .int .i64 (st:Int), .string wd]):=qB.out.kept hk2 (by omega)
  clear hp2 hk2 bT bD qB
  go_wp2_with fail
  refine (DX (m:=m) (by omega) (by omega) HP2.out).mono ?_
  rintro r rP ⟨v20,rfl,jS,iT,⟨N6,rfl⟩,pS⟩
  have oO:Hid (PS b c cap len s 0 (stmt s (m+1) σ) rP):=by show PS b c cap len s 0 _ rP;rw [HV.out];exact jS
  have mN:=hid (aY.out.trans iT)
  have Ls:=aY.out.size
  have zM:Hid ((stmt s (m+1) σ).aA=true->nM rP (sC s (m+1) σ) w.heap.size rP.heap.size (.iface 160 (.pointer (some ⟨N6,0,none⟩)))):=λhl=>by rw [HV.out] at hl;rw [cA.out];exact ⟨_,rfl,Jo.low (pS hl) Ls⟩
  clear jS iT pS HP2 aY iN
  go_wp2_with fail
  go_ret
  exact ⟨_,rfl,oO.out,mN.out,Or.inr ⟨_,_,rfl⟩,zM.out⟩
 rw [bE b6] at hp2
 have HP2:=hid hp2
 have aY:=hid (bD.out.trans hk2)
 have iN:Hid (Bk w2 w1.heap.size [.int .i64 kk, .int .i64 (st:Int), .string wd]):=qB.out.kept hk2 (by omega)
 clear hp2 hk2 bT bD qB
 go_wp2_with fail
 refine (aW HP2.out [100,114,111,112] (by decide)).mono ?_
 rintro r w3 ⟨rfl,hp3,hk3⟩
 cases eK:σ.is s [100,114,111,112]
 case true=>
  have HV:Hid (stmt s (m+1) σ=St.aC s ((σ.step s).must s [116,97,98,108,101])):=by show _=_;simp only [stmt,b6,eK,Bool.false_eq_true,if_true,if_false];skip
  have cA:Hid (sC s (m+1) σ = .drop (St.nm s ((σ.step s).must s [116,97,98,108,101]))):=by show _=_;simp only [sC,b6,eK,Bool.false_eq_true,if_true,if_false]
  rw [aZ eK] at hp3
  have cS:=hid hp3
  have bH:=hid (aY.out.trans hk3)
  have vI:Hid (Bk w3 w1.heap.size [.int .i64 kk, .int .i64 (st:Int), .string wd]):=iN.out.kept hk3 (by omega)
  clear hp3 hk3 HP2 aY iN
  go_wp2_with fail
  refine (b8 cS.out [116,97,98,108,101] (by decide)).mono ?_
  rintro r rP ⟨rfl,jS,iT⟩
  have oO:=hid jS
  have mN:=hid (bH.out.trans iT)
  clear jS iT cS bH vI
  go_wp2_with fail
  refine (name_any oO.out).mono ?_
  rintro r Sq ⟨v21,rfl,Jq,DZ,⟨Jr,a21,rfl⟩,Js⟩
  have Lu:Hid (PS b c cap len s 0 (stmt s (m+1) σ) Sq):=by show PS b c cap len s 0 _ Sq;rw [HV.out];exact Jq
  have Lw:=hid (mN.out.trans DZ)
  have N7:Hid ((stmt s (m+1) σ).aA=true->Jr=bz (St.nm s ((σ.step s).must s [116,97,98,108,101])).1/\a21=((St.nm s ((σ.step s).must s [116,97,98,108,101])).2:Nat)):=λhl=>by rw [HV.out] at hl;exact mC (Js hl)
  have Qy:=(mN.out.trans DZ).size
  clear Jq DZ Js oO mN
  go_wp2_with fail
  go_ret
  refine ⟨_,rfl,Lu.out.alloc _,Lw.out.alloc _,Or.inr ⟨_,_,rfl⟩,λhl=>?_⟩
  obtain ⟨e0,e1⟩:=N7.out hl
  rw [cA.out]
  refine ⟨_,rfl,by omega,by simp,?_⟩
  rw [<- e0,<- e1]
  exact (Bk.new Sq #[.string Jr, .int .i64 a21] _).at_
 rw [bE eK] at hp3
 have cS:=hid hp3
 have bH:=hid (aY.out.trans hk3)
 have vI:Hid (Bk w3 w1.heap.size [.int .i64 kk, .int .i64 (st:Int), .string wd]):=iN.out.kept hk3 (by omega)
 clear hp3 hk3 HP2 aY iN
 go_wp2_with fail
 refine (aW cS.out [105,110,115,101,114,116] (by decide)).mono ?_
 rintro r w4 ⟨rfl,gD,hk4⟩
 cases c7:σ.is s [105,110,115,101,114,116]
 case true=>
  rw [aZ c7] at gD
  have gY:=hid gD
  have eC:=hid (bH.out.trans hk4)
  have lE:Hid (Bk w4 w1.heap.size [.int .i64 kk, .int .i64 (st:Int), .string wd]):=vI.out.kept hk4 (by omega)
  clear gD hk4 cS bH vI
  go_wp2_with fail
  cases jT:St.is s [118,97,108,117,101,115] (((σ.step s).must s [105,110,116,111]).aC s)
  case true=>
   have HV:Hid (stmt s (m+1) σ=u6 s (m+1) (m+1) (St.step s (((σ.step s).must s [105,110,116,111]).aC s))):=by show _=_;simp only [stmt,b6,eK,c7,jT,Bool.false_eq_true,if_true,if_false];skip
   have cA:Hid (sC s (m+1) σ = .dH ((σ.step s).at_ s) (((σ.step s).must s [105,110,116,111]).nm s) (nW s (m+1) (m+1) (St.step s (((σ.step s).must s [105,110,116,111]).aC s)))):=by show _=_;simp only [sC,b6,eK,c7,jT,Bool.false_eq_true,if_true,if_false]
   refine (BG xD.out hn (by omega) gY.out jT).mono ?_
   rintro r rP ⟨v20,rfl,jS,iT,⟨N6,rfl⟩,pS⟩
   have oO:Hid (PS b c cap len s 0 (stmt s (m+1) σ) rP):=by show PS b c cap len s 0 _ rP;rw [HV.out];exact jS
   have mN:=hid (eC.out.trans iT)
   have Ls:=eC.out.size
   have zM:Hid ((stmt s (m+1) σ).aA=true->nM rP (sC s (m+1) σ) w.heap.size rP.heap.size (.iface 169 (.pointer (some ⟨N6,0,none⟩)))):=λhl=>by rw [HV.out] at hl;rw [cA.out];exact ⟨_,rfl,Jp.low (pS hl) Ls⟩
   clear jS iT pS gY eC lE
   go_wp2_with fail
   go_ret
   exact ⟨_,rfl,oO.out,mN.out,Or.inr ⟨_,_,rfl⟩,zM.out⟩
  have HV:Hid (stmt s (m+1) σ=Sp.run s (m+1) .query 0 (((σ.step s).must s [105,110,116,111]).aC s)):=by show _=_;simp only [stmt,b6,eK,c7,jT,Bool.false_eq_true,if_true,if_false];skip
  have cA:Hid (sC s (m+1) σ = .eO ((σ.step s).at_ s) (((σ.step s).must s [105,110,116,111]).nm s) (Sp.tr s (m+1) .query 0 .nil (((σ.step s).must s [105,110,116,111]).aC s))):=by show _=_;simp only [sC,b6,eK,c7,jT,Bool.false_eq_true,if_true,if_false]
  refine (BH xD.out hn (by omega) gY.out jT).mono ?_
  rintro r rP ⟨v20,rfl,jS,iT,⟨N6,rfl⟩,pS⟩
  have oO:Hid (PS b c cap len s 0 (stmt s (m+1) σ) rP):=by show PS b c cap len s 0 _ rP;rw [HV.out];exact jS
  have mN:=hid (eC.out.trans iT)
  have Ls:=eC.out.size
  have zM:Hid ((stmt s (m+1) σ).aA=true->nM rP (sC s (m+1) σ) w.heap.size rP.heap.size (.iface 169 (.pointer (some ⟨N6,0,none⟩)))):=λhl=>by rw [HV.out] at hl;rw [cA.out];exact ⟨_,rfl,Pm.low (pS hl) Ls⟩
  clear jS iT pS gY eC lE
  go_wp2_with fail
  go_ret
  exact ⟨_,rfl,oO.out,mN.out,Or.inr ⟨_,_,rfl⟩,zM.out⟩
 rw [bE c7] at gD
 have gY:=hid gD
 have eC:=hid (bH.out.trans hk4)
 have lE:Hid (Bk w4 w1.heap.size [.int .i64 kk, .int .i64 (st:Int), .string wd]):=vI.out.kept hk4 (by omega)
 clear gD hk4 cS bH vI
 go_wp2_with fail
 refine (aW gY.out [100,101,108,101,116,101] (by decide)).mono ?_
 rintro r w5 ⟨rfl,nT,hk5⟩
 cases eN:σ.is s [100,101,108,101,116,101]
 case true=>
  have r4:=bZ s [102,114,111,109] (σ.step s)
  have r5:=dL s ((σ.step s).must s [102,114,111,109])
  have HV:Hid (stmt s (m+1) σ=vK s m 0 [119,104,101,114,101] (St.aC s ((σ.step s).must s [102,114,111,109]))):=by show _=_;simp only [stmt,b6,eK,c7,eN,Bool.false_eq_true,if_true,if_false];exact tW s m 0 _
  have cA:Hid (sC s (m+1) σ = .delete (St.nm s ((σ.step s).must s [102,114,111,109])) (CV s m 0 [119,104,101,114,101] (St.aC s ((σ.step s).must s [102,114,111,109])))):=by show _=_;simp only [sC,b6,eK,c7,eN,Bool.false_eq_true,if_true,if_false];rw [qO s m 0 _]
  rw [aZ eN] at nT
  have iV:=hid nT
  have iD:=hid (eC.out.trans hk5)
  have eM:Hid (Bk w5 w1.heap.size [.int .i64 kk, .int .i64 (st:Int), .string wd]):=lE.out.kept hk5 (by omega)
  clear nT hk5 gY eC lE
  go_wp2_with fail
  refine (b8 iV.out [102,114,111,109] (by decide)).mono ?_
  rintro r rP ⟨rfl,jS,iT⟩
  have oO:=hid jS
  have mN:=hid (iD.out.trans iT)
  clear jS iT iV iD eM
  go_wp2_with fail
  refine (name_any oO.out).mono ?_
  rintro r Sq ⟨v21,rfl,Jq,DZ,⟨Jr,a21,rfl⟩,Js⟩
  have Lu:=hid Jq
  have Lw:=hid (mN.out.trans DZ)
  have N7:Hid ((St.aC s ((σ.step s).must s [102,114,111,109])).aA=true->Jr=bz (St.nm s ((σ.step s).must s [102,114,111,109])).1/\a21=((St.nm s ((σ.step s).must s [102,114,111,109])).2:Nat)):=λhl=>mC (Js hl)
  have Qy:=(mN.out.trans DZ).size
  clear Jq DZ Js oO mN
  go_wp2_with fail
  refine (eP (n:=m) Lu.out [119,104,101,114,101] (by decide) (λhw w' hp'=>So.out.expr 0 _ _ (by omega) (by have:=aM hw;show 32*rem s _+9<=m;omega) hp')).mono ?_
  rintro r T3 ⟨v22,rfl,Qz,N8,⟨pa,rfl⟩,QA⟩
  have T4:Hid (PS b c cap len s 0 (stmt s (m+1) σ) T3):=by show PS b c cap len s 0 _ T3;rw [HV.out];exact Qz
  have T5:=hid (Lw.out.trans N8)
  have T7:=hid QA
  have X8:=N8.size
  clear Qz N8 QA Lu Lw
  go_wp2_with fail
  go_ret
  refine ⟨_,rfl,T4.out.alloc _,T5.out.alloc _,Or.inr ⟨_,_,rfl⟩,λhl=>?_⟩
  rw [HV.out] at hl
  obtain ⟨e0,e1⟩:=N7.out (BI hl)
  rw [cA.out]
  refine ⟨_, .pointer pa,rfl,by omega,by simp,?_,⟨_,rfl⟩,?_⟩
  ·rw [<- e0,<- e1]
   exact (Bk.new T3 #[.string Jr, .int .i64 a21, .pointer pa] _).at_
  ·exact Rp.wide _ _ _ _ _ _ ((T7.out hl).frame (by simp) _ _ _ _ (λk h1 h2=>kX _ _ _ h2) (λblk off n c ee=>by cases ee)) Qy (aF _)
 rw [bE eN] at nT
 have iV:=hid nT
 have iD:=hid (eC.out.trans hk5)
 have eM:Hid (Bk w5 w1.heap.size [.int .i64 kk, .int .i64 (st:Int), .string wd]):=lE.out.kept hk5 (by omega)
 clear nT hk5 gY eC lE
 go_wp2_with fail
 refine (aW iV.out [117,112,100,97,116,101] (by decide)).mono ?_
 rintro r w6 ⟨rfl,Ay,hk6⟩
 cases gN:σ.is s [117,112,100,97,116,101]
 case true=>
  have HV:Hid (stmt s (m+1) σ=Sp.run s (m+1) .dK 0 (iQ s (m+1) (m+1) (((σ.step s).aC s).must s [115,101,116]))):=by show _=_;simp only [stmt,b6,eK,c7,eN,gN,Bool.false_eq_true,if_true,if_false];skip
  have cA:Hid (sC s (m+1) σ = .update ((σ.step s).nm s) (lL s (m+1) (m+1) (((σ.step s).aC s).must s [115,101,116])) (Sp.tr s (m+1) .dK 0 .nil (iQ s (m+1) (m+1) (((σ.step s).aC s).must s [115,101,116])))):=by show _=_;simp only [sC,b6,eK,c7,eN,gN,Bool.false_eq_true,if_true,if_false]
  rw [aZ gN] at Ay
  have kA:=hid Ay
  have iX:=hid (iD.out.trans hk6)
  have iY:Hid (Bk w6 w1.heap.size [.int .i64 kk, .int .i64 (st:Int), .string wd]):=eM.out.kept hk6 (by omega)
  clear Ay hk6 iV iD eM
  go_wp2_with fail
  refine (DY xD.out So.out hn (by omega) kA.out).mono ?_
  rintro r rP ⟨v20,rfl,jS,iT,⟨N6,rfl⟩,pS⟩
  have oO:Hid (PS b c cap len s 0 (stmt s (m+1) σ) rP):=by show PS b c cap len s 0 _ rP;rw [HV.out];exact jS
  have mN:=hid (iX.out.trans iT)
  have Ls:=iX.out.size
  have zM:Hid ((stmt s (m+1) σ).aA=true->nM rP (sC s (m+1) σ) w.heap.size rP.heap.size (.iface 176 (.pointer (some ⟨N6,0,none⟩)))):=λhl=>by rw [HV.out] at hl;rw [cA.out];exact ⟨_,rfl,Pn.low (pS hl) Ls⟩
  clear jS iT pS kA iX iY
  go_wp2_with fail
  go_ret
  exact ⟨_,rfl,oO.out,mN.out,Or.inr ⟨_,_,rfl⟩,zM.out⟩
 rw [bE gN] at Ay
 have kA:=hid Ay
 have iX:=hid (iD.out.trans hk6)
 have iY:Hid (Bk w6 w1.heap.size [.int .i64 kk, .int .i64 (st:Int), .string wd]):=eM.out.kept hk6 (by omega)
 clear Ay hk6 iV iD eM
 go_wp2_with fail
 refine (oB kA.out [[98,101,103,105,110], [99,111,109,109,105,116], [114,111,108,108,98,97,99,107]] (by decide) (by decide) 3 rfl #[.string ⟨#[98,101,103,105,110]⟩, .string ⟨#[99,111,109,109,105,116]⟩, .string ⟨#[114,111,108,108,98,97,99,107]⟩] rfl).mono ?_
 rintro r w7 ⟨rfl,CT,E0⟩
 cases pT:aT s [[98,101,103,105,110], [99,111,109,109,105,116], [114,111,108,108,98,97,99,107]] σ
 case true=>
  have kN:(σ.is s [98,101,103,105,110]||σ.is s [99,111,109,109,105,116]||σ.is s [114,111,108,108,98,97,99,107])=true:=(three s _ _ _ σ).symm.trans pT
  have HV:Hid (stmt s (m+1) σ=σ.step s):=by show _=_;simp only [stmt,b6,eK,c7,eN,gN,kN,Bool.false_eq_true,if_true,if_false]
  have cA:Hid (sC s (m+1) σ = .trans (σ.word s)):=by show _=_;simp only [sC,b6,eK,c7,eN,gN,kN,Bool.false_eq_true,if_true,if_false]
  have lD:Hid (∀ e,σ = .live e->aD s e ≠ .bad):=fI pT
  clear kN
  rw [pT] at CT
  have o7:Hid (PS b c cap len s 0 (σ.step s) w7):=CT
  have rN:=hid (iX.out.trans E0)
  have pN:Hid (Bk w7 w1.heap.size [.int .i64 kk, .int .i64 (st:Int), .string wd]):=iY.out.kept E0 (by omega)
  have y2:=pN.out.k2
  have y1:=pN.out.k1
  have y0:=pN.out.k0
  clear CT E0 kA iX iY
  go_wp2_with fail
  have X9:Hid (PS b c cap len s 0 (stmt s (m+1) σ) w7):=by show PS b c cap len s 0 _ w7;rw [HV.out];exact o7.out
  have Ya:=rN.out.size
  go_ret
  refine ⟨_,rfl,X9.out.alloc _,rN.out.alloc _,Or.inr ⟨_,_,rfl⟩,λhl=>?_⟩
  rw [HV.out] at hl
  have e0:=jQ.out (cP hl) lD.out
  rw [cA.out]
  refine ⟨_,rfl,by omega,by simp,?_⟩
  rw [<- e0]
  exact (Bk.new w7 #[.string wd] _).at_
 have kN:(σ.is s [98,101,103,105,110]||σ.is s [99,111,109,109,105,116]||σ.is s [114,111,108,108,98,97,99,107])=false:=(three s _ _ _ σ).symm.trans pT
 have HV:Hid (stmt s (m+1) σ=Sp.run s (m+1) .query 0 σ):=by show _=_;simp only [stmt,b6,eK,c7,eN,gN,kN,Bool.false_eq_true,if_false]
 have cA:Hid (sC s (m+1) σ = .query (Sp.tr s (m+1) .query 0 .nil σ)):=by show _=_;simp only [sC,b6,eK,c7,eN,gN,kN,Bool.false_eq_true,if_false]
 clear kN
 rw [pT] at CT
 have o7:Hid (PS b c cap len s 0 σ w7):=CT
 have rN:=hid (iX.out.trans E0)
 have pN:Hid (Bk w7 w1.heap.size [.int .i64 kk, .int .i64 (st:Int), .string wd]):=iY.out.kept E0 (by omega)
 clear CT E0 kA iX iY
 go_wp2_with fail
 refine (xD.out.query 0 _ _ (by omega) (cE (Nat.add_le_add_left (by decide:lK .query<=31) _) (by omega)) o7.out).mono ?_
 rintro r rP ⟨y20,rfl,jS,iT,QB,pS⟩
 have oO:Hid (PS b c cap len s 0 (stmt s (m+1) σ) rP):=by show PS b c cap len s 0 _ rP;rw [HV.out];exact jS
 have mN:=hid (rN.out.trans iT)
 have Ua:=hid QB
 have Ls:=rN.out.size
 have zM:Hid ((stmt s (m+1) σ).aA=true->nM rP (sC s (m+1) σ) w.heap.size rP.heap.size y20):=λhl=>by rw [HV.out] at hl;rw [cA.out];exact Rp.wide _ _ _ _ _ _ (pS hl) Ls (aF _)
 clear jS iT pS QB o7 rN pN
 go_wp2_with fail
 go_ret
 exact ⟨_,rfl,oO.out,mN.out,Ua.out,zM.out⟩
end Go.Proofs.YtgnncnhkgmhngaaGreatDoor
