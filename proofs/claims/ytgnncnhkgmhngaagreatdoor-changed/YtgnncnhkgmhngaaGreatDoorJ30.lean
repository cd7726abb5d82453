import Derived.Test.YtgnncnhkgmhngaaGreatDoorJ29
set_option maxHeartbeats 20000000
namespace Go.Proofs.YtgnncnhkgmhngaaGreatDoor
open Sp
open Tryz
open Go.RowKit
def nJ (w:World):vZ->Nat->Nat->Value->Prop
 | .create t cols,lo,hi,v=>∃ p,v = .iface 160 p/\KD w t cols lo hi p
 | .drop t,lo,hi,v=>∃ q,v = .iface 163 (.pointer (some ⟨q,0,none⟩))/\lo<=q/\q<hi/\At w q [.string (bz t.1), .int .i64 (t.2:Nat)]
 | .dR a t rows,lo,hi,v=>∃ p,v = .iface 169 p/\KE w a t rows lo hi p
 | .fA a t nd,lo,hi,v=>∃ p,v = .iface 169 p/\Rm w a t nd lo hi p
 | .delete t wh,lo,hi,v=>∃ q pv,v = .iface 171 (.pointer (some ⟨q,0,none⟩))/\lo<=q/\q<hi/\At w q [.string (bz t.1), .int .i64 (t.2:Nat),pv]/\DX pv/\Rp w wh lo q pv
 | .update t sets wh,lo,hi,v=>∃ p,v = .iface 176 p/\Ro w t sets wh lo hi p
 | .trans z,lo,hi,v=>∃ q,v = .iface 122 (.pointer (some ⟨q,0,none⟩))/\lo<=q/\q<hi/\At w q [.string (bz z)]
 | .query nd,lo,hi,v=>Rp w nd lo hi v
theorem KD.low {w:World} {nm:Nm} {ns:List (Nm×Int)} {lo hi lo' : Nat} {v:Value} (h:KD w nm ns lo hi v) (h1:lo'<=lo):KD w nm ns lo' hi v:=by
 obtain ⟨q,sl,e,a,b,c,d⟩:=h
 exact ⟨q,sl,e,by omega,b,c,d.wide h1 (aF _)⟩
theorem KE.low {w:World} {a:Nat} {nm:Nm} {ns:List (Nat×Nd)} {lo hi lo' : Nat} {v:Value} (h:KE w a nm ns lo hi v) (h1:lo'<=lo):KE w a nm ns lo' hi v:=by
 obtain ⟨q,sl,e,a,b,c,d⟩:=h
 exact ⟨q,sl,e,by omega,b,c,d⟩
theorem Rm.low {w:World} {a:Nat} {nm:Nm} {nd:Nd} {lo hi lo' : Nat} {v:Value} (h:Rm w a nm nd lo hi v) (h1:lo'<=lo):Rm w a nm nd lo' hi v:=by
 obtain ⟨q,sl,e,a,b,c,d⟩:=h
 exact ⟨q,sl,e,by omega,b,c,d⟩
theorem Ro.low {w:World} {nm:Nm} {ns:List (Nm×Nat×Nd)} {wh:Nd} {lo hi lo' : Nat} {v:Value} (h:Ro w nm ns wh lo hi v) (h1:lo'<=lo):Ro w nm ns wh lo' hi v:=by
 obtain ⟨q,sl,pv,mid,e,a,b,c,d,f,g⟩:=h
 exact ⟨q,sl,pv,mid,e,by omega,b,c,d,f.wide h1 (aF _),g⟩
theorem three (s:Sp.Bs) (x y z:Sp.Bs) (σ:St):aU s [x,y,z] σ=(σ.is s x||σ.is s y||σ.is s z):=by simp [aU,Bool.or_assoc]
theorem xA {b c cap len:Nat} {s:Sp.Bs} {m:Nat} {σ:St} {w:World} (IA:All b c cap len s (m+1)) (IB:All b c cap len s m) (hn:m+1<=900000) (hm:32*rem s σ+31<=m+1) (hp:PS b c cap len s 0 σ w) :
  Calls prog 48 #[.pointer (some ⟨b,0,none⟩)] w (aX b c cap len s 0 (stmt s (m+1) σ) w aR λw' v=>nJ w' (sW s (m+1) σ) w.heap.size w'.heap.size v):=by
 have hbw:=hp.lb
 have hcw:=hp.lc
 have r0:=cN s σ
 obtain ⟨i,wd,hi,tc,PK⟩:=bG hp
 have jV:Hid (σ.aA=true->(∀ e,σ = .live e->aE s e ≠ .bad)->wd=bz (σ.word s)):=λhl=>(dW hi tc hl).2
 have rI:=hid hp
 have gP:=jR PK
 have yE:=hid IA
 have Uz:=hid IB
 clear hp tc hi PK IA IB
 generalize kn (aE s (pos s i))=kk at *
 generalize aP s (pos s i)=st at *
 have hfd:=RG
 go_enter func48,ntmps48
 go_wp2_with fail
 refine (gP.out _ rfl).mono ?_
 clear gP
 rintro r w1 ⟨rfl,hb1⟩
 have bP:Hid (PS b c cap len s 0 σ (w1.alloc (.cells #[.int .i64 kk, .int .i64 (st:Int), .string wd] 155))):=(rI.out.below hb1).alloc _
 have bD:Hid (Kept b w (w1.alloc (.cells #[.int .i64 kk, .int .i64 (st:Int), .string wd] 155))):=(Kept.below hb1).alloc _
 have qY:Hid (Bk (w1.alloc (.cells #[.int .i64 kk, .int .i64 (st:Int), .string wd] 155)) w1.heap.size [.int .i64 kk, .int .i64 (st:Int), .string wd]):=Bk.new _ _ _
 have hz1:w.heap.size<=w1.heap.size:=hb1.size
 clear hb1 rI
 go_wp2_with fail
 refine (cX bP.out [99,114,101,97,116,101] (by decide) _ (by simp)).mono ?_
 generalize w1.alloc (.cells #[.int .i64 kk, .int .i64 (st:Int), .string wd] 155)=w1' at *
 rintro r w2 ⟨rfl,hp2,hk2⟩
 cases cD:σ.is s [99,114,101,97,116,101]
 case true=>
  have HV:Hid (stmt s (m+1) σ=XK s m (σ.step s)):=by show _=_;simp only [stmt,cD,if_true];rfl
  have cL:Hid (sW s (m+1) σ = .create (((σ.step s).must s [116,97,98,108,101]).nm s) (oN s (m+1) 0 ((((σ.step s).must s [116,97,98,108,101]).aD s).must s [40]))):=by show _=_;simp only [sW,cD,if_true]
  rw [aZ cD] at hp2
  have HP2:=hid hp2
  have aY:=hid (bD.out.trans hk2)
  have lL:Hid (Bk w2 w1.heap.size [.int .i64 kk, .int .i64 (st:Int), .string wd]):=qY.out.kept hk2 (by omega)
  clear hp2 hk2 bP bD qY
  go_wp2_with fail
  refine (EL (m:=m) (by omega) (by omega) HP2.out).mono ?_
  rintro r sJ ⟨v20,rfl,jY,jD,⟨P5,rfl⟩,qH⟩
  have pD:Hid (PS b c cap len s 0 (stmt s (m+1) σ) sJ):=by show PS b c cap len s 0 _ sJ;rw [HV.out];exact jY
  have nK:=hid (aY.out.trans jD)
  have M8:=aY.out.size
  have Am:Hid ((stmt s (m+1) σ).aA=true->nJ sJ (sW s (m+1) σ) w.heap.size sJ.heap.size (.iface 160 (.pointer (some ⟨P5,0,none⟩)))):=λhl=>by rw [HV.out] at hl;rw [cL.out];exact ⟨_,rfl,KD.low (qH hl) M8⟩
  clear jY jD qH HP2 aY lL
  go_wp2_with fail
  go_ret
  exact ⟨_,rfl,pD.out,nK.out,Or.inr ⟨_,_,rfl⟩,Am.out⟩
 rw [bE cD] at hp2
 have HP2:=hid hp2
 have aY:=hid (bD.out.trans hk2)
 have lL:Hid (Bk w2 w1.heap.size [.int .i64 kk, .int .i64 (st:Int), .string wd]):=qY.out.kept hk2 (by omega)
 clear hp2 hk2 bP bD qY
 go_wp2_with fail
 refine (aW HP2.out [100,114,111,112] (by decide)).mono ?_
 rintro r w3 ⟨rfl,hp3,hk3⟩
 cases eW:σ.is s [100,114,111,112]
 case true=>
  have HV:Hid (stmt s (m+1) σ=St.aD s ((σ.step s).must s [116,97,98,108,101])):=by show _=_;simp only [stmt,cD,eW,Bool.false_eq_true,if_true,if_false];skip
  have cL:Hid (sW s (m+1) σ = .drop (St.nm s ((σ.step s).must s [116,97,98,108,101]))):=by show _=_;simp only [sW,cD,eW,Bool.false_eq_true,if_true,if_false]
  rw [aZ eW] at hp3
  have dJ:=hid hp3
  have bL:=hid (aY.out.trans hk3)
  have wP:Hid (Bk w3 w1.heap.size [.int .i64 kk, .int .i64 (st:Int), .string wd]):=lL.out.kept hk3 (by omega)
  clear hp3 hk3 HP2 aY lL
  go_wp2_with fail
  refine (cG dJ.out [116,97,98,108,101] (by decide)).mono ?_
  rintro r sJ ⟨rfl,jY,jD⟩
  have pD:=hid jY
  have nK:=hid (bL.out.trans jD)
  clear jY jD dJ bL wP
  go_wp2_with fail
  refine (name_any pD.out).mono ?_
  rintro r UA ⟨v21,rfl,KF,EO,⟨KG,a21,rfl⟩,KH⟩
  have M9:Hid (PS b c cap len s 0 (stmt s (m+1) σ) UA):=by show PS b c cap len s 0 _ UA;rw [HV.out];exact KF
  have Na:=hid (nK.out.trans EO)
  have P7:Hid ((stmt s (m+1) σ).aA=true->KG=bz (St.nm s ((σ.step s).must s [116,97,98,108,101])).1/\a21=((St.nm s ((σ.step s).must s [116,97,98,108,101])).2:Nat)):=λhl=>by rw [HV.out] at hl;exact mY (KH hl)
  have SR:=(nK.out.trans EO).size
  clear KF EO KH pD nK
  go_wp2_with fail
  go_ret
  refine ⟨_,rfl,M9.out.alloc _,Na.out.alloc _,Or.inr ⟨_,_,rfl⟩,λhl=>?_⟩
  obtain ⟨e0,e1⟩:=P7.out hl
  rw [cL.out]
  refine ⟨_,rfl,by omega,by simp,?_⟩
  rw [<- e0,<- e1]
  exact (Bk.new UA #[.string KG, .int .i64 a21] _).at_
 rw [bE eW] at hp3
 have dJ:=hid hp3
 have bL:=hid (aY.out.trans hk3)
 have wP:Hid (Bk w3 w1.heap.size [.int .i64 kk, .int .i64 (st:Int), .string wd]):=lL.out.kept hk3 (by omega)
 clear hp3 hk3 HP2 aY lL
 go_wp2_with fail
 refine (aW dJ.out [105,110,115,101,114,116] (by decide)).mono ?_
 rintro r w4 ⟨rfl,gJ,hk4⟩
 cases dI:σ.is s [105,110,115,101,114,116]
 case true=>
  rw [aZ dI] at gJ
  have iD:=hid gJ
  have eS:=hid (bL.out.trans hk4)
  have lM:Hid (Bk w4 w1.heap.size [.int .i64 kk, .int .i64 (st:Int), .string wd]):=wP.out.kept hk4 (by omega)
  clear gJ hk4 dJ bL wP
  go_wp2_with fail
  cases jZ:St.is s [118,97,108,117,101,115] (((σ.step s).must s [105,110,116,111]).aD s)
  case true=>
   have HV:Hid (stmt s (m+1) σ=wI s (m+1) (m+1) (St.step s (((σ.step s).must s [105,110,116,111]).aD s))):=by show _=_;simp only [stmt,cD,eW,dI,jZ,Bool.false_eq_true,if_true,if_false];skip
   have cL:Hid (sW s (m+1) σ = .dR ((σ.step s).at_ s) (((σ.step s).must s [105,110,116,111]).nm s) (oO s (m+1) (m+1) (St.step s (((σ.step s).must s [105,110,116,111]).aD s)))):=by show _=_;simp only [sW,cD,eW,dI,jZ,Bool.false_eq_true,if_true,if_false]
   refine (Ci yE.out hn (by omega) iD.out jZ).mono ?_
   rintro r sJ ⟨v20,rfl,jY,jD,⟨P5,rfl⟩,qH⟩
   have pD:Hid (PS b c cap len s 0 (stmt s (m+1) σ) sJ):=by show PS b c cap len s 0 _ sJ;rw [HV.out];exact jY
   have nK:=hid (eS.out.trans jD)
   have M8:=eS.out.size
   have Am:Hid ((stmt s (m+1) σ).aA=true->nJ sJ (sW s (m+1) σ) w.heap.size sJ.heap.size (.iface 169 (.pointer (some ⟨P5,0,none⟩)))):=λhl=>by rw [HV.out] at hl;rw [cL.out];exact ⟨_,rfl,KE.low (qH hl) M8⟩
   clear jY jD qH iD eS lM
   go_wp2_with fail
   go_ret
   exact ⟨_,rfl,pD.out,nK.out,Or.inr ⟨_,_,rfl⟩,Am.out⟩
  have HV:Hid (stmt s (m+1) σ=Sp.run s (m+1) .query 0 (((σ.step s).must s [105,110,116,111]).aD s)):=by show _=_;simp only [stmt,cD,eW,dI,jZ,Bool.false_eq_true,if_true,if_false];skip
  have cL:Hid (sW s (m+1) σ = .fA ((σ.step s).at_ s) (((σ.step s).must s [105,110,116,111]).nm s) (Sp.tr s (m+1) .query 0 .nil (((σ.step s).must s [105,110,116,111]).aD s))):=by show _=_;simp only [sW,cD,eW,dI,jZ,Bool.false_eq_true,if_true,if_false]
  refine (Cj yE.out hn (by omega) iD.out jZ).mono ?_
  rintro r sJ ⟨v20,rfl,jY,jD,⟨P5,rfl⟩,qH⟩
  have pD:Hid (PS b c cap len s 0 (stmt s (m+1) σ) sJ):=by show PS b c cap len s 0 _ sJ;rw [HV.out];exact jY
  have nK:=hid (eS.out.trans jD)
  have M8:=eS.out.size
  have Am:Hid ((stmt s (m+1) σ).aA=true->nJ sJ (sW s (m+1) σ) w.heap.size sJ.heap.size (.iface 169 (.pointer (some ⟨P5,0,none⟩)))):=λhl=>by rw [HV.out] at hl;rw [cL.out];exact ⟨_,rfl,Rm.low (qH hl) M8⟩
  clear jY jD qH iD eS lM
  go_wp2_with fail
  go_ret
  exact ⟨_,rfl,pD.out,nK.out,Or.inr ⟨_,_,rfl⟩,Am.out⟩
 rw [bE dI] at gJ
 have iD:=hid gJ
 have eS:=hid (bL.out.trans hk4)
 have lM:Hid (Bk w4 w1.heap.size [.int .i64 kk, .int .i64 (st:Int), .string wd]):=wP.out.kept hk4 (by omega)
 clear gJ hk4 dJ bL wP
 go_wp2_with fail
 refine (aW iD.out [100,101,108,101,116,101] (by decide)).mono ?_
 rintro r w5 ⟨rfl,oJ,hk5⟩
 cases eZ:σ.is s [100,101,108,101,116,101]
 case true=>
  have r4:=cA s [102,114,111,109] (σ.step s)
  have r5:=dT s ((σ.step s).must s [102,114,111,109])
  have HV:Hid (stmt s (m+1) σ=wR s m 0 [119,104,101,114,101] (St.aD s ((σ.step s).must s [102,114,111,109]))):=by show _=_;simp only [stmt,cD,eW,dI,eZ,Bool.false_eq_true,if_true,if_false];exact uZ s m 0 _
  have cL:Hid (sW s (m+1) σ = .delete (St.nm s ((σ.step s).must s [102,114,111,109])) (DC s m 0 [119,104,101,114,101] (St.aD s ((σ.step s).must s [102,114,111,109])))):=by show _=_;simp only [sW,cD,eW,dI,eZ,Bool.false_eq_true,if_true,if_false];rw [rL s m 0 _]
  rw [aZ eZ] at oJ
  have i7:=hid oJ
  have iR:=hid (eS.out.trans hk5)
  have eT:Hid (Bk w5 w1.heap.size [.int .i64 kk, .int .i64 (st:Int), .string wd]):=lM.out.kept hk5 (by omega)
  clear oJ hk5 iD eS lM
  go_wp2_with fail
  refine (cG i7.out [102,114,111,109] (by decide)).mono ?_
  rintro r sJ ⟨rfl,jY,jD⟩
  have pD:=hid jY
  have nK:=hid (iR.out.trans jD)
  clear jY jD i7 iR eT
  go_wp2_with fail
  refine (name_any pD.out).mono ?_
  rintro r UA ⟨v21,rfl,KF,EO,⟨KG,a21,rfl⟩,KH⟩
  have M9:=hid KF
  have Na:=hid (nK.out.trans EO)
  have P7:Hid ((St.aD s ((σ.step s).must s [102,114,111,109])).aA=true->KG=bz (St.nm s ((σ.step s).must s [102,114,111,109])).1/\a21=((St.nm s ((σ.step s).must s [102,114,111,109])).2:Nat)):=λhl=>mY (KH hl)
  have SR:=(nK.out.trans EO).size
  clear KF EO KH pD nK
  go_wp2_with fail
  refine (fC (n:=m) M9.out [119,104,101,114,101] (by decide) (λhw w' hp'=>Uz.out.expr 0 _ _ (by omega) (by have:=aO hw;show 32*rem s _+9<=m;omega) hp')).mono ?_
  rintro r VP ⟨v22,rfl,SS,P8,⟨pa,rfl⟩,SU⟩
  have VQ:Hid (PS b c cap len s 0 (stmt s (m+1) σ) VP):=by show PS b c cap len s 0 _ VP;rw [HV.out];exact SS
  have VS:=hid (Na.out.trans P8)
  have VT:=hid SU
  have Zp:=P8.size
  clear SS P8 SU M9 Na
  go_wp2_with fail
  go_ret
  refine ⟨_,rfl,VQ.out.alloc _,VS.out.alloc _,Or.inr ⟨_,_,rfl⟩,λhl=>?_⟩
  rw [HV.out] at hl
  obtain ⟨e0,e1⟩:=P7.out (Ck hl)
  rw [cL.out]
  refine ⟨_, .pointer pa,rfl,by omega,by simp,?_,⟨_,rfl⟩,?_⟩
  ·rw [<- e0,<- e1]
   exact (Bk.new VP #[.string KG, .int .i64 a21, .pointer pa] _).at_
  ·exact Rp.wide _ _ _ _ _ _ ((VT.out hl).frame (by simp) _ _ _ _ (λk h1 h2=>lK _ _ _ h2) (λblk off n c ee=>by cases ee)) SR (aF _)
 rw [bE eZ] at oJ
 have i7:=hid oJ
 have iR:=hid (eS.out.trans hk5)
 have eT:Hid (Bk w5 w1.heap.size [.int .i64 kk, .int .i64 (st:Int), .string wd]):=lM.out.kept hk5 (by omega)
 clear oJ hk5 iD eS lM
 go_wp2_with fail
 refine (aW i7.out [117,112,100,97,116,101] (by decide)).mono ?_
 rintro r w6 ⟨rfl,Bb,hk6⟩
 cases gS:σ.is s [117,112,100,97,116,101]
 case true=>
  have HV:Hid (stmt s (m+1) σ=Sp.run s (m+1) .dS 0 (jA s (m+1) (m+1) (((σ.step s).aD s).must s [115,101,116]))):=by show _=_;simp only [stmt,cD,eW,dI,eZ,gS,Bool.false_eq_true,if_true,if_false];skip
  have cL:Hid (sW s (m+1) σ = .update ((σ.step s).nm s) (mE s (m+1) (m+1) (((σ.step s).aD s).must s [115,101,116])) (Sp.tr s (m+1) .dS 0 .nil (jA s (m+1) (m+1) (((σ.step s).aD s).must s [115,101,116])))):=by show _=_;simp only [sW,cD,eW,dI,eZ,gS,Bool.false_eq_true,if_true,if_false]
  rw [aZ gS] at Bb
  have kN:=hid Bb
  have iS:=hid (iR.out.trans hk6)
  have jF:Hid (Bk w6 w1.heap.size [.int .i64 kk, .int .i64 (st:Int), .string wd]):=eT.out.kept hk6 (by omega)
  clear Bb hk6 i7 iR eT
  go_wp2_with fail
  refine (EM yE.out Uz.out hn (by omega) kN.out).mono ?_
  rintro r sJ ⟨v20,rfl,jY,jD,⟨P5,rfl⟩,qH⟩
  have pD:Hid (PS b c cap len s 0 (stmt s (m+1) σ) sJ):=by show PS b c cap len s 0 _ sJ;rw [HV.out];exact jY
  have nK:=hid (iS.out.trans jD)
  have M8:=iS.out.size
  have Am:Hid ((stmt s (m+1) σ).aA=true->nJ sJ (sW s (m+1) σ) w.heap.size sJ.heap.size (.iface 176 (.pointer (some ⟨P5,0,none⟩)))):=λhl=>by rw [HV.out] at hl;rw [cL.out];exact ⟨_,rfl,Ro.low (qH hl) M8⟩
  clear jY jD qH kN iS jF
  go_wp2_with fail
  go_ret
  exact ⟨_,rfl,pD.out,nK.out,Or.inr ⟨_,_,rfl⟩,Am.out⟩
 rw [bE gS] at Bb
 have kN:=hid Bb
 have iS:=hid (iR.out.trans hk6)
 have jF:Hid (Bk w6 w1.heap.size [.int .i64 kk, .int .i64 (st:Int), .string wd]):=eT.out.kept hk6 (by omega)
 clear Bb hk6 i7 iR eT
 go_wp2_with fail
 refine (oU kN.out [[98,101,103,105,110], [99,111,109,109,105,116], [114,111,108,108,98,97,99,107]] (by decide) (by decide) 3 rfl #[.string ⟨#[98,101,103,105,110]⟩, .string ⟨#[99,111,109,109,105,116]⟩, .string ⟨#[114,111,108,108,98,97,99,107]⟩] rfl).mono ?_
 rintro r w7 ⟨rfl,DB,FV⟩
 cases qI:aU s [[98,101,103,105,110], [99,111,109,109,105,116], [114,111,108,108,98,97,99,107]] σ
 case true=>
  have lA:(σ.is s [98,101,103,105,110]||σ.is s [99,111,109,109,105,116]||σ.is s [114,111,108,108,98,97,99,107])=true:=(three s _ _ _ σ).symm.trans qI
  have HV:Hid (stmt s (m+1) σ=σ.step s):=by show _=_;simp only [stmt,cD,eW,dI,eZ,gS,lA,Bool.false_eq_true,if_true,if_false]
  have cL:Hid (sW s (m+1) σ = .trans (σ.word s)):=by show _=_;simp only [sW,cD,eW,dI,eZ,gS,lA,Bool.false_eq_true,if_true,if_false]
  have lX:Hid (∀ e,σ = .live e->aE s e ≠ .bad):=fT qI
  clear lA
  rw [qI] at DB
  have pQ:Hid (PS b c cap len s 0 (σ.step s) w7):=DB
  have sF:=hid (iS.out.trans FV)
  have qB:Hid (Bk w7 w1.heap.size [.int .i64 kk, .int .i64 (st:Int), .string wd]):=jF.out.kept FV (by omega)
  have y2:=qB.out.k2
  have y1:=qB.out.k1
  have y0:=qB.out.k0
  clear DB FV kN iS jF
  go_wp2_with fail
  have Zq:Hid (PS b c cap len s 0 (stmt s (m+1) σ) w7):=by show PS b c cap len s 0 _ w7;rw [HV.out];exact pQ.out
  have Zr:=sF.out.size
  go_ret
  refine ⟨_,rfl,Zq.out.alloc _,sF.out.alloc _,Or.inr ⟨_,_,rfl⟩,λhl=>?_⟩
  rw [HV.out] at hl
  have e0:=jV.out (cU hl) lX.out
  rw [cL.out]
  refine ⟨_,rfl,by omega,by simp,?_⟩
  rw [<- e0]
  exact (Bk.new w7 #[.string wd] _).at_
 have lA:(σ.is s [98,101,103,105,110]||σ.is s [99,111,109,109,105,116]||σ.is s [114,111,108,108,98,97,99,107])=false:=(three s _ _ _ σ).symm.trans qI
 have HV:Hid (stmt s (m+1) σ=Sp.run s (m+1) .query 0 σ):=by show _=_;simp only [stmt,cD,eW,dI,eZ,gS,lA,Bool.false_eq_true,if_false]
 have cL:Hid (sW s (m+1) σ = .query (Sp.tr s (m+1) .query 0 .nil σ)):=by show _=_;simp only [sW,cD,eW,dI,eZ,gS,lA,Bool.false_eq_true,if_false]
 clear lA
 rw [qI] at DB
 have pQ:Hid (PS b c cap len s 0 σ w7):=DB
 have sF:=hid (iS.out.trans FV)
 have qB:Hid (Bk w7 w1.heap.size [.int .i64 kk, .int .i64 (st:Int), .string wd]):=jF.out.kept FV (by omega)
 clear DB FV kN iS jF
 go_wp2_with fail
 refine (yE.out.query 0 _ _ (by omega) (cF (Nat.add_le_add_left (by decide:mD .query<=31) _) (by omega)) pQ.out).mono ?_
 rintro r sJ ⟨y20,rfl,jY,jD,SV,qH⟩
 have pD:Hid (PS b c cap len s 0 (stmt s (m+1) σ) sJ):=by show PS b c cap len s 0 _ sJ;rw [HV.out];exact jY
 have nK:=hid (sF.out.trans jD)
 have VU:=hid SV
 have M8:=sF.out.size
 have Am:Hid ((stmt s (m+1) σ).aA=true->nJ sJ (sW s (m+1) σ) w.heap.size sJ.heap.size y20):=λhl=>by rw [HV.out] at hl;rw [cL.out];exact Rp.wide _ _ _ _ _ _ (qH hl) M8 (aF _)
 clear jY jD qH SV pQ sF qB
 go_wp2_with fail
 go_ret
 exact ⟨_,rfl,pD.out,nK.out,VU.out,Am.out⟩
end Go.Proofs.YtgnncnhkgmhngaaGreatDoor
