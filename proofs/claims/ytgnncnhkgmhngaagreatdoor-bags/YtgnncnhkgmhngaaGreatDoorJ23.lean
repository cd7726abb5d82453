import Derived.Test.YtgnncnhkgmhngaaGreatDoorJ17
set_option maxHeartbeats 4000000
namespace Go.Proofs.YtgnncnhkgmhngaaGreatDoor
open Sp
open Go.RowKit
theorem Bk.put {w:World} {q:Nat} {vs:List Value} (h:Bk w q vs) (i:Nat) (hi:i<vs.length) (u:Value):Bk (w.setCell ⟨q,i,none⟩ u) q (vs.set i u):=by
 refine ⟨by simpa [World.setCell] using h.lt,λj hj=>?_,λj=>?_⟩
 ·have hj' : j<vs.length:=by simpa using hj
  have ci:=h.c i hi
  have cj:=h.c j hj'
  have lt:=h.lt
  by_cases e:j=i
  ·subst e
   rw [List.getElem_set_self]
   go_simp
  ·rw [List.getElem_set_ne (λx=>e x.symm)]
   rw [<- cj]
   have e' : i≠j:=λx=>e x.symm
   go_simp
 ·have f:=h.f j
  have ci:=h.c i hi
  have lt:=h.lt
  go_simp
def Lg (s:Sp.Bs) (n d:Nat) (σ:St):St:=
 if σ.is s [40] then (Sp.run s n .query (d+1) (σ.dF s d)).must s [41]
 else Sp.run s n .dK d (if St.is s [102,114,111,109] (if St.is s [42] ((σ.must s [115,101,108,101,99,116]).take s [100,105,115,116,105,110,99,116]) then St.step s ((σ.must s [115,101,108,101,99,116]).take s [100,105,115,116,105,110,99,116]) else Sp.run s n .list d ((σ.must s [115,101,108,101,99,116]).take s [100,105,115,116,105,110,99,116])) then Sp.run s n .eU d (St.step s (if St.is s [42] ((σ.must s [115,101,108,101,99,116]).take s [100,105,115,116,105,110,99,116]) then St.step s ((σ.must s [115,101,108,101,99,116]).take s [100,105,115,116,105,110,99,116]) else Sp.run s n .list d ((σ.must s [115,101,108,101,99,116]).take s [100,105,115,116,105,110,99,116]))) else (if St.is s [42] ((σ.must s [115,101,108,101,99,116]).take s [100,105,115,116,105,110,99,116]) then St.step s ((σ.must s [115,101,108,101,99,116]).take s [100,105,115,116,105,110,99,116]) else Sp.run s n .list d ((σ.must s [115,101,108,101,99,116]).take s [100,105,115,116,105,110,99,116])))
theorem xC (s:Sp.Bs) (n d:Nat) (σ:St):Sp.run s (n+1) .factor d σ=Lg s n d σ:=by rw [Sp.run,Lg]
def Lh (s:Sp.Bs) (n d:Nat) (σ:St):Nd:=
 if σ.is s [40] then Sp.tr s n .query (d+1) .nil (σ.dF s d)
 else .sel ((σ.must s [115,101,108,101,99,116]).is s [100,105,115,116,105,110,99,116]) (St.at_ s ((σ.must s [115,101,108,101,99,116]).take s [100,105,115,116,105,110,99,116])) (if St.is s [42] ((σ.must s [115,101,108,101,99,116]).take s [100,105,115,116,105,110,99,116]) then Nd.none else Sp.tr s n .list d .nil ((σ.must s [115,101,108,101,99,116]).take s [100,105,115,116,105,110,99,116])) (if St.is s [102,114,111,109] (if St.is s [42] ((σ.must s [115,101,108,101,99,116]).take s [100,105,115,116,105,110,99,116]) then St.step s ((σ.must s [115,101,108,101,99,116]).take s [100,105,115,116,105,110,99,116]) else Sp.run s n .list d ((σ.must s [115,101,108,101,99,116]).take s [100,105,115,116,105,110,99,116])) then Sp.tr.froms s n (St.step s (if St.is s [42] ((σ.must s [115,101,108,101,99,116]).take s [100,105,115,116,105,110,99,116]) then St.step s ((σ.must s [115,101,108,101,99,116]).take s [100,105,115,116,105,110,99,116]) else Sp.run s n .list d ((σ.must s [115,101,108,101,99,116]).take s [100,105,115,116,105,110,99,116]))) else []) (Sp.tr s n .dK d .nil (if St.is s [102,114,111,109] (if St.is s [42] ((σ.must s [115,101,108,101,99,116]).take s [100,105,115,116,105,110,99,116]) then St.step s ((σ.must s [115,101,108,101,99,116]).take s [100,105,115,116,105,110,99,116]) else Sp.run s n .list d ((σ.must s [115,101,108,101,99,116]).take s [100,105,115,116,105,110,99,116])) then Sp.run s n .eU d (St.step s (if St.is s [42] ((σ.must s [115,101,108,101,99,116]).take s [100,105,115,116,105,110,99,116]) then St.step s ((σ.must s [115,101,108,101,99,116]).take s [100,105,115,116,105,110,99,116]) else Sp.run s n .list d ((σ.must s [115,101,108,101,99,116]).take s [100,105,115,116,105,110,99,116]))) else (if St.is s [42] ((σ.must s [115,101,108,101,99,116]).take s [100,105,115,116,105,110,99,116]) then St.step s ((σ.must s [115,101,108,101,99,116]).take s [100,105,115,116,105,110,99,116]) else Sp.run s n .list d ((σ.must s [115,101,108,101,99,116]).take s [100,105,115,116,105,110,99,116]))))
theorem tV (s:Sp.Bs) (n d:Nat) (σ:St):Sp.tr s (n+1) .factor d .nil σ=Lh s n d σ:=by rw [Sp.tr,Lh]
theorem tW (s:Sp.Bs) (n d:Nat) (σ:St):Sp.run s (n+1) .dK d σ=vK s n d [119,104,101,114,101] σ:=by rw [Sp.run,vK]
theorem qO (s:Sp.Bs) (n d:Nat) (σ:St):Sp.tr s (n+1) .dK d .nil σ=CV s n d [119,104,101,114,101] σ:=by rw [Sp.tr,CV]
def NX (s:Sp.Bs) (n d:Nat) (σ:St):St:=if St.is s [42] σ then St.step s σ else Sp.run s (n+1) .list d σ
def Pg (s:Sp.Bs) (n d:Nat) (σ:St):St:=if St.is s [102,114,111,109] σ then Sp.run s (n+1) .eU d (St.step s σ) else σ
def Qi (s:Sp.Bs) (n d:Nat) (σ:St):Nd:=if St.is s [42] σ then .none else Sp.tr s (n+1) .list d .nil σ
def Qj (s:Sp.Bs) (n:Nat) (σ:St):List (Nm×Nm):=if St.is s [102,114,111,109] σ then Sp.tr.froms s (n+1) (St.step s σ) else []
theorem DP {b c cap len:Nat} {s:Sp.Bs} {n d:Nat} {σ:St} {w:World} (IH:Hid (∀ m,m<=n->All b c cap len s m)) (hd:d+(n+1)<=1000000) (hm:32*rem s σ+12<=n+1) (hp:PS b c cap len s d σ w) (fK:σ.is s [40]=false) :
  Calls Tryz.prog 176 #[.pointer (some ⟨b,0,none⟩)] w (aX b c cap len s d (Sp.run s (n+1) .factor d σ) w aQ λw' v=>Rp w' (Sp.tr s (n+1) .factor d .nil σ) w.heap.size w'.heap.size v):=by
 have hbw:=hp.lb
 have hcw:=hp.lc
 have r1:=bZ s [115,101,108,101,99,116] σ
 have r2:=pC s [100,105,115,116,105,110,99,116] (σ.must s [115,101,108,101,99,116])
 obtain ⟨n',rfl⟩:∃ n',n=n'+1:=⟨n - 1,by omega⟩
 have HV:Hid (Sp.run s (n'+1+1) .factor d σ=vK s n' d [119,104,101,114,101] (Pg s n' d (NX s n' d ((σ.must s [115,101,108,101,99,116]).take s [100,105,115,116,105,110,99,116])))):=by
  show _=_
  rw [xC,Lg,fK,<- tW];rfl
 have cA:Hid (Sp.tr s (n'+1+1) .factor d .nil σ = .sel ((σ.must s [115,101,108,101,99,116]).is s [100,105,115,116,105,110,99,116]) (St.at_ s ((σ.must s [115,101,108,101,99,116]).take s [100,105,115,116,105,110,99,116])) (Qi s n' d ((σ.must s [115,101,108,101,99,116]).take s [100,105,115,116,105,110,99,116])) (Qj s n' (NX s n' d ((σ.must s [115,101,108,101,99,116]).take s [100,105,115,116,105,110,99,116]))) (CV s n' d [119,104,101,114,101] (Pg s n' d (NX s n' d ((σ.must s [115,101,108,101,99,116]).take s [100,105,115,116,105,110,99,116]))))):=by
  show _=_
  rw [tV,Lh,fK,<- qO];rfl
 have IT:=hid hp
 clear hp
 have hfd:=s7
 have hmf:=lN
 generalize hs0:σ.must s [115,101,108,101,99,116]=uZ at *
 generalize hdi:uZ.is s [100,105,115,116,105,110,99,116]=di at *
 generalize hs1:uZ.take s [100,105,115,116,105,110,99,116]=σ1 at *
 go_enter Tryz.func176,Tryz.ntmps176
 go_wp2_with fail
 refine (lU IT.out [40] (by decide)).mono ?_
 rintro r w1 ⟨rfl,hp1,hk1⟩
 rw [fK]
 have bT:=hid hp1
 have bD:=hid hk1
 clear hp1 hk1 IT
 go_wp2_with fail
 refine (b8 bT.out [115,101,108,101,99,116] (by decide)).mono ?_
 rintro r w2 ⟨rfl,hp2,hk2⟩
 rw [hs0] at hp2
 have HP2:Hid (PS b c cap len s d uZ w2):=hp2
 have aY:Hid (Kept b w w2):=bD.out.trans hk2
 clear hp2 hk2
 go_wp2_with fail
 refine (aW HP2.out [100,105,115,116,105,110,99,116] (by decide)).mono ?_
 rintro r w3 ⟨rfl,hp3,hk3⟩
 rw [hs1] at hp3
 rw [hdi]
 obtain ⟨i,wd,hi,tc,PK⟩:=bG hp3
 have jQ:Hid (σ1.aA=true->aO s (pos s i)=σ1.at_ s):=λhl=>(dO hi tc hl).1
 have cS:Hid (PS b c cap len s d σ1 w3):=hp3
 have bH:Hid (Kept b w w3):=aY.out.trans hk3
 have gJ:=jL PK
 clear hp3 hk3 hi tc PK
 generalize kn (aD s (pos s i))=kk at *
 generalize aO s (pos s i)=st at *
 clear hs0 hdi hs1
 go_wp2_with fail
 refine (gJ.out _ rfl).mono ?_
 clear gJ
 rintro r w4 ⟨rfl,hb4⟩
 have gY:Hid (PS b c cap len s d σ1 (w4.alloc (.cells #[.bool di, .int .i64 (st:Int), .slice none 0 0, .slice none 0 0, .pointer none] 335))):=(cS.out.below hb4).alloc _
 have eC:Hid (Kept b w (w4.alloc (.cells #[.bool di, .int .i64 (st:Int), .slice none 0 0, .slice none 0 0, .pointer none] 335))):=(bH.out.trans (Kept.below hb4)).alloc _
 have lE:Hid (Bk (w4.alloc (.cells #[.bool di, .int .i64 (st:Int), .slice none 0 0, .slice none 0 0, .pointer none] 335)) w4.heap.size [.bool di, .int .i64 (st:Int), .slice none 0 0, .slice none 0 0, .pointer none]):=Bk.new _ _ _
 have y8:w.heap.size<=w4.heap.size:=cE bH.out.size hb4.size
 clear hb4 cS bH
 go_wp2_with fail
 refine (cQ gY.out [42] (by decide) _ (by simp)).mono ?_
 rintro r w5 ⟨rfl,nT,hk5⟩
 have iD:Hid (Kept b w w5):=eC.out.trans hk5
 have eM:Hid (Bk w5 w4.heap.size [.bool di, .int .i64 (st:Int), .slice none 0 0, .slice none 0 0, .pointer none]):=lE.out.kept hk5 (by omega)
 have rM:w4.heap.size+1<=w5.heap.size:=by have:=hk5.size;simpa using this
 clear hk5 gY eC lE
 cases oM:St.is s [42] σ1
 case' false=>
  rw [bE oM] at nT
  have iV:=hid nT
  have r3:=cJ s (n'+1) .list d σ1
  have e2:NX s n' d σ1=Sp.run s (n'+1) .list d σ1:=by rw [NX,oM];rfl
  have ex:Qi s n' d σ1=Sp.tr s (n'+1) .list d .nil σ1:=by rw [Qi,oM];rfl
  rw [e2] at HV
  rw [e2,ex] at cA
  clear e2 ex nT
  go_wp2_with fail
  refine ((IH.out (n'+1) (aF _)).list d _ _ (by omega) (by show 32*rem s _+10<=n'+1;omega) iV.out).mono ?_
  rintro r w6' ⟨xv,rfl,Ay,hk6,⟨xa,xn,xc,rfl⟩,VD⟩
  have E8:=eM.out.kept hk6 (by omega)
  have c2:=E8.k2
  have f2:=E8.f 2
  have By:=hk6.size
  have Qk:=hid Ay
  have Ql : Hid (Kept b w w6'):=iD.out.trans hk6
  have Qm:=hid E8
  have Qn:=hid VD
  clear Ay hk6 E8 VD
  go_wp2_with fail
  have kA:Hid (PS b c cap len s d (Sp.run s (n'+1) .list d σ1) (w6'.setCell ⟨w4.heap.size,2,none⟩ (.slice xa xn xc))):=Qk.out.put w4.heap.size 2 (by omega) (by omega) _
  have iX:Hid (Kept b w (w6'.setCell ⟨w4.heap.size,2,none⟩ (.slice xa xn xc))):=Ql.out.aJ (by simpa using y8) _
  have iY:Hid (Bk (w6'.setCell ⟨w4.heap.size,2,none⟩ (.slice xa xn xc)) w4.heap.size [.bool di, .int .i64 (st:Int), .slice xa xn xc, .slice none 0 0, .pointer none]):=Qm.out.put 2 (by simp) _
  have H8:Hid ((Sp.run s (n'+1) .list d σ1).aA=true->yQ (w4.heap.size+1) (w6'.setCell ⟨w4.heap.size,2,none⟩ (.slice xa xn xc)).heap.size (.slice xa xn xc)/\((Sp.tr s (n'+1) .list d .nil σ1=Nd.none/\Value.slice xa xn xc = .slice none 0 0)\/(Sp.tr s (n'+1) .list d .nil σ1≠Nd.none/\Rp (w6'.setCell ⟨w4.heap.size,2,none⟩ (.slice xa xn xc)) (Sp.tr s (n'+1) .list d .nil σ1) (w4.heap.size+1) (w6'.setCell ⟨w4.heap.size,2,none⟩ (.slice xa xn xc)).heap.size (.slice xa xn xc)))):=λhl=>by
   obtain ⟨r,si⟩:=Qn.out hl
   have hzz:(w6'.setCell ⟨w4.heap.size,2,none⟩ (.slice xa xn xc)).heap.size=w6'.heap.size:=by simp [World.setCell]
   rw [hzz]
   refine ⟨si.wide rM (aF _),Or.inr ⟨by rw [Sp.tr];simp,?_⟩⟩
   refine Rp.wide _ _ _ _ _ _ (r.frame (by rw [hzz];exact aF _) _ _ _ _ (λk h1 h2=>dQ _ _ _ _ (by simp;omega)) (λblk off n c e=>dQ _ _ _ _ (by have:=si blk off n c e;simp;omega))) rM (aF _)
  have Ds:w5.heap.size<=(w6'.setCell ⟨w4.heap.size,2,none⟩ (.slice xa xn xc)).heap.size:=by simp [World.setCell];exact By
  have HS2:Hid ((Sp.run s (n'+1) .list d σ1).aA=true->σ1.aA=true):=λh=>dM h
  have X4:Hid ((w6'.setCell ⟨w4.heap.size,2,none⟩ (.slice xa xn xc)).heap.size=w6'.heap.size):=by show _=_;simp [World.setCell]
  generalize hxv:Value.slice xa xn xc=xv at *
  generalize (w6'.setCell ⟨w4.heap.size,2,none⟩ xv)=w6 at *
  generalize Sp.run s (n'+1) .list d σ1=σ2 at *
  clear hxv Qk Ql Qm Qn iV iD eM c2 f2 By
 case' true=>
  rw [aZ oM] at nT
  have iV:=hid nT
  have r3:=aM oM
  have e2:NX s n' d σ1=σ1.step s:=by rw [NX,oM];rfl
  have ex:Qi s n' d σ1=Nd.none:=by rw [Qi,oM];rfl
  rw [e2] at HV
  rw [e2,ex] at cA
  clear e2 ex nT
  generalize hsx:σ1.step s=σ2 at *
  have HS2:Hid (σ2.aA=true->σ1.aA=true):=λh=>by rw [<- hsx] at h;exact cP h
  clear hsx
  obtain ⟨xv,w6,hw6⟩:∃ (xv:Value) (w6:World),xv = .slice none 0 0/\w6=w5:=⟨_,_,rfl,rfl⟩
  obtain ⟨hxv,hw6⟩:=hw6
  have kA:Hid (PS b c cap len s d σ2 w6):=by rw [hw6];exact iV.out
  have iX:Hid (Kept b w w6):=by rw [hw6];exact iD.out
  have iY:Hid (Bk w6 w4.heap.size [.bool di, .int .i64 (st:Int),xv, .slice none 0 0, .pointer none]):=by rw [hw6,hxv];exact eM.out
  have Ds:w5.heap.size<=w6.heap.size:=by rw [hw6];exact aF _
  have H8:Hid (σ2.aA=true->yQ (w4.heap.size+1) w6.heap.size xv/\((Nd.none=Nd.none/\xv = .slice none 0 0)\/(Nd.none≠Nd.none/\Rp w6 Nd.none (w4.heap.size+1) w6.heap.size xv))):=λ_=>⟨by rw [hxv];exact λ_ _ _ _ e=>(by cases e),Or.inl ⟨rfl,hxv⟩⟩
  rw [<- hw6]
  clear hw6 hxv iV iD eM
 all_goals
  go_wp2_with fail
  refine (cQ kA.out [102,114,111,109] (by decide) _ (by first | rfl | exact X4.out.symm)).mono ?_
  rintro r w7 ⟨rfl,CT,E0⟩
  have vP:=hid E0
  have pN:Hid (Bk w7 w4.heap.size [.bool di, .int .i64 (st:Int),xv, .slice none 0 0, .pointer none]):=iY.out.kept E0 (by omega)
  have IP:=E0.size
  clear E0 kA iY
  cases oN:St.is s [102,114,111,109] σ2
  case' false=>
   rw [bE oN] at CT
   have o7:=hid CT
   have e3:Pg s n' d σ2=σ2:=by rw [Pg,oN];rfl
   have er:Qj s n' σ2 = []:=by rw [Qj,oN];rfl
   rw [e3] at HV
   rw [e3,er] at cA
   clear e3 er CT
   have Sj:Hid (σ2.aA=true->σ2.aA=true):=λh=>h
   have r8:True:=True.intro
   obtain ⟨fv,NY,hfv,hfr⟩:∃ (fv:Value) (NY:List (Nm×Nm)),fv = .slice none 0 0/\NY = []:=⟨_,_,rfl,rfl⟩
   obtain ⟨w8,hw8⟩:∃ w8:World,w8=w7:=⟨_,rfl⟩
   have Gm:Hid (PS b c cap len s d σ2 w8):=by rw [hw8];exact o7.out
   have Qo:Hid (∀ k,k<w6.heap.size->k≠b->k≠w4.heap.size->w8.heap[k]?=w6.heap[k]?):=λk h1 h2 _=>by rw [hw8];exact vP.out.block k h1 h2
   have EZ:Hid (Kept b w w8):=by rw [hw8];exact iX.out.trans vP.out
   have MZ:Hid (Bk w8 w4.heap.size [.bool di, .int .i64 (st:Int),xv,fv, .pointer none]):=by rw [hw8,hfv];exact pN.out
   have O7:Hid (σ2.aA=true->(NY = []/\fv = .slice none 0 0)\/∃ blk c,fv = .slice (some ⟨blk,0,none⟩) NY.length c/\NY ≠ []/\w6.heap.size<=blk/\blk<w8.heap.size/\fX w8 blk 0 NY):=λ_=>Or.inl ⟨hfr,hfv⟩
   have X5:w7.heap.size<=w8.heap.size:=by rw [hw8];exact aF _
   rw [<- hfr] at cA
   rw [<- hw8]
   clear hw8 hfr hfv o7 pN
   generalize hs3:σ2=σ3 at *
  case' true=>
   rw [aZ oN] at CT
   have o7:=hid CT
   have r4:=aM oN
   have e3:Pg s n' d σ2=Sp.run s (n'+1) .eU d (σ2.step s):=by rw [Pg,oN];rfl
   have er:Qj s n' σ2=Sp.tr.froms s (n'+1) (σ2.step s):=by rw [Qj,oN];rfl
   rw [e3] at HV
   rw [e3,er] at cA
   clear e3 er CT
   go_wp2_with fail
   refine (Gs (n:=n') (by omega) (by omega) o7.out).mono ?_
   rintro r KE ⟨fv,rfl,PO,hk8,⟨fa,fn,fc,rfl⟩,PP⟩
   have Sk:=pN.out.kept hk8 (by omega)
   have c3:=Sk.k3
   have f3:=Sk.f 3
   have Qp:=hk8.size
   have Qq:=hid PO
   have NZ:=hid hk8
   have Qr:=hid Sk
   have Qs:=hid PP
   clear PO hk8 Sk PP
   go_wp2_with fail
   have hzz:(KE.setCell ⟨w4.heap.size,3,none⟩ (.slice fa fn fc)).heap.size=KE.heap.size:=by simp [World.setCell]
   have Gm:Hid (PS b c cap len s d (Sp.run s (n'+1) .eU d (σ2.step s)) (KE.setCell ⟨w4.heap.size,3,none⟩ (.slice fa fn fc))):=Qq.out.put w4.heap.size 3 (by omega) (by omega) _
   have Qo:Hid (∀ k,k<w6.heap.size->k≠b->k≠w4.heap.size->(KE.setCell ⟨w4.heap.size,3,none⟩ (.slice fa fn fc)).heap[k]?=w6.heap[k]?):=λk h1 h2 h3=>(dQ _ _ _ _ h3).trans ((NZ.out.block k (by omega) h2).trans (vP.out.block k h1 h2))
   have EZ:Hid (Kept b w (KE.setCell ⟨w4.heap.size,3,none⟩ (.slice fa fn fc))):=((iX.out.trans vP.out).trans NZ.out).aJ (by simpa using y8) _
   have MZ:Hid (Bk (KE.setCell ⟨w4.heap.size,3,none⟩ (.slice fa fn fc)) w4.heap.size [.bool di, .int .i64 (st:Int),xv, .slice fa fn fc, .pointer none]):=Qr.out.put 3 (by simp) _
   have O7:Hid ((Sp.run s (n'+1) .eU d (σ2.step s)).aA=true->(Sp.tr.froms s (n'+1) (σ2.step s) = []/\Value.slice fa fn fc = .slice none 0 0)\/∃ blk c,Value.slice fa fn fc = .slice (some ⟨blk,0,none⟩) (Sp.tr.froms s (n'+1) (σ2.step s)).length c/\Sp.tr.froms s (n'+1) (σ2.step s) ≠ []/\w6.heap.size<=blk/\blk<(KE.setCell ⟨w4.heap.size,3,none⟩ (.slice fa fn fc)).heap.size/\fX (KE.setCell ⟨w4.heap.size,3,none⟩ (.slice fa fn fc)) blk 0 (Sp.tr.froms s (n'+1) (σ2.step s))):=λhl=>by
    obtain ⟨g,kc,e,h1,h2,h3⟩:=Qs.out hl
    exact Or.inr ⟨g,kc,e,by rw [tQ];simp,by omega,by rw [hzz];exact h2,h3.same (dQ _ _ _ _ (by simp;omega))⟩
   have X5:w7.heap.size<=(KE.setCell ⟨w4.heap.size,3,none⟩ (.slice fa fn fc)).heap.size:=by rw [hzz];exact Qp
   have Sj:Hid ((Sp.run s (n'+1) .eU d (σ2.step s)).aA=true->σ2.aA=true):=λh=>cP (dM h)
   have r8:=cJ s (n'+1) .eU d (σ2.step s)
   generalize hfv:Value.slice fa fn fc=fv at *
   generalize (KE.setCell ⟨w4.heap.size,3,none⟩ fv)=w8 at *
   generalize hs3:Sp.run s (n'+1) .eU d (σ2.step s)=σ3 at *
   generalize X6:Sp.tr.froms s (n'+1) (σ2.step s)=NY at *
   clear hfv Qq NZ Qr Qs o7 pN c3 f3 Qp hzz
  all_goals
   go_wp2_with fail
   refine (eP (n:=n') Gm.out [119,104,101,114,101] (by decide) (λhwh w' hp'=>(IH.out n' (by omega)).expr d _ _ (by omega) (by have:=aM hwh;show 32*rem s _+9<=n';omega) hp')).mono ?_
   rintro r w9 ⟨wv,rfl,tL,hk9,⟨wa,rfl⟩,Bw⟩
   have Sm:=MZ.out.kept hk9 (by omega)
   have c4:=Sm.k4
   have f4:=Sm.f 4
   have Xm:=hk9.size
   have IU:=hid tL
   have N3:=hid hk9
   have Ax:=hid Sm
   have X7:=hid Bw
   clear tL hk9 Sm Bw
   go_wp2_with fail
   go_ret
   have hzz:(w9.setCell ⟨w4.heap.size,4,none⟩ (.pointer wa)).heap.size=w9.heap.size:=by simp [World.setCell]
   refine ⟨_,rfl,by rw [HV.out];exact IU.out.put w4.heap.size 4 (by omega) (by omega) _,(EZ.out.trans N3.out).aJ (by simpa using y8) _,Or.inr ⟨_,_,rfl⟩,λhl=>?_⟩
   rw [HV.out] at hl
   rw [cA.out]
   have hl3:σ3.aA=true:=by
    unfold vK at hl
    split at hl
    ·exact cP (dM hl)
    ·exact hl
   have hl2:=Sj.out hl3
   have hl1:=HS2.out hl2
   have est:=jQ.out hl1
   subst est
   obtain ⟨si,hx⟩:=H8.out hl2
   have hset:∀ k,k≠w4.heap.size->(w9.setCell ⟨w4.heap.size,4,none⟩ (.pointer wa)).heap[k]?=w9.heap[k]?:=λk hk=>dQ _ _ _ _ hk
   have VE:∀ k,k<w6.heap.size->k≠b->k≠w4.heap.size->(w9.setCell ⟨w4.heap.size,4,none⟩ (.pointer wa)).heap[k]?=w6.heap[k]?:=λk h1 h2 h3=>(hset k h3).trans ((N3.out.block k (by omega) h2).trans (Qo.out k h1 h2 h3))
   refine ⟨w4.heap.size,xv,fv, .pointer wa,w4.heap.size+1,w6.heap.size,w8.heap.size,w9.heap.size,rfl,y8,by rw [hzz];omega,by unfold Sub;rw [hzz];omega,by unfold Sub;rw [hzz];omega,(Ax.out.put 4 (by simp) _).at_,si.wide (by omega) (aF _),?_,?_,cH.ptr _,?_⟩
   ·rcases hx with hx | ⟨h1,h2⟩
    ·exact Or.inl ⟨by first | exact hx.1 | rfl,hx.2⟩
    ·exact Or.inr ⟨h1,h2.frame (by rw [hzz];omega) _ _ _ _ (λk p1 p2=>VE k p2 (by omega) (by omega)) (λblk off n c e=>by have:=si blk off n c e;exact VE blk (by omega) (by omega) (by omega))⟩
   ·rcases O7.out hl3 with h | ⟨blk,c,e,h1,h2,h3,h4⟩
    ·exact Or.inl h
    ·exact Or.inr ⟨blk,c,e,h1,h2,h3,by rw [hzz];omega,h4.same ((hset blk (by omega)).trans (N3.out.block blk h3 (by omega)))⟩
   ·exact (X7.out hl).frame (by rw [hzz];exact aF _) _ _ _ _ (λk p1 p2=>hset k (by omega)) (λ_ _ _ _ e=>by cases e)
theorem Bz {b c cap len:Nat} {s:Sp.Bs} {n d:Nat} {σ:St} {w:World} (IH:Hid (∀ m,m<=n->All b c cap len s m)) (hd:d+(n+1)<=1000000) (hm:32*rem s σ+12<=n+1) (hp:PS b c cap len s d σ w) (fK:σ.is s [40]=true) :
  Calls Tryz.prog 176 #[.pointer (some ⟨b,0,none⟩)] w (aX b c cap len s d (Sp.run s (n+1) .factor d σ) w aQ λw' v=>Rp w' (Sp.tr s (n+1) .factor d .nil σ) w.heap.size w'.heap.size v):=by
 have h1:=eG (d:=d) fK
 rw [<- cV fK] at h1
 have HV:Hid (Sp.run s (n+1) .factor d σ=(Sp.run s n .query (d+1) (St.opened s [40] d σ)).must s [41]):=by show _=_;rw [xC,Lg,fK,cV fK];rfl
 have cA:Hid (Sp.tr s (n+1) .factor d .nil σ=Sp.tr s n .query (d+1) .nil (St.opened s [40] d σ)):=by show _=_;rw [tV,Lh,fK,cV fK];rfl
 have IT:=hid hp
 clear hp
 have hmf:=lN
 go_enter Tryz.func176,Tryz.ntmps176
 go_wp2_with fail
 refine (lU IT.out [40] (by decide)).mono ?_
 rintro r w1 ⟨rfl,hp1,hk1⟩
 rw [fK]
 have bT:=hid hp1
 have bD:=hid hk1
 clear hp1 hk1 IT
 go_wp2_with fail
 refine (iW (.inr (.inr ⟨rfl,rfl,rfl,rfl,rfl,rfl⟩)) bT.out (by omega) (Sp.run s n .query (d+1) (St.opened s [40] d σ)) (Sp.tr s n .query (d+1) .nil (St.opened s [40] d σ)) (λw' hp'=>((IH.out n (aF _)).query (d+1) _ _ (by omega) (by show 32*rem s _+15<=n;omega) hp').mono λ_ _ h=>h.rq)).mono ?_
 rintro r w9 ⟨v9,rfl,tL,hk9,hi9,Bw⟩
 have HX:Hid (PS b c cap len s d ((Sp.run s n .query (d+1) (St.opened s [40] d σ)).must s [41]) w9/\Kept b w w9/\aQ v9/\(((Sp.run s n .query (d+1) (St.opened s [40] d σ)).must s [41]).aA=true->Rp w9 (Sp.tr s n .query (d+1) .nil (St.opened s [40] d σ)) w.heap.size w9.heap.size v9)):=⟨tL,bD.out.trans hk9,hi9,λhl=>Rp.wide _ _ _ _ _ _ (Bw hl).1 bD.out.size (aF _)⟩
 clear tL hk9 hi9 Bw
 go_wp2_with fail
 go_ret
 exact ⟨_,rfl,by rw [HV.out];exact HX.out.1,HX.out.2.1,HX.out.2.2.1,by rw [HV.out,cA.out];exact HX.out.2.2.2⟩
theorem BA {b c cap len:Nat} {s:Sp.Bs} {n:Nat} (IH:Hid (∀ m,m<=n->All b c cap len s m)):Sd b c cap len s (n+1) .factor aQ 176:=by
 intro d σ w hd hm hp
 have hm' : 32*rem s σ+12<=n+1:=hm
 cases fK:σ.is s [40]
 ·exact DP IH hd hm' hp fK
 ·exact Bz IH hd hm' hp fK
end Go.Proofs.YtgnncnhkgmhngaaGreatDoor
