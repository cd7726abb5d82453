import Derived.Test.YtgnncnhkgmhngaaGreatDoorJ19
set_option maxHeartbeats 4000000
namespace Go.Proofs.YtgnncnhkgmhngaaGreatDoor
open Sp
open Tryz
open Go.RowKit
theorem Bk.put {w:World} {q:Nat} {vs:List Value} (h:Bk w q vs) (i:Nat) (hi:i<vs.length) (u:Value):Bk (w.setCell ⟨q,i,none⟩ u) q (vs.set i u):=by
 refine ⟨by simpa [World.setCell] using h.lt,λj hj=>?_,λj=>?_⟩
 ·have hj' : j<vs.length:=by simpa using hj
  have ci:=h.c i hi
  have cj:=h.c j hj'
  have lt:=h.lt
  by_cases e:j=i
  ·subst e
   rw [List.getElem_set_self]
   go_simp
  ·rw [List.getElem_set_ne (λx=>e x.symm)]
   rw [<- cj]
   have e' : i≠j:=λx=>e x.symm
   go_simp
 ·have f:=h.f j
  have ci:=h.c i hi
  have lt:=h.lt
  go_simp
def MT (s:Sp.Bs) (n d:Nat) (σ:St):St:=
 if σ.is s [40] then (Sp.run s n .query (d+1) (σ.dP s d)).must s [41]
 else Sp.run s n .dS d (if St.is s [102,114,111,109] (if St.is s [42] ((σ.must s [115,101,108,101,99,116]).take s [100,105,115,116,105,110,99,116]) then St.step s ((σ.must s [115,101,108,101,99,116]).take s [100,105,115,116,105,110,99,116]) else Sp.run s n .list d ((σ.must s [115,101,108,101,99,116]).take s [100,105,115,116,105,110,99,116])) then Sp.run s n .fF d (St.step s (if St.is s [42] ((σ.must s [115,101,108,101,99,116]).take s [100,105,115,116,105,110,99,116]) then St.step s ((σ.must s [115,101,108,101,99,116]).take s [100,105,115,116,105,110,99,116]) else Sp.run s n .list d ((σ.must s [115,101,108,101,99,116]).take s [100,105,115,116,105,110,99,116]))) else (if St.is s [42] ((σ.must s [115,101,108,101,99,116]).take s [100,105,115,116,105,110,99,116]) then St.step s ((σ.must s [115,101,108,101,99,116]).take s [100,105,115,116,105,110,99,116]) else Sp.run s n .list d ((σ.must s [115,101,108,101,99,116]).take s [100,105,115,116,105,110,99,116])))
theorem yD (s:Sp.Bs) (n d:Nat) (σ:St):Sp.run s (n+1) .factor d σ=MT s n d σ:=by rw [Sp.run,MT]
def MU (s:Sp.Bs) (n d:Nat) (σ:St):Nd:=
 if σ.is s [40] then Sp.tr s n .query (d+1) .nil (σ.dP s d)
 else .sel ((σ.must s [115,101,108,101,99,116]).is s [100,105,115,116,105,110,99,116]) (St.at_ s ((σ.must s [115,101,108,101,99,116]).take s [100,105,115,116,105,110,99,116])) (if St.is s [42] ((σ.must s [115,101,108,101,99,116]).take s [100,105,115,116,105,110,99,116]) then Nd.none else Sp.tr s n .list d .nil ((σ.must s [115,101,108,101,99,116]).take s [100,105,115,116,105,110,99,116])) (if St.is s [102,114,111,109] (if St.is s [42] ((σ.must s [115,101,108,101,99,116]).take s [100,105,115,116,105,110,99,116]) then St.step s ((σ.must s [115,101,108,101,99,116]).take s [100,105,115,116,105,110,99,116]) else Sp.run s n .list d ((σ.must s [115,101,108,101,99,116]).take s [100,105,115,116,105,110,99,116])) then Sp.tr.froms s n (St.step s (if St.is s [42] ((σ.must s [115,101,108,101,99,116]).take s [100,105,115,116,105,110,99,116]) then St.step s ((σ.must s [115,101,108,101,99,116]).take s [100,105,115,116,105,110,99,116]) else Sp.run s n .list d ((σ.must s [115,101,108,101,99,116]).take s [100,105,115,116,105,110,99,116]))) else []) (Sp.tr s n .dS d .nil (if St.is s [102,114,111,109] (if St.is s [42] ((σ.must s [115,101,108,101,99,116]).take s [100,105,115,116,105,110,99,116]) then St.step s ((σ.must s [115,101,108,101,99,116]).take s [100,105,115,116,105,110,99,116]) else Sp.run s n .list d ((σ.must s [115,101,108,101,99,116]).take s [100,105,115,116,105,110,99,116])) then Sp.run s n .fF d (St.step s (if St.is s [42] ((σ.must s [115,101,108,101,99,116]).take s [100,105,115,116,105,110,99,116]) then St.step s ((σ.must s [115,101,108,101,99,116]).take s [100,105,115,116,105,110,99,116]) else Sp.run s n .list d ((σ.must s [115,101,108,101,99,116]).take s [100,105,115,116,105,110,99,116]))) else (if St.is s [42] ((σ.must s [115,101,108,101,99,116]).take s [100,105,115,116,105,110,99,116]) then St.step s ((σ.must s [115,101,108,101,99,116]).take s [100,105,115,116,105,110,99,116]) else Sp.run s n .list d ((σ.must s [115,101,108,101,99,116]).take s [100,105,115,116,105,110,99,116]))))
theorem uY (s:Sp.Bs) (n d:Nat) (σ:St):Sp.tr s (n+1) .factor d .nil σ=MU s n d σ:=by rw [Sp.tr,MU]
theorem uZ (s:Sp.Bs) (n d:Nat) (σ:St):Sp.run s (n+1) .dS d σ=wR s n d [119,104,101,114,101] σ:=by rw [Sp.run,wR]
theorem rL (s:Sp.Bs) (n d:Nat) (σ:St):Sp.tr s (n+1) .dS d .nil σ=DC s n d [119,104,101,114,101] σ:=by rw [Sp.tr,DC]
def PN (s:Sp.Bs) (n d:Nat) (σ:St):St:=if St.is s [42] σ then St.step s σ else Sp.run s (n+1) .list d σ
def Q9 (s:Sp.Bs) (n d:Nat) (σ:St):St:=if St.is s [102,114,111,109] σ then Sp.run s (n+1) .fF d (St.step s σ) else σ
def Sk (s:Sp.Bs) (n d:Nat) (σ:St):Nd:=if St.is s [42] σ then .none else Sp.tr s (n+1) .list d .nil σ
def Sm (s:Sp.Bs) (n:Nat) (σ:St):List (Nm×Nm):=if St.is s [102,114,111,109] σ then Sp.tr.froms s (n+1) (St.step s σ) else []
theorem Ew {b c cap len:Nat} {s:Sp.Bs} {n d:Nat} {σ:St} {w:World} (IH:Hid (∀ m,m<=n->All b c cap len s m)) (hd:d+(n+1)<=1000000) (hm:32*rem s σ+12<=n+1) (hp:PS b c cap len s d σ w) (fY:σ.is s [40]=false) :
  Calls prog 176 #[.pointer (some ⟨b,0,none⟩)] w (aX b c cap len s d (Sp.run s (n+1) .factor d σ) w aR λw' v=>Rp w' (Sp.tr s (n+1) .factor d .nil σ) w.heap.size w'.heap.size v):=by
 have hbw:=hp.lb
 have hcw:=hp.lc
 have r1:=cA s [115,101,108,101,99,116] σ
 have r2:=pU s [100,105,115,116,105,110,99,116] (σ.must s [115,101,108,101,99,116])
 obtain ⟨n',rfl⟩:∃ n',n=n'+1:=⟨n - 1,by omega⟩
 have HV:Hid (Sp.run s (n'+1+1) .factor d σ=wR s n' d [119,104,101,114,101] (Q9 s n' d (PN s n' d ((σ.must s [115,101,108,101,99,116]).take s [100,105,115,116,105,110,99,116])))):=by
  show _=_
  rw [yD,MT,fY,<- uZ];rfl
 have cL:Hid (Sp.tr s (n'+1+1) .factor d .nil σ = .sel ((σ.must s [115,101,108,101,99,116]).is s [100,105,115,116,105,110,99,116]) (St.at_ s ((σ.must s [115,101,108,101,99,116]).take s [100,105,115,116,105,110,99,116])) (Sk s n' d ((σ.must s [115,101,108,101,99,116]).take s [100,105,115,116,105,110,99,116])) (Sm s n' (PN s n' d ((σ.must s [115,101,108,101,99,116]).take s [100,105,115,116,105,110,99,116]))) (DC s n' d [119,104,101,114,101] (Q9 s n' d (PN s n' d ((σ.must s [115,101,108,101,99,116]).take s [100,105,115,116,105,110,99,116]))))):=by
  show _=_
  rw [uY,MU,fY,<- rL];rfl
 have J0:=hid hp
 clear hp
 have hfd:=t7
 have hmf:=mG
 generalize hs0:σ.must s [115,101,108,101,99,116]=wH at *
 generalize hdi:wH.is s [100,105,115,116,105,110,99,116]=di at *
 generalize hs1:wH.take s [100,105,115,116,105,110,99,116]=σ1 at *
 go_enter func176,ntmps176
 go_wp2_with fail
 refine (mN J0.out [40] (by decide)).mono ?_
 rintro r w1 ⟨rfl,hp1,hk1⟩
 rw [fY]
 have bP:=hid hp1
 have bD:=hid hk1
 clear hp1 hk1 J0
 go_wp2_with fail
 refine (cG bP.out [115,101,108,101,99,116] (by decide)).mono ?_
 rintro r w2 ⟨rfl,hp2,hk2⟩
 rw [hs0] at hp2
 have HP2:Hid (PS b c cap len s d wH w2):=hp2
 have aY:Hid (Kept b w w2):=bD.out.trans hk2
 clear hp2 hk2
 go_wp2_with fail
 refine (aW HP2.out [100,105,115,116,105,110,99,116] (by decide)).mono ?_
 rintro r w3 ⟨rfl,hp3,hk3⟩
 rw [hs1] at hp3
 rw [hdi]
 obtain ⟨i,wd,hi,tc,PK⟩:=bG hp3
 have jV:Hid (σ1.aA=true->aP s (pos s i)=σ1.at_ s):=λhl=>(dW hi tc hl).1
 have dJ:Hid (PS b c cap len s d σ1 w3):=hp3
 have bL:Hid (Kept b w w3):=aY.out.trans hk3
 have gP:=jR PK
 clear hp3 hk3 hi tc PK
 generalize kn (aE s (pos s i))=kk at *
 generalize aP s (pos s i)=st at *
 clear hs0 hdi hs1
 go_wp2_with fail
 refine (gP.out _ rfl).mono ?_
 clear gP
 rintro r w4 ⟨rfl,hb4⟩
 have iD:Hid (PS b c cap len s d σ1 (w4.alloc (.cells #[.bool di, .int .i64 (st:Int), .slice none 0 0, .slice none 0 0, .pointer none] 335))):=(dJ.out.below hb4).alloc _
 have eS:Hid (Kept b w (w4.alloc (.cells #[.bool di, .int .i64 (st:Int), .slice none 0 0, .slice none 0 0, .pointer none] 335))):=(bL.out.trans (Kept.below hb4)).alloc _
 have lM:Hid (Bk (w4.alloc (.cells #[.bool di, .int .i64 (st:Int), .slice none 0 0, .slice none 0 0, .pointer none] 335)) w4.heap.size [.bool di, .int .i64 (st:Int), .slice none 0 0, .slice none 0 0, .pointer none]):=Bk.new _ _ _
 have tH:w.heap.size<=w4.heap.size:=cF bL.out.size hb4.size
 clear hb4 dJ bL
 go_wp2_with fail
 refine (cX iD.out [42] (by decide) _ (by simp)).mono ?_
 rintro r w5 ⟨rfl,oJ,hk5⟩
 have iR:Hid (Kept b w w5):=eS.out.trans hk5
 have eT:Hid (Bk w5 w4.heap.size [.bool di, .int .i64 (st:Int), .slice none 0 0, .slice none 0 0, .pointer none]):=lM.out.kept hk5 (by omega)
 have tG:w4.heap.size+1<=w5.heap.size:=by have:=hk5.size;simpa using this
 clear hk5 iD eS lM
 cases o7:St.is s [42] σ1
 case' false=>
  rw [bE o7] at oJ
  have i7:=hid oJ
  have r3:=cR s (n'+1) .list d σ1
  have e2:PN s n' d σ1=Sp.run s (n'+1) .list d σ1:=by rw [PN,o7];rfl
  have ex:Sk s n' d σ1=Sp.tr s (n'+1) .list d .nil σ1:=by rw [Sk,o7];rfl
  rw [e2] at HV
  rw [e2,ex] at cL
  clear e2 ex oJ
  go_wp2_with fail
  refine ((IH.out (n'+1) (aF _)).list d _ _ (by omega) (by show 32*rem s _+10<=n'+1;omega) i7.out).mono ?_
  rintro r w6' ⟨xv,rfl,Bb,hk6,⟨xa,xn,xc,rfl⟩,Xx⟩
  have F9:=eT.out.kept hk6 (by omega)
  have c2:=F9.k2
  have f2:=F9.f 2
  have BV:=hk6.size
  have Sn:=hid Bb
  have So : Hid (Kept b w w6'):=iR.out.trans hk6
  have Sq:=hid F9
  have Sr:=hid Xx
  clear Bb hk6 F9 Xx
  go_wp2_with fail
  have kN:Hid (PS b c cap len s d (Sp.run s (n'+1) .list d σ1) (w6'.setCell ⟨w4.heap.size,2,none⟩ (.slice xa xn xc))):=Sn.out.put w4.heap.size 2 (by omega) (by omega) _
  have iS:Hid (Kept b w (w6'.setCell ⟨w4.heap.size,2,none⟩ (.slice xa xn xc))):=So.out.aI (by simpa using tH) _
  have jF:Hid (Bk (w6'.setCell ⟨w4.heap.size,2,none⟩ (.slice xa xn xc)) w4.heap.size [.bool di, .int .i64 (st:Int), .slice xa xn xc, .slice none 0 0, .pointer none]):=Sq.out.put 2 (by simp) _
  have Jh:Hid ((Sp.run s (n'+1) .list d σ1).aA=true->xR (w4.heap.size+1) (w6'.setCell ⟨w4.heap.size,2,none⟩ (.slice xa xn xc)).heap.size (.slice xa xn xc)/\((Sp.tr s (n'+1) .list d .nil σ1=Nd.none/\Value.slice xa xn xc = .slice none 0 0)\/(Sp.tr s (n'+1) .list d .nil σ1≠Nd.none/\Rp (w6'.setCell ⟨w4.heap.size,2,none⟩ (.slice xa xn xc)) (Sp.tr s (n'+1) .list d .nil σ1) (w4.heap.size+1) (w6'.setCell ⟨w4.heap.size,2,none⟩ (.slice xa xn xc)).heap.size (.slice xa xn xc)))):=λhl=>by
   obtain ⟨r,si⟩:=Sr.out hl
   have hzz:(w6'.setCell ⟨w4.heap.size,2,none⟩ (.slice xa xn xc)).heap.size=w6'.heap.size:=by simp [World.setCell]
   rw [hzz]
   refine ⟨si.wide tG (aF _),Or.inr ⟨by rw [Sp.tr];simp,?_⟩⟩
   refine Rp.wide _ _ _ _ _ _ (r.frame (by rw [hzz];exact aF _) _ _ _ _ (λk h1 h2=>c6 _ _ _ _ (by simp;omega)) (λblk off n c e=>c6 _ _ _ _ (by have:=si blk off n c e;simp;omega))) tG (aF _)
  have x8:w5.heap.size<=(w6'.setCell ⟨w4.heap.size,2,none⟩ (.slice xa xn xc)).heap.size:=by simp [World.setCell];exact BV
  have HS2:Hid ((Sp.run s (n'+1) .list d σ1).aA=true->σ1.aA=true):=λh=>dU h
  have Zc:Hid ((w6'.setCell ⟨w4.heap.size,2,none⟩ (.slice xa xn xc)).heap.size=w6'.heap.size):=by show _=_;simp [World.setCell]
  generalize hxv:Value.slice xa xn xc=xv at *
  generalize (w6'.setCell ⟨w4.heap.size,2,none⟩ xv)=w6 at *
  generalize Sp.run s (n'+1) .list d σ1=σ2 at *
  clear hxv Sn So Sq Sr i7 iR eT c2 f2 BV
 case' true=>
  rw [aZ o7] at oJ
  have i7:=hid oJ
  have r3:=aO o7
  have e2:PN s n' d σ1=σ1.step s:=by rw [PN,o7];rfl
  have ex:Sk s n' d σ1=Nd.none:=by rw [Sk,o7];rfl
  rw [e2] at HV
  rw [e2,ex] at cL
  clear e2 ex oJ
  generalize hsx:σ1.step s=σ2 at *
  have HS2:Hid (σ2.aA=true->σ1.aA=true):=λh=>by rw [<- hsx] at h;exact cU h
  clear hsx
  obtain ⟨xv,w6,hw6⟩:∃ (xv:Value) (w6:World),xv = .slice none 0 0/\w6=w5:=⟨_,_,rfl,rfl⟩
  obtain ⟨hxv,hw6⟩:=hw6
  have kN:Hid (PS b c cap len s d σ2 w6):=by rw [hw6];exact i7.out
  have iS:Hid (Kept b w w6):=by rw [hw6];exact iR.out
  have jF:Hid (Bk w6 w4.heap.size [.bool di, .int .i64 (st:Int),xv, .slice none 0 0, .pointer none]):=by rw [hw6,hxv];exact eT.out
  have x8:w5.heap.size<=w6.heap.size:=by rw [hw6];exact aF _
  have Jh:Hid (σ2.aA=true->xR (w4.heap.size+1) w6.heap.size xv/\((Nd.none=Nd.none/\xv = .slice none 0 0)\/(Nd.none≠Nd.none/\Rp w6 Nd.none (w4.heap.size+1) w6.heap.size xv))):=λ_=>⟨by rw [hxv];exact λ_ _ _ _ e=>(by cases e),Or.inl ⟨rfl,hxv⟩⟩
  rw [<- hw6]
  clear hw6 hxv i7 iR eT
 all_goals
  go_wp2_with fail
  refine (cX kN.out [102,114,111,109] (by decide) _ (by first | rfl | exact Zc.out.symm)).mono ?_
  rintro r w7 ⟨rfl,DB,FV⟩
  have wT:=hid FV
  have qB:Hid (Bk w7 w4.heap.size [.bool di, .int .i64 (st:Int),xv, .slice none 0 0, .pointer none]):=jF.out.kept FV (by omega)
  have BG:=FV.size
  clear FV kN jF
  cases o8:St.is s [102,114,111,109] σ2
  case' false=>
   rw [bE o8] at DB
   have pQ:=hid DB
   have e3:Q9 s n' d σ2=σ2:=by rw [Q9,o8];rfl
   have er:Sm s n' σ2 = []:=by rw [Sm,o8];rfl
   rw [e3] at HV
   rw [e3,er] at cL
   clear e3 er DB
   have Um:Hid (σ2.aA=true->σ2.aA=true):=λh=>h
   have r8:True:=True.intro
   obtain ⟨fv,PO,hfv,hfr⟩:∃ (fv:Value) (PO:List (Nm×Nm)),fv = .slice none 0 0/\PO = []:=⟨_,_,rfl,rfl⟩
   obtain ⟨w8,hw8⟩:∃ w8:World,w8=w7:=⟨_,rfl⟩
   have Hm:Hid (PS b c cap len s d σ2 w8):=by rw [hw8];exact pQ.out
   have Ss:Hid (∀ k,k<w6.heap.size->k≠b->k≠w4.heap.size->w8.heap[k]?=w6.heap[k]?):=λk h1 h2 _=>by rw [hw8];exact wT.out.block k h1 h2
   have FU:Hid (Kept b w w8):=by rw [hw8];exact iS.out.trans wT.out
   have Ot:Hid (Bk w8 w4.heap.size [.bool di, .int .i64 (st:Int),xv,fv, .pointer none]):=by rw [hw8,hfv];exact qB.out
   have Uj:Hid (σ2.aA=true->(PO = []/\fv = .slice none 0 0)\/∃ blk c,fv = .slice (some ⟨blk,0,none⟩) PO.length c/\PO ≠ []/\w6.heap.size<=blk/\blk<w8.heap.size/\gN w8 blk 0 PO):=λ_=>Or.inl ⟨hfr,hfv⟩
   have Zd:w7.heap.size<=w8.heap.size:=by rw [hw8];exact aF _
   rw [<- hfr] at cL
   rw [<- hw8]
   clear hw8 hfr hfv pQ qB
   generalize hs3:σ2=σ3 at *
  case' true=>
   rw [aZ o8] at DB
   have pQ:=hid DB
   have r4:=aO o8
   have e3:Q9 s n' d σ2=Sp.run s (n'+1) .fF d (σ2.step s):=by rw [Q9,o8];rfl
   have er:Sm s n' σ2=Sp.tr.froms s (n'+1) (σ2.step s):=by rw [Sm,o8];rfl
   rw [e3] at HV
   rw [e3,er] at cL
   clear e3 er DB
   go_wp2_with fail
   refine (Hs (n:=n') (by omega) (by omega) pQ.out).mono ?_
   rintro r Ma ⟨fv,rfl,RS,hk8,⟨fa,fn,fc,rfl⟩,MB⟩
   have Un:=qB.out.kept hk8 (by omega)
   have c3:=Un.k3
   have f3:=Un.f 3
   have Su:=hk8.size
   have Sw:=hid RS
   have PP:=hid hk8
   have Sx:=hid Un
   have Sy:=hid MB
   clear RS hk8 Un MB
   go_wp2_with fail
   have hzz:(Ma.setCell ⟨w4.heap.size,3,none⟩ (.slice fa fn fc)).heap.size=Ma.heap.size:=by simp [World.setCell]
   have Hm:Hid (PS b c cap len s d (Sp.run s (n'+1) .fF d (σ2.step s)) (Ma.setCell ⟨w4.heap.size,3,none⟩ (.slice fa fn fc))):=Sw.out.put w4.heap.size 3 (by omega) (by omega) _
   have Ss:Hid (∀ k,k<w6.heap.size->k≠b->k≠w4.heap.size->(Ma.setCell ⟨w4.heap.size,3,none⟩ (.slice fa fn fc)).heap[k]?=w6.heap[k]?):=λk h1 h2 h3=>(c6 _ _ _ _ h3).trans ((PP.out.block k (by omega) h2).trans (wT.out.block k h1 h2))
   have FU:Hid (Kept b w (Ma.setCell ⟨w4.heap.size,3,none⟩ (.slice fa fn fc))):=((iS.out.trans wT.out).trans PP.out).aI (by simpa using tH) _
   have Ot:Hid (Bk (Ma.setCell ⟨w4.heap.size,3,none⟩ (.slice fa fn fc)) w4.heap.size [.bool di, .int .i64 (st:Int),xv, .slice fa fn fc, .pointer none]):=Sx.out.put 3 (by simp) _
   have Uj:Hid ((Sp.run s (n'+1) .fF d (σ2.step s)).aA=true->(Sp.tr.froms s (n'+1) (σ2.step s) = []/\Value.slice fa fn fc = .slice none 0 0)\/∃ blk c,Value.slice fa fn fc = .slice (some ⟨blk,0,none⟩) (Sp.tr.froms s (n'+1) (σ2.step s)).length c/\Sp.tr.froms s (n'+1) (σ2.step s) ≠ []/\w6.heap.size<=blk/\blk<(Ma.setCell ⟨w4.heap.size,3,none⟩ (.slice fa fn fc)).heap.size/\gN (Ma.setCell ⟨w4.heap.size,3,none⟩ (.slice fa fn fc)) blk 0 (Sp.tr.froms s (n'+1) (σ2.step s))):=λhl=>by
    obtain ⟨g,kc,e,h1,h2,h3⟩:=Sy.out hl
    exact Or.inr ⟨g,kc,e,by rw [uU];simp,by omega,by rw [hzz];exact h2,h3.same (c6 _ _ _ _ (by simp;omega))⟩
   have Zd:w7.heap.size<=(Ma.setCell ⟨w4.heap.size,3,none⟩ (.slice fa fn fc)).heap.size:=by rw [hzz];exact Su
   have Um:Hid ((Sp.run s (n'+1) .fF d (σ2.step s)).aA=true->σ2.aA=true):=λh=>cU (dU h)
   have r8:=cR s (n'+1) .fF d (σ2.step s)
   generalize hfv:Value.slice fa fn fc=fv at *
   generalize (Ma.setCell ⟨w4.heap.size,3,none⟩ fv)=w8 at *
   generalize hs3:Sp.run s (n'+1) .fF d (σ2.step s)=σ3 at *
   generalize Ze:Sp.tr.froms s (n'+1) (σ2.step s)=PO at *
   clear hfv Sw PP Sx Sy pQ qB c3 f3 Su hzz
  all_goals
   go_wp2_with fail
   refine (fC (n:=n') Hm.out [119,104,101,114,101] (by decide) (λhwh w' hp'=>(IH.out n' (by omega)).expr d _ _ (by omega) (by have:=aO hwh;show 32*rem s _+9<=n';omega) hp')).mono ?_
   rintro r w9 ⟨wv,rfl,uN,hk9,⟨wa,rfl⟩,BS⟩
   have Uo:=Ot.out.kept hk9 (by omega)
   have c4:=Uo.k4
   have f4:=Uo.f 4
   have YU:=hk9.size
   have J1:=hid uN
   have PQ:=hid hk9
   have A9:=hid Uo
   have Zf:=hid BS
   clear uN hk9 Uo BS
   go_wp2_with fail
   go_ret
   have hzz:(w9.setCell ⟨w4.heap.size,4,none⟩ (.pointer wa)).heap.size=w9.heap.size:=by simp [World.setCell]
   refine ⟨_,rfl,by rw [HV.out];exact J1.out.put w4.heap.size 4 (by omega) (by omega) _,(FU.out.trans PQ.out).aI (by simpa using tH) _,Or.inr ⟨_,_,rfl⟩,λhl=>?_⟩
   rw [HV.out] at hl
   rw [cL.out]
   have hl3:σ3.aA=true:=by
    unfold wR at hl
    split at hl
    ·exact cU (dU hl)
    ·exact hl
   have hl2:=Um.out hl3
   have hl1:=HS2.out hl2
   have est:=jV.out hl1
   subst est
   obtain ⟨si,hx⟩:=Jh.out hl2
   have hset:∀ k,k≠w4.heap.size->(w9.setCell ⟨w4.heap.size,4,none⟩ (.pointer wa)).heap[k]?=w9.heap[k]?:=λk hk=>c6 _ _ _ _ hk
   have Xy:∀ k,k<w6.heap.size->k≠b->k≠w4.heap.size->(w9.setCell ⟨w4.heap.size,4,none⟩ (.pointer wa)).heap[k]?=w6.heap[k]?:=λk h1 h2 h3=>(hset k h3).trans ((PQ.out.block k (by omega) h2).trans (Ss.out k h1 h2 h3))
   refine ⟨w4.heap.size,xv,fv, .pointer wa,w4.heap.size+1,w6.heap.size,w8.heap.size,w9.heap.size,rfl,tH,by rw [hzz];omega,by unfold Sub;rw [hzz];omega,by unfold Sub;rw [hzz];omega,(A9.out.put 4 (by simp) _).at_,si.wide (by omega) (aF _),?_,?_,b9.ptr _,?_⟩
   ·rcases hx with hx | ⟨h1,h2⟩
    ·exact Or.inl ⟨by first | exact hx.1 | rfl,hx.2⟩
    ·exact Or.inr ⟨h1,h2.frame (by rw [hzz];omega) _ _ _ _ (λk p1 p2=>Xy k p2 (by omega) (by omega)) (λblk off n c e=>by have:=si blk off n c e;exact Xy blk (by omega) (by omega) (by omega))⟩
   ·rcases Uj.out hl3 with h | ⟨blk,c,e,h1,h2,h3,h4⟩
    ·exact Or.inl h
    ·exact Or.inr ⟨blk,c,e,h1,h2,h3,by rw [hzz];omega,h4.same ((hset blk (by omega)).trans (PQ.out.block blk h3 (by omega)))⟩
   ·exact (Zf.out hl).frame (by rw [hzz];exact aF _) _ _ _ _ (λk p1 p2=>hset k (by omega)) (λ_ _ _ _ e=>by cases e)
theorem BX {b c cap len:Nat} {s:Sp.Bs} {n d:Nat} {σ:St} {w:World} (IH:Hid (∀ m,m<=n->All b c cap len s m)) (hd:d+(n+1)<=1000000) (hm:32*rem s σ+12<=n+1) (hp:PS b c cap len s d σ w) (fY:σ.is s [40]=true) :
  Calls prog 176 #[.pointer (some ⟨b,0,none⟩)] w (aX b c cap len s d (Sp.run s (n+1) .factor d σ) w aR λw' v=>Rp w' (Sp.tr s (n+1) .factor d .nil σ) w.heap.size w'.heap.size v):=by
 have h1:=eN (d:=d) fY
 rw [<- dA fY] at h1
 have HV:Hid (Sp.run s (n+1) .factor d σ=(Sp.run s n .query (d+1) (St.opened s [40] d σ)).must s [41]):=by show _=_;rw [yD,MT,fY,dA fY];rfl
 have cL:Hid (Sp.tr s (n+1) .factor d .nil σ=Sp.tr s n .query (d+1) .nil (St.opened s [40] d σ)):=by show _=_;rw [uY,MU,fY,dA fY];rfl
 have J0:=hid hp
 clear hp
 have hmf:=mG
 go_enter func176,ntmps176
 go_wp2_with fail
 refine (mN J0.out [40] (by decide)).mono ?_
 rintro r w1 ⟨rfl,hp1,hk1⟩
 rw [fY]
 have bP:=hid hp1
 have bD:=hid hk1
 clear hp1 hk1 J0
 go_wp2_with fail
 refine (jE (.inr (.inr ⟨rfl,rfl,rfl,rfl,rfl,rfl⟩)) bP.out (by omega) (Sp.run s n .query (d+1) (St.opened s [40] d σ)) (Sp.tr s n .query (d+1) .nil (St.opened s [40] d σ)) (λw' hp'=>((IH.out n (aF _)).query (d+1) _ _ (by omega) (by show 32*rem s _+15<=n;omega) hp').mono λ_ _ h=>h.rq)).mono ?_
 rintro r w9 ⟨v9,rfl,uN,hk9,hi9,BS⟩
 have HX:Hid (PS b c cap len s d ((Sp.run s n .query (d+1) (St.opened s [40] d σ)).must s [41]) w9/\Kept b w w9/\aR v9/\(((Sp.run s n .query (d+1) (St.opened s [40] d σ)).must s [41]).aA=true->Rp w9 (Sp.tr s n .query (d+1) .nil (St.opened s [40] d σ)) w.heap.size w9.heap.size v9)):=⟨uN,bD.out.trans hk9,hi9,λhl=>Rp.wide _ _ _ _ _ _ (BS hl).1 bD.out.size (aF _)⟩
 clear uN hk9 hi9 BS
 go_wp2_with fail
 go_ret
 exact ⟨_,rfl,by rw [HV.out];exact HX.out.1,HX.out.2.1,HX.out.2.2.1,by rw [HV.out,cL.out];exact HX.out.2.2.2⟩
theorem BY {b c cap len:Nat} {s:Sp.Bs} {n:Nat} (IH:Hid (∀ m,m<=n->All b c cap len s m)):Sd b c cap len s (n+1) .factor aR 176:=by
 intro d σ w hd hm hp
 have hm' : 32*rem s σ+12<=n+1:=hm
 cases fY:σ.is s [40]
 ·exact Ew IH hd hm' hp fY
 ·exact BX IH hd hm' hp fY
end Go.Proofs.YtgnncnhkgmhngaaGreatDoor
