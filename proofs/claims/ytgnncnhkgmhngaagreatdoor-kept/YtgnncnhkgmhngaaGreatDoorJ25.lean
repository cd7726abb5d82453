import Derived.Test.YtgnncnhkgmhngaaGreatDoorJ24
set_option maxHeartbeats 4000000
namespace Go.Proofs.YtgnncnhkgmhngaaGreatDoor
open Go.RowKit
theorem Bk.put {w:World} {q:Nat} {vs:List Value} (h:Bk w q vs) (i:Nat) (hi:i<vs.length) (u:Value):Bk (w.setCell ⟨q,i,none⟩ u) q (vs.set i u):=by
 refine ⟨by simpa [World.setCell] using h.lt,fun j hj=>?_,fun j=>?_⟩
 ·have hj' : j<vs.length:=by simpa using hj
  have ci:=h.c i hi
  have cj:=h.c j hj'
  have lt:=h.lt
  by_cases e:j=i
  ·subst e
   rw [List.getElem_set_self]
   go_simp
  ·rw [List.getElem_set_ne (fun x=>e x.symm)]
   rw [<- cj]
   have e' : i≠j:=fun x=>e x.symm
   go_simp
 ·have f:=h.f j
  have ci:=h.c i hi
  have lt:=h.lt
  go_simp
def facS (s:Sp.Bs) (n d:Nat) (σ:Sp.St):Sp.St:=
 if σ.is s [40] then (Sp.run s n .query (d+1) (σ.openT s d)).must s [41]
 else Sp.run s n .where_ d (if Sp.St.is s [102,114,111,109] (if Sp.St.is s [42] ((σ.must s [115,101,108,101,99,116]).take s [100,105,115,116,105,110,99,116]) then Sp.St.step s ((σ.must s [115,101,108,101,99,116]).take s [100,105,115,116,105,110,99,116]) else Sp.run s n .list d ((σ.must s [115,101,108,101,99,116]).take s [100,105,115,116,105,110,99,116])) then Sp.run s n .fromL d (Sp.St.step s (if Sp.St.is s [42] ((σ.must s [115,101,108,101,99,116]).take s [100,105,115,116,105,110,99,116]) then Sp.St.step s ((σ.must s [115,101,108,101,99,116]).take s [100,105,115,116,105,110,99,116]) else Sp.run s n .list d ((σ.must s [115,101,108,101,99,116]).take s [100,105,115,116,105,110,99,116]))) else (if Sp.St.is s [42] ((σ.must s [115,101,108,101,99,116]).take s [100,105,115,116,105,110,99,116]) then Sp.St.step s ((σ.must s [115,101,108,101,99,116]).take s [100,105,115,116,105,110,99,116]) else Sp.run s n .list d ((σ.must s [115,101,108,101,99,116]).take s [100,105,115,116,105,110,99,116])))
theorem factor_eq (s:Sp.Bs) (n d:Nat) (σ:Sp.St):Sp.run s (n+1) .factor d σ=facS s n d σ:=by rw [Sp.run,facS]
def facN (s:Sp.Bs) (n d:Nat) (σ:Sp.St):Sp.Nd:=
 if σ.is s [40] then Sp.tr s n .query (d+1) .nil (σ.openT s d)
 else .sel ((σ.must s [115,101,108,101,99,116]).is s [100,105,115,116,105,110,99,116]) (Sp.St.at_ s ((σ.must s [115,101,108,101,99,116]).take s [100,105,115,116,105,110,99,116])) (if Sp.St.is s [42] ((σ.must s [115,101,108,101,99,116]).take s [100,105,115,116,105,110,99,116]) then Sp.Nd.none else Sp.tr s n .list d .nil ((σ.must s [115,101,108,101,99,116]).take s [100,105,115,116,105,110,99,116])) (if Sp.St.is s [102,114,111,109] (if Sp.St.is s [42] ((σ.must s [115,101,108,101,99,116]).take s [100,105,115,116,105,110,99,116]) then Sp.St.step s ((σ.must s [115,101,108,101,99,116]).take s [100,105,115,116,105,110,99,116]) else Sp.run s n .list d ((σ.must s [115,101,108,101,99,116]).take s [100,105,115,116,105,110,99,116])) then Sp.tr.froms s n (Sp.St.step s (if Sp.St.is s [42] ((σ.must s [115,101,108,101,99,116]).take s [100,105,115,116,105,110,99,116]) then Sp.St.step s ((σ.must s [115,101,108,101,99,116]).take s [100,105,115,116,105,110,99,116]) else Sp.run s n .list d ((σ.must s [115,101,108,101,99,116]).take s [100,105,115,116,105,110,99,116]))) else []) (Sp.tr s n .where_ d .nil (if Sp.St.is s [102,114,111,109] (if Sp.St.is s [42] ((σ.must s [115,101,108,101,99,116]).take s [100,105,115,116,105,110,99,116]) then Sp.St.step s ((σ.must s [115,101,108,101,99,116]).take s [100,105,115,116,105,110,99,116]) else Sp.run s n .list d ((σ.must s [115,101,108,101,99,116]).take s [100,105,115,116,105,110,99,116])) then Sp.run s n .fromL d (Sp.St.step s (if Sp.St.is s [42] ((σ.must s [115,101,108,101,99,116]).take s [100,105,115,116,105,110,99,116]) then Sp.St.step s ((σ.must s [115,101,108,101,99,116]).take s [100,105,115,116,105,110,99,116]) else Sp.run s n .list d ((σ.must s [115,101,108,101,99,116]).take s [100,105,115,116,105,110,99,116]))) else (if Sp.St.is s [42] ((σ.must s [115,101,108,101,99,116]).take s [100,105,115,116,105,110,99,116]) then Sp.St.step s ((σ.must s [115,101,108,101,99,116]).take s [100,105,115,116,105,110,99,116]) else Sp.run s n .list d ((σ.must s [115,101,108,101,99,116]).take s [100,105,115,116,105,110,99,116]))))
theorem factorN_eq (s:Sp.Bs) (n d:Nat) (σ:Sp.St):Sp.tr s (n+1) .factor d .nil σ=facN s n d σ:=by rw [Sp.tr,facN]
theorem where_eq (s:Sp.Bs) (n d:Nat) (σ:Sp.St):Sp.run s (n+1) .where_ d σ=clT s n d [119,104,101,114,101] σ:=by rw [Sp.run,clT]
theorem whereN_eq (s:Sp.Bs) (n d:Nat) (σ:Sp.St):Sp.tr s (n+1) .where_ d .nil σ=clN s n d [119,104,101,114,101] σ:=by rw [Sp.tr,clN]
def fs2 (s:Sp.Bs) (n d:Nat) (σ:Sp.St):Sp.St:=if Sp.St.is s [42] σ then Sp.St.step s σ else Sp.run s (n+1) .list d σ
def fs3 (s:Sp.Bs) (n d:Nat) (σ:Sp.St):Sp.St:=if Sp.St.is s [102,114,111,109] σ then Sp.run s (n+1) .fromL d (Sp.St.step s σ) else σ
def fsx (s:Sp.Bs) (n d:Nat) (σ:Sp.St):Sp.Nd:=if Sp.St.is s [42] σ then .none else Sp.tr s (n+1) .list d .nil σ
def fsr (s:Sp.Bs) (n:Nat) (σ:Sp.St):List (Sp.Nm×Sp.Nm):=if Sp.St.is s [102,114,111,109] σ then Sp.tr.froms s (n+1) (Sp.St.step s σ) else []
theorem factor_sel {b c cap len:Nat} {s:Sp.Bs} {n d:Nat} {σ:Sp.St} {w:World} (IH:Hid (∀ m,m<=n->All b c cap len s m)) (hd:d+(n+1)<=1000000) (hm:32*Sp.rem s σ+12<=n+1) (hp:PS b c cap len s d σ w) (h_open:σ.is s [40]=false) :
  Calls Tryz.prog 176 #[.pointer (some ⟨b,0,none⟩)] w (PostV b c cap len s d (Sp.run s (n+1) .factor d σ) w IsIf fun w' v=>Rp w' (Sp.tr s (n+1) .factor d .nil σ) w.heap.size w'.heap.size v):=by
 have hbw:=hp.lb
 have hcw:=hp.lc
 have r1:=Sp.rem_must s [115,101,108,101,99,116] σ
 have r2:=Sp.rem_take s [100,105,115,116,105,110,99,116] (σ.must s [115,101,108,101,99,116])
 obtain ⟨n',rfl⟩:∃ n',n=n'+1:=⟨n - 1,by omega⟩
 have HV:Hid (Sp.run s (n'+1+1) .factor d σ=clT s n' d [119,104,101,114,101] (fs3 s n' d (fs2 s n' d ((σ.must s [115,101,108,101,99,116]).take s [100,105,115,116,105,110,99,116])))):=by
  show _=_
  rw [factor_eq,facS,h_open,<- where_eq];rfl
 have HVT:Hid (Sp.tr s (n'+1+1) .factor d .nil σ = .sel ((σ.must s [115,101,108,101,99,116]).is s [100,105,115,116,105,110,99,116]) (Sp.St.at_ s ((σ.must s [115,101,108,101,99,116]).take s [100,105,115,116,105,110,99,116])) (fsx s n' d ((σ.must s [115,101,108,101,99,116]).take s [100,105,115,116,105,110,99,116])) (fsr s n' (fs2 s n' d ((σ.must s [115,101,108,101,99,116]).take s [100,105,115,116,105,110,99,116]))) (clN s n' d [119,104,101,114,101] (fs3 s n' d (fs2 s n' d ((σ.must s [115,101,108,101,99,116]).take s [100,105,115,116,105,110,99,116]))))):=by
  show _=_
  rw [factorN_eq,facN,h_open,<- whereN_eq];rfl
 have HPA:=hid hp
 clear hp
 have hfd:=tokF1
 have hmf:=mkFn
 generalize hs0:σ.must s [115,101,108,101,99,116]=σ0 at *
 generalize hdi:σ0.is s [100,105,115,116,105,110,99,116]=di at *
 generalize hs1:σ0.take s [100,105,115,116,105,110,99,116]=σ1 at *
 go_enter Tryz.func176,Tryz.ntmps176
 go_wp2_with fail
 refine (sees1 HPA.out [40] (by decide)).mono ?_
 rintro r w1 ⟨rfl,hp1,hk1⟩
 rw [h_open]
 have HP1:=hid hp1
 have HK1:=hid hk1
 clear hp1 hk1 HPA
 go_wp2_with fail
 refine (expect_any HP1.out [115,101,108,101,99,116] (by decide)).mono ?_
 rintro r w2 ⟨rfl,hp2,hk2⟩
 rw [hs0] at hp2
 have HP2:Hid (PS b c cap len s d σ0 w2):=hp2
 have HK2:Hid (Kept b w w2):=HK1.out.trans hk2
 clear hp2 hk2
 go_wp2_with fail
 refine (accept1 HP2.out [100,105,115,116,105,110,99,116] (by decide)).mono ?_
 rintro r w3 ⟨rfl,hp3,hk3⟩
 rw [hs1] at hp3
 rw [hdi]
 obtain ⟨i,wd,hi,tc,PK⟩:=peek_any hp3
 have HTK:Hid (σ1.isLive=true->Sp.tokAt s (pos s i)=σ1.at_ s):=fun hl=>(tok_live hi tc hl).1
 have HP3:Hid (PS b c cap len s d σ1 w3):=hp3
 have HK3:Hid (Kept b w w3):=HK2.out.trans hk3
 have HPK:=hidc PK
 clear hp3 hk3 hi tc PK
 generalize kn (Sp.tokCl s (pos s i))=kk at *
 generalize Sp.tokAt s (pos s i)=st at *
 clear hs0 hdi hs1
 go_wp2_with fail
 refine (HPK.out _ rfl).mono ?_
 clear HPK
 rintro r w4 ⟨rfl,hb4⟩
 have HP4:Hid (PS b c cap len s d σ1 (w4.alloc (.cells #[.bool di, .int .i64 (st:Int), .slice none 0 0, .slice none 0 0, .pointer none] 335))):=(HP3.out.below hb4).alloc _
 have HK4:Hid (Kept b w (w4.alloc (.cells #[.bool di, .int .i64 (st:Int), .slice none 0 0, .slice none 0 0, .pointer none] 335))):=(HK3.out.trans (Kept.below hb4)).alloc _
 have HX4:Hid (Bk (w4.alloc (.cells #[.bool di, .int .i64 (st:Int), .slice none 0 0, .slice none 0 0, .pointer none] 335)) w4.heap.size [.bool di, .int .i64 (st:Int), .slice none 0 0, .slice none 0 0, .pointer none]):=Bk.new _ _ _
 have hz4:w.heap.size<=w4.heap.size:=Nat.le_trans HK3.out.size hb4.size
 clear hb4 HP3 HK3
 go_wp2_with fail
 refine (accept1q HP4.out [42] (by decide) _ (by simp)).mono ?_
 rintro r w5 ⟨rfl,hp5,hk5⟩
 have HK5:Hid (Kept b w w5):=HK4.out.trans hk5
 have HX5:Hid (Bk w5 w4.heap.size [.bool di, .int .i64 (st:Int), .slice none 0 0, .slice none 0 0, .pointer none]):=HX4.out.kept hk5 (by omega)
 have hz5:w4.heap.size+1<=w5.heap.size:=by have:=hk5.size;simpa using this
 clear hk5 HP4 HK4 HX4
 cases h_star:Sp.St.is s [42] σ1
 case' false=>
  rw [take_no h_star] at hp5
  have HP5:=hid hp5
  have r3:=Sp.rem_run s (n'+1) .list d σ1
  have e2:fs2 s n' d σ1=Sp.run s (n'+1) .list d σ1:=by rw [fs2,h_star];rfl
  have ex:fsx s n' d σ1=Sp.tr s (n'+1) .list d .nil σ1:=by rw [fsx,h_star];rfl
  rw [e2] at HV
  rw [e2,ex] at HVT
  clear e2 ex hp5
  go_wp2_with fail
  refine ((IH.out (n'+1) (Nat.le_refl _)).list d _ _ (by omega) (by show 32*Sp.rem s _+10<=n'+1;omega) HP5.out).mono ?_
  rintro r w6' ⟨xv,rfl,hp6,hk6,⟨xa,xn,xc,rfl⟩,hr6⟩
  have hX6:=HX5.out.kept hk6 (by omega)
  have c2:=hX6.k2
  have f2:=hX6.f 2
  have hz6':=hk6.size
  have HP6':=hid hp6
  have HK6' : Hid (Kept b w w6'):=HK5.out.trans hk6
  have HX6':=hid hX6
  have HR6':=hid hr6
  clear hp6 hk6 hX6 hr6
  go_wp2_with fail
  have HP6:Hid (PS b c cap len s d (Sp.run s (n'+1) .list d σ1) (w6'.setCell ⟨w4.heap.size,2,none⟩ (.slice xa xn xc))):=HP6'.out.put w4.heap.size 2 (by omega) (by omega) _
  have HK6:Hid (Kept b w (w6'.setCell ⟨w4.heap.size,2,none⟩ (.slice xa xn xc))):=HK6'.out.setNew (by simpa using hz4) _
  have HX6:Hid (Bk (w6'.setCell ⟨w4.heap.size,2,none⟩ (.slice xa xn xc)) w4.heap.size [.bool di, .int .i64 (st:Int), .slice xa xn xc, .slice none 0 0, .pointer none]):=HX6'.out.put 2 (by simp) _
  have HR6:Hid ((Sp.run s (n'+1) .list d σ1).isLive=true->SIn (w4.heap.size+1) (w6'.setCell ⟨w4.heap.size,2,none⟩ (.slice xa xn xc)).heap.size (.slice xa xn xc)/\((Sp.tr s (n'+1) .list d .nil σ1=Sp.Nd.none/\Value.slice xa xn xc = .slice none 0 0)\/(Sp.tr s (n'+1) .list d .nil σ1≠Sp.Nd.none/\Rp (w6'.setCell ⟨w4.heap.size,2,none⟩ (.slice xa xn xc)) (Sp.tr s (n'+1) .list d .nil σ1) (w4.heap.size+1) (w6'.setCell ⟨w4.heap.size,2,none⟩ (.slice xa xn xc)).heap.size (.slice xa xn xc)))):=fun hl=>by
   obtain ⟨r,si⟩:=HR6'.out hl
   have hzz:(w6'.setCell ⟨w4.heap.size,2,none⟩ (.slice xa xn xc)).heap.size=w6'.heap.size:=by simp [World.setCell]
   rw [hzz]
   refine ⟨si.wide hz5 (Nat.le_refl _),Or.inr ⟨by rw [Sp.tr];simp,?_⟩⟩
   refine Rp.wide _ _ _ _ _ _ (r.frame (by rw [hzz];exact Nat.le_refl _) _ _ _ _ (fun k h1 h2=>Below.heap_setCell _ _ _ _ (by simp;omega)) (fun blk off n c e=>Below.heap_setCell _ _ _ _ (by have:=si blk off n c e;simp;omega))) hz5 (Nat.le_refl _)
  have hz6:w5.heap.size<=(w6'.setCell ⟨w4.heap.size,2,none⟩ (.slice xa xn xc)).heap.size:=by simp [World.setCell];exact hz6'
  have HS2:Hid ((Sp.run s (n'+1) .list d σ1).isLive=true->σ1.isLive=true):=fun h=>Sp.live_run h
  have HZE:Hid ((w6'.setCell ⟨w4.heap.size,2,none⟩ (.slice xa xn xc)).heap.size=w6'.heap.size):=by show _=_;simp [World.setCell]
  generalize hxv:Value.slice xa xn xc=xv at *
  generalize (w6'.setCell ⟨w4.heap.size,2,none⟩ xv)=w6 at *
  generalize Sp.run s (n'+1) .list d σ1=σ2 at *
  clear hxv HP6' HK6' HX6' HR6' HP5 HK5 HX5 c2 f2 hz6'
 case' true=>
  rw [take_yes h_star] at hp5
  have HP5:=hid hp5
  have r3:=Sp.rem_step_lt h_star
  have e2:fs2 s n' d σ1=σ1.step s:=by rw [fs2,h_star];rfl
  have ex:fsx s n' d σ1=Sp.Nd.none:=by rw [fsx,h_star];rfl
  rw [e2] at HV
  rw [e2,ex] at HVT
  clear e2 ex hp5
  generalize hsx:σ1.step s=σ2 at *
  have HS2:Hid (σ2.isLive=true->σ1.isLive=true):=fun h=>by rw [<- hsx] at h;exact Sp.live_step h
  clear hsx
  obtain ⟨xv,w6,hw6⟩:∃ (xv:Value) (w6:World),xv = .slice none 0 0/\w6=w5:=⟨_,_,rfl,rfl⟩
  obtain ⟨hxv,hw6⟩:=hw6
  have HP6:Hid (PS b c cap len s d σ2 w6):=by rw [hw6];exact HP5.out
  have HK6:Hid (Kept b w w6):=by rw [hw6];exact HK5.out
  have HX6:Hid (Bk w6 w4.heap.size [.bool di, .int .i64 (st:Int),xv, .slice none 0 0, .pointer none]):=by rw [hw6,hxv];exact HX5.out
  have hz6:w5.heap.size<=w6.heap.size:=by rw [hw6];exact Nat.le_refl _
  have HR6:Hid (σ2.isLive=true->SIn (w4.heap.size+1) w6.heap.size xv/\((Sp.Nd.none=Sp.Nd.none/\xv = .slice none 0 0)\/(Sp.Nd.none≠Sp.Nd.none/\Rp w6 Sp.Nd.none (w4.heap.size+1) w6.heap.size xv))):=fun _=>⟨by rw [hxv];exact fun _ _ _ _ e=>(by cases e),Or.inl ⟨rfl,hxv⟩⟩
  rw [<- hw6]
  clear hw6 hxv HP5 HK5 HX5
 all_goals
  go_wp2_with fail
  refine (accept1q HP6.out [102,114,111,109] (by decide) _ (by first | rfl | exact HZE.out.symm)).mono ?_
  rintro r w7 ⟨rfl,hp7,hk7⟩
  have HK67:=hid hk7
  have HX7:Hid (Bk w7 w4.heap.size [.bool di, .int .i64 (st:Int),xv, .slice none 0 0, .pointer none]):=HX6.out.kept hk7 (by omega)
  have hz7:=hk7.size
  clear hk7 HP6 HX6
  cases h_from:Sp.St.is s [102,114,111,109] σ2
  case' false=>
   rw [take_no h_from] at hp7
   have HP7:=hid hp7
   have e3:fs3 s n' d σ2=σ2:=by rw [fs3,h_from];rfl
   have er:fsr s n' σ2 = []:=by rw [fsr,h_from];rfl
   rw [e3] at HV
   rw [e3,er] at HVT
   clear e3 er hp7
   have HS3:Hid (σ2.isLive=true->σ2.isLive=true):=fun h=>h
   have r8:True:=True.intro
   obtain ⟨fv,frs,hfv,hfr⟩:∃ (fv:Value) (frs:List (Sp.Nm×Sp.Nm)),fv = .slice none 0 0/\frs = []:=⟨_,_,rfl,rfl⟩
   obtain ⟨w8,hw8⟩:∃ w8:World,w8=w7:=⟨_,rfl⟩
   have HP8:Hid (PS b c cap len s d σ2 w8):=by rw [hw8];exact HP7.out
   have HK68:Hid (∀ k,k<w6.heap.size->k≠b->k≠w4.heap.size->w8.heap[k]?=w6.heap[k]?):=fun k h1 h2 _=>by rw [hw8];exact HK67.out.block k h1 h2
   have HK8:Hid (Kept b w w8):=by rw [hw8];exact HK6.out.trans HK67.out
   have HX8:Hid (Bk w8 w4.heap.size [.bool di, .int .i64 (st:Int),xv,fv, .pointer none]):=by rw [hw8,hfv];exact HX7.out
   have HR8:Hid (σ2.isLive=true->(frs = []/\fv = .slice none 0 0)\/∃ blk c,fv = .slice (some ⟨blk,0,none⟩) frs.length c/\frs ≠ []/\w6.heap.size<=blk/\blk<w8.heap.size/\Srcs w8 blk 0 frs):=fun _=>Or.inl ⟨hfr,hfv⟩
   have hz8:w7.heap.size<=w8.heap.size:=by rw [hw8];exact Nat.le_refl _
   rw [<- hfr] at HVT
   rw [<- hw8]
   clear hw8 hfr hfv HP7 HX7
   generalize hs3:σ2=σ3 at *
  case' true=>
   rw [take_yes h_from] at hp7
   have HP7:=hid hp7
   have r4:=Sp.rem_step_lt h_from
   have e3:fs3 s n' d σ2=Sp.run s (n'+1) .fromL d (σ2.step s):=by rw [fs3,h_from];rfl
   have er:fsr s n' σ2=Sp.tr.froms s (n'+1) (σ2.step s):=by rw [fsr,h_from];rfl
   rw [e3] at HV
   rw [e3,er] at HVT
   clear e3 er hp7
   go_wp2_with fail
   refine (listS_any (n:=n') (by omega) (by omega) HP7.out).mono ?_
   rintro r w8' ⟨fv,rfl,hp8,hk8,⟨fa,fn,fc,rfl⟩,hr8⟩
   have hX8:=HX7.out.kept hk8 (by omega)
   have c3:=hX8.k3
   have f3:=hX8.f 3
   have hz8':=hk8.size
   have HP8':=hid hp8
   have HK8':=hid hk8
   have HX8':=hid hX8
   have HR8':=hid hr8
   clear hp8 hk8 hX8 hr8
   go_wp2_with fail
   have hzz:(w8'.setCell ⟨w4.heap.size,3,none⟩ (.slice fa fn fc)).heap.size=w8'.heap.size:=by simp [World.setCell]
   have HP8:Hid (PS b c cap len s d (Sp.run s (n'+1) .fromL d (σ2.step s)) (w8'.setCell ⟨w4.heap.size,3,none⟩ (.slice fa fn fc))):=HP8'.out.put w4.heap.size 3 (by omega) (by omega) _
   have HK68:Hid (∀ k,k<w6.heap.size->k≠b->k≠w4.heap.size->(w8'.setCell ⟨w4.heap.size,3,none⟩ (.slice fa fn fc)).heap[k]?=w6.heap[k]?):=fun k h1 h2 h3=>(Below.heap_setCell _ _ _ _ h3).trans ((HK8'.out.block k (by omega) h2).trans (HK67.out.block k h1 h2))
   have HK8:Hid (Kept b w (w8'.setCell ⟨w4.heap.size,3,none⟩ (.slice fa fn fc))):=((HK6.out.trans HK67.out).trans HK8'.out).setNew (by simpa using hz4) _
   have HX8:Hid (Bk (w8'.setCell ⟨w4.heap.size,3,none⟩ (.slice fa fn fc)) w4.heap.size [.bool di, .int .i64 (st:Int),xv, .slice fa fn fc, .pointer none]):=HX8'.out.put 3 (by simp) _
   have HR8:Hid ((Sp.run s (n'+1) .fromL d (σ2.step s)).isLive=true->(Sp.tr.froms s (n'+1) (σ2.step s) = []/\Value.slice fa fn fc = .slice none 0 0)\/∃ blk c,Value.slice fa fn fc = .slice (some ⟨blk,0,none⟩) (Sp.tr.froms s (n'+1) (σ2.step s)).length c/\Sp.tr.froms s (n'+1) (σ2.step s) ≠ []/\w6.heap.size<=blk/\blk<(w8'.setCell ⟨w4.heap.size,3,none⟩ (.slice fa fn fc)).heap.size/\Srcs (w8'.setCell ⟨w4.heap.size,3,none⟩ (.slice fa fn fc)) blk 0 (Sp.tr.froms s (n'+1) (σ2.step s))):=fun hl=>by
    obtain ⟨g,kc,e,h1,h2,h3⟩:=HR8'.out hl
    exact Or.inr ⟨g,kc,e,by rw [froms_eq];simp,by omega,by rw [hzz];exact h2,h3.same (Below.heap_setCell _ _ _ _ (by simp;omega))⟩
   have hz8:w7.heap.size<=(w8'.setCell ⟨w4.heap.size,3,none⟩ (.slice fa fn fc)).heap.size:=by rw [hzz];exact hz8'
   have HS3:Hid ((Sp.run s (n'+1) .fromL d (σ2.step s)).isLive=true->σ2.isLive=true):=fun h=>Sp.live_step (Sp.live_run h)
   have r8:=Sp.rem_run s (n'+1) .fromL d (σ2.step s)
   generalize hfv:Value.slice fa fn fc=fv at *
   generalize (w8'.setCell ⟨w4.heap.size,3,none⟩ fv)=w8 at *
   generalize hs3:Sp.run s (n'+1) .fromL d (σ2.step s)=σ3 at *
   generalize hfrs:Sp.tr.froms s (n'+1) (σ2.step s)=frs at *
   clear hfv HP8' HK8' HX8' HR8' HP7 HX7 c3 f3 hz8' hzz
  all_goals
   go_wp2_with fail
   refine (clauseIfAny_any (n:=n') HP8.out [119,104,101,114,101] (by decide) (fun hwh w' hp'=>(IH.out n' (by omega)).expr d _ _ (by omega) (by have:=Sp.rem_step_lt hwh;show 32*Sp.rem s _+9<=n';omega) hp')).mono ?_
   rintro r w9 ⟨wv,rfl,hp9,hk9,⟨wa,rfl⟩,hr9⟩
   have hX9:=HX8.out.kept hk9 (by omega)
   have c4:=hX9.k4
   have f4:=hX9.f 4
   have hz9:=hk9.size
   have HP9:=hid hp9
   have HK89:=hid hk9
   have HX9:=hid hX9
   have HR9:=hid hr9
   clear hp9 hk9 hX9 hr9
   go_wp2_with fail
   go_ret
   have hzz:(w9.setCell ⟨w4.heap.size,4,none⟩ (.pointer wa)).heap.size=w9.heap.size:=by simp [World.setCell]
   refine ⟨_,rfl,by rw [HV.out];exact HP9.out.put w4.heap.size 4 (by omega) (by omega) _,(HK8.out.trans HK89.out).setNew (by simpa using hz4) _,Or.inr ⟨_,_,rfl⟩,fun hl=>?_⟩
   rw [HV.out] at hl
   rw [HVT.out]
   have hl3:σ3.isLive=true:=by
    unfold clT at hl
    split at hl
    ·exact Sp.live_step (Sp.live_run hl)
    ·exact hl
   have hl2:=HS3.out hl3
   have hl1:=HS2.out hl2
   have est:=HTK.out hl1
   subst est
   obtain ⟨si,hx⟩:=HR6.out hl2
   have hset:∀ k,k≠w4.heap.size->(w9.setCell ⟨w4.heap.size,4,none⟩ (.pointer wa)).heap[k]?=w9.heap[k]?:=fun k hk=>Below.heap_setCell _ _ _ _ hk
   have h69:∀ k,k<w6.heap.size->k≠b->k≠w4.heap.size->(w9.setCell ⟨w4.heap.size,4,none⟩ (.pointer wa)).heap[k]?=w6.heap[k]?:=fun k h1 h2 h3=>(hset k h3).trans ((HK89.out.block k (by omega) h2).trans (HK68.out k h1 h2 h3))
   refine ⟨w4.heap.size,xv,fv, .pointer wa,w4.heap.size+1,w6.heap.size,w8.heap.size,w9.heap.size,rfl,hz4,by rw [hzz];omega,by unfold Sub;rw [hzz];omega,by unfold Sub;rw [hzz];omega,(HX9.out.put 4 (by simp) _).at_,si.wide (by omega) (Nat.le_refl _),?_,?_,NoSl.ptr _,?_⟩
   ·rcases hx with hx | ⟨h1,h2⟩
    ·exact Or.inl ⟨by first | exact hx.1 | rfl,hx.2⟩
    ·exact Or.inr ⟨h1,h2.frame (by rw [hzz];omega) _ _ _ _ (fun k p1 p2=>h69 k p2 (by omega) (by omega)) (fun blk off n c e=>by have:=si blk off n c e;exact h69 blk (by omega) (by omega) (by omega))⟩
   ·rcases HR8.out hl3 with h | ⟨blk,c,e,h1,h2,h3,h4⟩
    ·exact Or.inl h
    ·exact Or.inr ⟨blk,c,e,h1,h2,h3,by rw [hzz];omega,h4.same ((hset blk (by omega)).trans (HK89.out.block blk h3 (by omega)))⟩
   ·exact (HR9.out hl).frame (by rw [hzz];exact Nat.le_refl _) _ _ _ _ (fun k p1 p2=>hset k (by omega)) (fun _ _ _ _ e=>by cases e)
theorem factor_open {b c cap len:Nat} {s:Sp.Bs} {n d:Nat} {σ:Sp.St} {w:World} (IH:Hid (∀ m,m<=n->All b c cap len s m)) (hd:d+(n+1)<=1000000) (hm:32*Sp.rem s σ+12<=n+1) (hp:PS b c cap len s d σ w) (h_open:σ.is s [40]=true) :
  Calls Tryz.prog 176 #[.pointer (some ⟨b,0,none⟩)] w (PostV b c cap len s d (Sp.run s (n+1) .factor d σ) w IsIf fun w' v=>Rp w' (Sp.tr s (n+1) .factor d .nil σ) w.heap.size w'.heap.size v):=by
 have h1:=Sp.rem_openT_lt (d:=d) h_open
 rw [<- opened_is h_open] at h1
 have HV:Hid (Sp.run s (n+1) .factor d σ=(Sp.run s n .query (d+1) (Sp.St.opened s [40] d σ)).must s [41]):=by show _=_;rw [factor_eq,facS,h_open,opened_is h_open];rfl
 have HVT:Hid (Sp.tr s (n+1) .factor d .nil σ=Sp.tr s n .query (d+1) .nil (Sp.St.opened s [40] d σ)):=by show _=_;rw [factorN_eq,facN,h_open,opened_is h_open];rfl
 have HPA:=hid hp
 clear hp
 have hmf:=mkFn
 go_enter Tryz.func176,Tryz.ntmps176
 go_wp2_with fail
 refine (sees1 HPA.out [40] (by decide)).mono ?_
 rintro r w1 ⟨rfl,hp1,hk1⟩
 rw [h_open]
 have HP1:=hid hp1
 have HK1:=hid hk1
 clear hp1 hk1 HPA
 go_wp2_with fail
 refine (enclosed_of (.inr (.inr ⟨rfl,rfl,rfl,rfl,rfl,rfl⟩)) HP1.out (by omega) (Sp.run s n .query (d+1) (Sp.St.opened s [40] d σ)) (Sp.tr s n .query (d+1) .nil (Sp.St.opened s [40] d σ)) (fun w' hp'=>((IH.out n (Nat.le_refl _)).query (d+1) _ _ (by omega) (by show 32*Sp.rem s _+15<=n;omega) hp').mono fun _ _ h=>h.rq)).mono ?_
 rintro r w9 ⟨v9,rfl,hp9,hk9,hi9,hr9⟩
 have HX:Hid (PS b c cap len s d ((Sp.run s n .query (d+1) (Sp.St.opened s [40] d σ)).must s [41]) w9/\Kept b w w9/\IsIf v9/\(((Sp.run s n .query (d+1) (Sp.St.opened s [40] d σ)).must s [41]).isLive=true->Rp w9 (Sp.tr s n .query (d+1) .nil (Sp.St.opened s [40] d σ)) w.heap.size w9.heap.size v9)):=⟨hp9,HK1.out.trans hk9,hi9,fun hl=>Rp.wide _ _ _ _ _ _ (hr9 hl).1 HK1.out.size (Nat.le_refl _)⟩
 clear hp9 hk9 hi9 hr9
 go_wp2_with fail
 go_ret
 exact ⟨_,rfl,by rw [HV.out];exact HX.out.1,HX.out.2.1,HX.out.2.2.1,by rw [HV.out,HVT.out];exact HX.out.2.2.2⟩
theorem factor_step {b c cap len:Nat} {s:Sp.Bs} {n:Nat} (IH:Hid (∀ m,m<=n->All b c cap len s m)):Sd b c cap len s (n+1) .factor IsIf 176:=by
 intro d σ w hd hm hp
 have hm' : 32*Sp.rem s σ+12<=n+1:=hm
 cases h_open:σ.is s [40]
 ·exact factor_sel IH hd hm' hp h_open
 ·exact factor_open IH hd hm' hp h_open
end Go.Proofs.YtgnncnhkgmhngaaGreatDoor
