import Derived.Test.YtgnncnhkgmhngaaGreatDoorJ29
set_option maxHeartbeats 4000000
namespace Go.Proofs.YtgnncnhkgmhngaaGreatDoor
open Go.RowKit
def InV (w:World) (a:Nat) (nm:Sp.Nm) (ns:List (Nat×Sp.Nd)) (lo hi:Nat) (v:Value):Prop:=
 ∃ q sl,v = .pointer (some ⟨q,0,none⟩)/\lo<=q/\q<hi/\At w q [.int .i64 (a:Nat), .string (bz nm.1), .int .i64 (nm.2:Nat),sl, .nilIface]/\LsV RowP w ns (q+1) hi sl
def InQ (w:World) (a:Nat) (nm:Sp.Nm) (nd:Sp.Nd) (lo hi:Nat) (v:Value):Prop:=
 ∃ q y,v = .pointer (some ⟨q,0,none⟩)/\lo<=q/\q<hi/\At w q [.int .i64 (a:Nat), .string (bz nm.1), .int .i64 (nm.2:Nat), .slice none 0 0,y]/\IsIf y/\Rp w nd (q+1) hi y
theorem LsV.frame {α:Type} {P:World->α->List Value->Nat->Nat->Prop} {w w' : World} (hP:∀ n x m1 m2,P w n x m1 m2->(∀ k,m1<=k->k<m2->w'.heap[k]?=w.heap[k]?)->P w' n x m1 m2) {ns:List α} {lo hi:Nat} {v:Value} (h:LsV P w ns lo hi v) (hk:∀ k,lo<=k->k<hi->w'.heap[k]?=w.heap[k]?):LsV P w' ns lo hi v:=by
 obtain ⟨g,kc,xs,h1,e,a1,a2,a3,a4,a5⟩:=h
 exact ⟨g,kc,xs,h1,e,a1,a2,a3,a4.frame hP fun k p1 p2 _=>hk k p1 (by omega),fun j u hj=>(World.cell?_of_block (w:=w) (a:=⟨g,j,none⟩) (hk g a1 a2)).trans (a5 j u hj)⟩
theorem LsR.low {α:Type} {P:World->α->List Value->Nat->Nat->Prop} {w:World} {g:Nat} : ∀ {ns:List α} {xs:List (List Value)} {lo hi lo' : Nat},LsR P w g ns xs lo hi->lo'<=lo->LsR P w g ns xs lo' hi
 | [], [],lo,hi,lo',h,h1=>by have:lo<=hi:=h;show lo'<=hi;omega
 | _::_,_::_,lo,hi,lo',h,h1=>by
  obtain ⟨m1,m2,hS,p,r⟩:=h
  exact ⟨m1,m2,by unfold Sub at *;omega,p,r⟩
 | [],_::_,_,_,_,h,_=>h.elim
 | _::_, [],_,_,_,h,_=>h.elim
theorem LsV.wide {α:Type} {P:World->α->List Value->Nat->Nat->Prop} {w:World} {ns:List α} {lo hi lo' hi' : Nat} {v:Value} (h:LsV P w ns lo hi v) (h1:lo'<=lo) (h2:hi<=hi'):LsV P w ns lo' hi' v:=by
 obtain ⟨g,kc,xs,t,e,a1,a2,a3,a4,a5⟩:=h
 exact ⟨g,kc,xs,t,e,by omega,by omega,by omega,a4.low h1,a5⟩
theorem live_rowL {s:Sp.Bs} {n:Nat} : ∀ {m:Nat} {σ:Sp.St},(Sp.rowL s n m σ).isLive=true->σ.isLive=true
 | 0,_,h=>h
 | m+1,σ,h=>by
  rw [Row_eq] at h
  have g:(Sp.rowT s n σ).isLive=true:=by
   unfold rlT at h
   split at h
   ·exact Sp.live_step (live_rowL h)
   ·exact h
  exact Sp.live_must (Sp.live_run (Sp.live_must g))
theorem insertV_any {b c cap len:Nat} {s:Sp.Bs} {m:Nat} {σ:Sp.St} {w:World} (IA:All b c cap len s (m+1)) (hn:m+1<=900000) (hm:32*Sp.rem s σ+31<=m+1) (hp:PS b c cap len s 0 σ w) (hv:Sp.St.is s [118,97,108,117,101,115] ((σ.must s [105,110,116,111]).nameT s)=true) :
  Calls Tryz.prog 80 #[.pointer (some ⟨b,0,none⟩)] w (PostV b c cap len s 0 (Sp.rowL s (m+1) (m+1) (Sp.St.step s ((σ.must s [105,110,116,111]).nameT s))) w IsP0 fun w' v=>InV w' (σ.at_ s) (Sp.St.nm s (σ.must s [105,110,116,111])) (Sp.rowTs s (m+1) (m+1) (Sp.St.step s ((σ.must s [105,110,116,111]).nameT s))) w.heap.size w'.heap.size v):=by
 have hbw:=hp.lb
 have hcw:=hp.lc
 have r1:=Sp.rem_must s [105,110,116,111] σ
 have r2:=Sp.rem_nameT s (σ.must s [105,110,116,111])
 have r3:=Sp.rem_step_le s ((σ.must s [105,110,116,111]).nameT s)
 obtain ⟨i,wd,hi,tc,PK⟩:=peek_any hp
 have HTK:Hid (σ.isLive=true->Sp.tokAt s (pos s i)=σ.at_ s):=fun hl=>(tok_live hi tc hl).1
 have HP0:=hid hp
 have HPK:=hidc PK
 have HIA:=hid IA
 clear hp tc hi PK IA
 generalize kn (Sp.tokCl s (pos s i))=kk at *
 generalize Sp.tokAt s (pos s i)=st at *
 have hfd:=tokF1
 have hmf:=mkFn
 go_enter Tryz.func80,Tryz.ntmps80
 go_wp2_with fail
 refine (HPK.out _ rfl).mono ?_
 clear HPK
 rintro r w1 ⟨rfl,hb1⟩
 have HP1:Hid (PS b c cap len s 0 σ (w1.alloc (.cells #[.int .i64 (st:Int), .string ⟨#[]⟩, .int .i64 0, .slice none 0 0, .nilIface] 235))):=(HP0.out.below hb1).alloc _
 have HK1:Hid (Kept b w (w1.alloc (.cells #[.int .i64 (st:Int), .string ⟨#[]⟩, .int .i64 0, .slice none 0 0, .nilIface] 235))):=(Kept.below hb1).alloc _
 have HX1:Hid (Bk (w1.alloc (.cells #[.int .i64 (st:Int), .string ⟨#[]⟩, .int .i64 0, .slice none 0 0, .nilIface] 235)) w1.heap.size [.int .i64 (st:Int), .string ⟨#[]⟩, .int .i64 0, .slice none 0 0, .nilIface]):=Bk.new _ _ _
 have hz1:w.heap.size<=w1.heap.size:=hb1.size
 clear hb1 HP0
 go_wp2_with fail
 refine (expectq HP1.out [105,110,116,111] (by decide) _ (by simp)).mono ?_
 generalize w1.alloc (.cells #[.int .i64 (st:Int), .string ⟨#[]⟩, .int .i64 0, .slice none 0 0, .nilIface] 235)=w1' at *
 rintro r w2 ⟨rfl,hp2,hk2⟩
 have HP2:=hid hp2
 have HK2:=hid (HK1.out.trans hk2)
 have HX2:Hid (Bk w2 w1.heap.size [.int .i64 (st:Int), .string ⟨#[]⟩, .int .i64 0, .slice none 0 0, .nilIface]):=HX1.out.kept hk2 (by omega)
 clear hp2 hk2 HP1 HK1 HX1
 go_wp2_with fail
 refine (name_any HP2.out).mono ?_
 rintro r w4 ⟨v4,rfl,hp4,hk4,⟨wd4,a4,rfl⟩,hq4⟩
 have hX4:=HX2.out.kept hk4 (by omega)
 have HP4:Hid (PS b c cap len s 0 ((σ.must s [105,110,116,111]).nameT s) ((w4.setCell ⟨w1.heap.size,1,none⟩ (.string wd4)).setCell ⟨w1.heap.size,2,none⟩ (.int .i64 a4))):=(hp4.put w1.heap.size 1 (by omega) (by omega) _).put w1.heap.size 2 (by omega) (by omega) _
 have HK4:Hid (Kept b w ((w4.setCell ⟨w1.heap.size,1,none⟩ (.string wd4)).setCell ⟨w1.heap.size,2,none⟩ (.int .i64 a4))):=((HK2.out.trans hk4).setNew (by simpa using hz1) _).setNew (by simpa using hz1) _
 have HX4:Hid (Bk ((w4.setCell ⟨w1.heap.size,1,none⟩ (.string wd4)).setCell ⟨w1.heap.size,2,none⟩ (.int .i64 a4)) w1.heap.size [.int .i64 (st:Int), .string wd4, .int .i64 a4, .slice none 0 0, .nilIface]):=(hX4.put 1 (by simp) _).put 2 (by simp) _
 have HR4:Hid (Sp.St.isLive ((σ.must s [105,110,116,111]).nameT s)=true->wd4=bz (Sp.St.nm s (σ.must s [105,110,116,111])).1/\a4=((Sp.St.nm s (σ.must s [105,110,116,111])).2:Nat)):=fun hl=>agg2n (hq4 hl)
 have c1:=hX4.k1
 have c2:=hX4.k2
 have f1:=hX4.f 1
 have f2:=hX4.f 2
 clear hp4 hk4 hq4 hX4 HP2 HK2 HX2
 go_wp2_with fail
 refine (accept1q HP4.out [118,97,108,117,101,115] (by decide) _ (by simp)).mono ?_
 generalize hw4:(w4.setCell ⟨w1.heap.size,1,none⟩ (.string wd4)).setCell ⟨w1.heap.size,2,none⟩ (.int .i64 a4)=w4' at *
 clear hw4 c1 c2 f1 f2
 rintro r w5 ⟨rfl,hp5,hk5⟩
 rw [take_yes hv] at hp5
 rw [hv]
 have HP5:=hid hp5
 have HK5:=hid (HK4.out.trans hk5)
 have HX5:Hid (Bk w5 w1.heap.size [.int .i64 (st:Int), .string wd4, .int .i64 a4, .slice none 0 0, .nilIface]):=HX4.out.kept hk5 (by omega)
 have hz5:w1.heap.size<w5.heap.size:=HX5.out.lt
 clear hp5 hk5 HP4 HK4 HX4
 go_wp2_with fail
 refine (listRow_any (m:=m) HIA.out hn (by omega) (by omega) (by omega) HP5.out).mono ?_
 rintro r w6 ⟨v6,rfl,hp6,hk6,⟨sa,sn,sc,rfl⟩,hq6⟩
 have hX6:=HX5.out.kept hk6 (by omega)
 have c3:=hX6.k3
 have f3:=hX6.f 3
 have HP6:=hid hp6
 have HK6:=hid (HK5.out.trans hk6)
 have HX6:Hid (Bk (w6.setCell ⟨w1.heap.size,3,none⟩ (.slice sa sn sc)) w1.heap.size [.int .i64 (st:Int), .string wd4, .int .i64 a4, .slice sa sn sc, .nilIface]):=hX6.put 3 (by simp) _
 have HR6:=hid hq6
 have hz6:=hk6.size
 clear hp6 hk6 hq6 hX6 HP5 HX5 HK5
 go_wp2_with fail
 go_ret
 refine ⟨_,rfl,HP6.out.put w1.heap.size 3 (by omega) (by omega) _,HK6.out.setNew (by simpa using hz1) _,⟨_,rfl⟩,fun hl=>?_⟩
 have hl1:Sp.St.isLive ((σ.must s [105,110,116,111]).nameT s)=true:=Sp.live_step (live_rowL hl)
 obtain ⟨e0,e1⟩:=HR4.out hl1
 have e2:=HTK.out (Sp.live_must (Sp.live_nameT hl1))
 refine ⟨_,(.slice sa sn sc),rfl,by omega,by simp [World.setCell];omega,?_,?_⟩
 ·rw [<- e0,<- e1,<- e2]
  exact HX6.out.at_
 ·exact ((HR6.out hl).frame (w':=w6.setCell ⟨w1.heap.size,3,none⟩ (.slice sa sn sc)) (fun n x m1 m2 hp hk=>RowP.frame (by simp [World.setCell]) n x m1 m2 hp hk) fun k h1 h2=>Below.heap_setCell _ _ _ _ (by simp;omega)).wide (by omega) (by simp [World.setCell])
theorem insertQ_any {b c cap len:Nat} {s:Sp.Bs} {m:Nat} {σ:Sp.St} {w:World} (IA:All b c cap len s (m+1)) (hn:m+1<=900000) (hm:32*Sp.rem s σ+31<=m+1) (hp:PS b c cap len s 0 σ w) (hv:Sp.St.is s [118,97,108,117,101,115] ((σ.must s [105,110,116,111]).nameT s)=false) :
  Calls Tryz.prog 80 #[.pointer (some ⟨b,0,none⟩)] w (PostV b c cap len s 0 (Sp.run s (m+1) .query 0 ((σ.must s [105,110,116,111]).nameT s)) w IsP0 fun w' v=>InQ w' (σ.at_ s) (Sp.St.nm s (σ.must s [105,110,116,111])) (Sp.tr s (m+1) .query 0 .nil ((σ.must s [105,110,116,111]).nameT s)) w.heap.size w'.heap.size v):=by
 have hbw:=hp.lb
 have hcw:=hp.lc
 have r1:=Sp.rem_must s [105,110,116,111] σ
 have r2:=Sp.rem_nameT s (σ.must s [105,110,116,111])
 have r3:=Sp.rem_step_le s ((σ.must s [105,110,116,111]).nameT s)
 obtain ⟨i,wd,hi,tc,PK⟩:=peek_any hp
 have HTK:Hid (σ.isLive=true->Sp.tokAt s (pos s i)=σ.at_ s):=fun hl=>(tok_live hi tc hl).1
 have HP0:=hid hp
 have HPK:=hidc PK
 have HIA:=hid IA
 clear hp tc hi PK IA
 generalize kn (Sp.tokCl s (pos s i))=kk at *
 generalize Sp.tokAt s (pos s i)=st at *
 have hfd:=tokF1
 have hmf:=mkFn
 go_enter Tryz.func80,Tryz.ntmps80
 go_wp2_with fail
 refine (HPK.out _ rfl).mono ?_
 clear HPK
 rintro r w1 ⟨rfl,hb1⟩
 have HP1:Hid (PS b c cap len s 0 σ (w1.alloc (.cells #[.int .i64 (st:Int), .string ⟨#[]⟩, .int .i64 0, .slice none 0 0, .nilIface] 235))):=(HP0.out.below hb1).alloc _
 have HK1:Hid (Kept b w (w1.alloc (.cells #[.int .i64 (st:Int), .string ⟨#[]⟩, .int .i64 0, .slice none 0 0, .nilIface] 235))):=(Kept.below hb1).alloc _
 have HX1:Hid (Bk (w1.alloc (.cells #[.int .i64 (st:Int), .string ⟨#[]⟩, .int .i64 0, .slice none 0 0, .nilIface] 235)) w1.heap.size [.int .i64 (st:Int), .string ⟨#[]⟩, .int .i64 0, .slice none 0 0, .nilIface]):=Bk.new _ _ _
 have hz1:w.heap.size<=w1.heap.size:=hb1.size
 clear hb1 HP0
 go_wp2_with fail
 refine (expectq HP1.out [105,110,116,111] (by decide) _ (by simp)).mono ?_
 generalize w1.alloc (.cells #[.int .i64 (st:Int), .string ⟨#[]⟩, .int .i64 0, .slice none 0 0, .nilIface] 235)=w1' at *
 rintro r w2 ⟨rfl,hp2,hk2⟩
 have HP2:=hid hp2
 have HK2:=hid (HK1.out.trans hk2)
 have HX2:Hid (Bk w2 w1.heap.size [.int .i64 (st:Int), .string ⟨#[]⟩, .int .i64 0, .slice none 0 0, .nilIface]):=HX1.out.kept hk2 (by omega)
 clear hp2 hk2 HP1 HK1 HX1
 go_wp2_with fail
 refine (name_any HP2.out).mono ?_
 rintro r w4 ⟨v4,rfl,hp4,hk4,⟨wd4,a4,rfl⟩,hq4⟩
 have hX4:=HX2.out.kept hk4 (by omega)
 have HP4:Hid (PS b c cap len s 0 ((σ.must s [105,110,116,111]).nameT s) ((w4.setCell ⟨w1.heap.size,1,none⟩ (.string wd4)).setCell ⟨w1.heap.size,2,none⟩ (.int .i64 a4))):=(hp4.put w1.heap.size 1 (by omega) (by omega) _).put w1.heap.size 2 (by omega) (by omega) _
 have HK4:Hid (Kept b w ((w4.setCell ⟨w1.heap.size,1,none⟩ (.string wd4)).setCell ⟨w1.heap.size,2,none⟩ (.int .i64 a4))):=((HK2.out.trans hk4).setNew (by simpa using hz1) _).setNew (by simpa using hz1) _
 have HX4:Hid (Bk ((w4.setCell ⟨w1.heap.size,1,none⟩ (.string wd4)).setCell ⟨w1.heap.size,2,none⟩ (.int .i64 a4)) w1.heap.size [.int .i64 (st:Int), .string wd4, .int .i64 a4, .slice none 0 0, .nilIface]):=(hX4.put 1 (by simp) _).put 2 (by simp) _
 have HR4:Hid (Sp.St.isLive ((σ.must s [105,110,116,111]).nameT s)=true->wd4=bz (Sp.St.nm s (σ.must s [105,110,116,111])).1/\a4=((Sp.St.nm s (σ.must s [105,110,116,111])).2:Nat)):=fun hl=>agg2n (hq4 hl)
 have c1:=hX4.k1
 have c2:=hX4.k2
 have f1:=hX4.f 1
 have f2:=hX4.f 2
 clear hp4 hk4 hq4 hX4 HP2 HK2 HX2
 go_wp2_with fail
 refine (accept1q HP4.out [118,97,108,117,101,115] (by decide) _ (by simp)).mono ?_
 generalize hw4:(w4.setCell ⟨w1.heap.size,1,none⟩ (.string wd4)).setCell ⟨w1.heap.size,2,none⟩ (.int .i64 a4)=w4' at *
 clear hw4 c1 c2 f1 f2
 rintro r w5 ⟨rfl,hp5,hk5⟩
 rw [take_no hv] at hp5
 rw [hv]
 have HP5:=hid hp5
 have HK5:=hid (HK4.out.trans hk5)
 have HX5:Hid (Bk w5 w1.heap.size [.int .i64 (st:Int), .string wd4, .int .i64 a4, .slice none 0 0, .nilIface]):=HX4.out.kept hk5 (by omega)
 have hz5:w1.heap.size<w5.heap.size:=HX5.out.lt
 clear hp5 hk5 HP4 HK4 HX4
 go_wp2_with fail
 refine (HIA.out.query 0 _ _ (by omega) (Nat.le_trans (Nat.add_le_add_left (by decide:Sp.lev .query<=31) _) (by omega)) HP5.out).mono ?_
 rintro r w6 ⟨y6,rfl,hp6,hk6,hy6,hq6⟩
 have hX6:=HX5.out.kept hk6 (by omega)
 have c3:=hX6.k4
 have f3:=hX6.f 4
 have HP6:=hid hp6
 have HK6:=hid (HK5.out.trans hk6)
 have HX6:Hid (Bk (w6.setCell ⟨w1.heap.size,4,none⟩ y6) w1.heap.size [.int .i64 (st:Int), .string wd4, .int .i64 a4, .slice none 0 0,y6]):=hX6.put 4 (by simp) _
 have HR6:=hid hq6
 have hz6:=hk6.size
 have HI6:=hid hy6
 have hv6:=hy6.st
 have hc6:=hy6.cells
 have ho6:=hy6.one
 unfold Value.cells at hc6
 clear hy6
 clear hp6 hk6 hq6 hX6 HP5 HX5 HK5
 go_wp2_with fail
 go_ret
 refine ⟨_,rfl,HP6.out.put w1.heap.size 4 (by omega) (by omega) _,HK6.out.setNew (by simpa using hz1) _,⟨_,rfl⟩,fun hl=>?_⟩
 have hl1:Sp.St.isLive ((σ.must s [105,110,116,111]).nameT s)=true:=Sp.live_run hl
 obtain ⟨e0,e1⟩:=HR4.out hl1
 have e2:=HTK.out (Sp.live_must (Sp.live_nameT hl1))
 refine ⟨_,y6,rfl,by omega,by simp [World.setCell];omega,?_,HI6.out,?_⟩
 ·rw [<- e0,<- e1,<- e2]
  exact HX6.out.at_
 ·exact Rp.wide _ _ _ _ _ _ ((HR6.out hl).frame (w':=w6.setCell ⟨w1.heap.size,4,none⟩ y6) (by simp [World.setCell]) _ _ _ _ (fun k h1 h2=>Below.heap_setCell _ _ _ _ (by simp;omega)) (fun blk off n c ee=>(HI6.out.noSl _ _ _ ee).elim)) (by omega) (by simp [World.setCell])
theorem live_chgL {s:Sp.Bs} {n:Nat} : ∀ {m:Nat} {σ:Sp.St},(Sp.chgL s n m σ).isLive=true->σ.isLive=true
 | 0,_,h=>h
 | m+1,σ,h=>by
  rw [Set_eq] at h
  have g:(Sp.chgT s n σ).isLive=true:=by
   unfold clLT at h
   split at h
   ·exact Sp.live_step (live_chgL h)
   ·exact h
  exact Sp.live_nameT (Sp.live_must (Sp.live_run g))
theorem live_clT {s:Sp.Bs} {n d:Nat} {z:Sp.Bs} {σ:Sp.St} (h:(clT s n d z σ).isLive=true):σ.isLive=true:=by
 unfold clT at h
 split at h
 ·exact Sp.live_step (Sp.live_run h)
 ·exact h
def UpV (w:World) (nm:Sp.Nm) (ns:List (Sp.Nm×Nat×Sp.Nd)) (wh:Sp.Nd) (lo hi:Nat) (v:Value):Prop:=
 ∃ q sl pv mid,v = .pointer (some ⟨q,0,none⟩)/\lo<=mid/\mid<=q/\q<hi/\At w q [.string (bz nm.1), .int .i64 (nm.2:Nat),sl,pv]/\LsV SetP w ns lo mid sl/\IsPt pv/\Rp w wh mid q pv
theorem rem_chgL (s:Sp.Bs) (n:Nat):∀ (m:Nat) (σ:Sp.St),Sp.rem s (Sp.chgL s n m σ)<=Sp.rem s σ
 | 0,_=>Nat.le_refl _
 | m+1,σ=>by
  rw [Set_eq]
  have h1:=rem_Set s n σ
  unfold clLT
  split
  ·exact Nat.le_trans (rem_chgL s n m _) (Nat.le_trans (Sp.rem_step_le _ _) h1)
  ·exact h1
theorem update_any {b c cap len:Nat} {s:Sp.Bs} {m:Nat} {σ:Sp.St} {w:World} (IA:All b c cap len s (m+1)) (IB:All b c cap len s m) (hn:m+1<=900000) (hm:32*Sp.rem s σ+31<=m+1) (hp:PS b c cap len s 0 σ w) :
  Calls Tryz.prog 82 #[.pointer (some ⟨b,0,none⟩)] w (PostV b c cap len s 0 (Sp.run s (m+1) .where_ 0 (Sp.chgL s (m+1) (m+1) ((σ.nameT s).must s [115,101,116]))) w IsP0 fun w' v=>UpV w' (σ.nm s) (Sp.chgTs s (m+1) (m+1) ((σ.nameT s).must s [115,101,116])) (Sp.tr s (m+1) .where_ 0 .nil (Sp.chgL s (m+1) (m+1) ((σ.nameT s).must s [115,101,116]))) w.heap.size w'.heap.size v):=by
 have hbw:=hp.lb
 have hcw:=hp.lc
 have r1:=Sp.rem_nameT s σ
 have r2:=Sp.rem_must s [115,101,116] (σ.nameT s)
 have HP0:=hid hp
 have r3:=rem_chgL s (m+1) (m+1) ((σ.nameT s).must s [115,101,116])
 have HV:Hid (Sp.run s (m+1) .where_ 0 (Sp.chgL s (m+1) (m+1) ((σ.nameT s).must s [115,101,116]))=clT s m 0 [119,104,101,114,101] (Sp.chgL s (m+1) (m+1) ((σ.nameT s).must s [115,101,116]))):=where_eq s m 0 _
 have HVT:Hid (Sp.tr s (m+1) .where_ 0 .nil (Sp.chgL s (m+1) (m+1) ((σ.nameT s).must s [115,101,116]))=clN s m 0 [119,104,101,114,101] (Sp.chgL s (m+1) (m+1) ((σ.nameT s).must s [115,101,116]))):=whereN_eq s m 0 _
 have HIA:=hid IA
 have HIB:=hid IB
 have hmf:=mkFn
 clear hp IA IB
 go_enter Tryz.func82,Tryz.ntmps82
 go_wp2_with fail
 refine (name_any HP0.out).mono ?_
 rintro r w1 ⟨v1,rfl,hp1,hk1,⟨wd1,a1,rfl⟩,hq1⟩
 have HP1:Hid (PS b c cap len s 0 (σ.nameT s) (w1.alloc (.cells #[.string wd1, .int .i64 a1] 165))):=hp1.alloc _
 have HK1:Hid (Kept b w (w1.alloc (.cells #[.string wd1, .int .i64 a1] 165))):=hk1.alloc _
 have HX1:Hid (Bk (w1.alloc (.cells #[.string wd1, .int .i64 a1] 165)) w1.heap.size [.string wd1, .int .i64 a1]):=Bk.new _ _ _
 have HR1:Hid ((σ.nameT s).isLive=true->wd1=bz (σ.nm s).1/\a1=((σ.nm s).2:Nat)):=fun hl=>agg2n (hq1 hl)
 have hz1:=hk1.size
 clear hp1 hk1 hq1 HP0
 go_wp2_with fail
 refine (expectq HP1.out [115,101,116] (by decide) _ (by simp)).mono ?_
 generalize w1.alloc (.cells #[.string wd1, .int .i64 a1] 165)=w1' at *
 rintro r w2 ⟨rfl,hp2,hk2⟩
 have HP2:=hid hp2
 have HK2:=hid (HK1.out.trans hk2)
 have HX2:Hid (Bk w2 w1.heap.size [.string wd1, .int .i64 a1]):=HX1.out.kept hk2 (by omega)
 clear hp2 hk2 HP1 HK1 HX1
 go_wp2_with fail
 have x0:=HX2.out.k0
 have x1:=HX2.out.k1
 have hx2:=HX2.out.lt
 go_region_held3 (fun w'=>w'.cell? ⟨w1.heap.size,0,none⟩=some (.string wd1)/\w'.cell? ⟨w1.heap.size,1,none⟩=some (.int .i64 a1)) (first | exact ⟨x0,x1⟩ | exact ⟨x30,x31⟩ | exact ⟨x40,x41⟩ | exact ⟨(hX4.alloc _).c 0 (by simp),(hX4.alloc _).c 1 (by simp)⟩ | (constructor <;> go_simp)) (first | (go_at_call 130;refine (listSet_any (m:=m) HIA.out hn (by omega) (by omega) (by omega) HP2.out.drew).mono ?_;rintro e w3 ⟨v3,rfl,hp3,hk3,⟨sa,sn,sc,rfl⟩,hr3⟩;have hk3' : Kept b w2 w3:=((Kept.refl b w2).drew).trans hk3;have hX3:=HX2.out.kept hk3' (by omega);have x30:=hX3.k0;have x31:=hX3.k1) | (go_at_call 81;refine (clauseIfAny_any (n:=m) hp3 [119,104,101,114,101] (by decide) (fun hw w' hp'=>HIB.out.expr 0 _ _ (by omega) (by have:=Sp.rem_step_lt hw;show 32*Sp.rem s _+9<=m;omega) hp')).mono ?_;rintro e w4 ⟨v4,rfl,hp4,hk4,⟨pa,rfl⟩,hr4⟩;have hX4:=hX3.kept hk4 (by omega);have x40:=hX4.k0;have x41:=hX4.k1))
 have HP4:=hid hp4
 have HK3:Hid (Kept b w w3):=HK2.out.trans hk3'
 have HK4:=hid hk4
 have HR3:Hid ((Sp.chgL s (m+1) (m+1) ((σ.nameT s).must s [115,101,116])).isLive=true->LsV SetP w3 (Sp.chgTs s (m+1) (m+1) ((σ.nameT s).must s [115,101,116])) w2.heap.size w3.heap.size (.slice sa sn sc)):=hr3
 have HR4:Hid ((clT s m 0 [119,104,101,114,101] (Sp.chgL s (m+1) (m+1) ((σ.nameT s).must s [115,101,116]))).isLive=true->Rp w4 (clN s m 0 [119,104,101,114,101] (Sp.chgL s (m+1) (m+1) ((σ.nameT s).must s [115,101,116]))) w3.heap.size w4.heap.size (.pointer pa)):=hr4
 have hz2:=HK2.out.size
 have hz3:=hk3'.size
 have hz4:=hk4.size
 clear hp3 hk3 hk3' hr3 hX3 hp4 hk4 hr4 hX4 x0 x1 x30 x31 x40 x41 HP2 HX2 HK2
 go_wp2_with fail
 go_ret
 refine ⟨_,rfl,by rw [HV.out];exact HP4.out.alloc _,(HK3.out.trans HK4.out).alloc _,⟨_,rfl⟩,fun hl=>?_⟩
 rw [HV.out] at hl
 have hl3:(Sp.chgL s (m+1) (m+1) ((σ.nameT s).must s [115,101,116])).isLive=true:=live_clT hl
 obtain ⟨e0,e1⟩:=HR1.out (Sp.live_must (live_chgL hl3))
 refine ⟨_, .slice sa sn sc, .pointer pa,w3.heap.size,rfl,by omega,by omega,by simp,?_,?_,⟨_,rfl⟩,?_⟩
 ·rw [<- e0,<- e1]
  exact (Bk.new w4 #[.string wd1, .int .i64 a1, .slice sa sn sc, .pointer pa] _).at_
 ·exact ((HR3.out hl3).frame (w':=w4.alloc (.cells #[.string wd1, .int .i64 a1, .slice sa sn sc, .pointer pa] 252)) (fun n x m1 m2 hp hk=>SetP.frame (by simp;omega) n x m1 m2 hp hk) fun k h1 h2=>(Below.heap_alloc _ _ _ (by omega)).trans (HK4.out.block k (by omega) (by omega))).wide (by omega) (Nat.le_refl _)
 ·rw [HVT.out]
  exact (HR4.out hl).frame (by simp) _ _ _ _ (fun k h1 h2=>Below.heap_alloc _ _ _ h2) (fun blk off n c ee=>by cases ee)
end Go.Proofs.YtgnncnhkgmhngaaGreatDoor
