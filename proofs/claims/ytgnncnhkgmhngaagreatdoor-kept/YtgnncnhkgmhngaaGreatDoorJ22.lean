import Derived.Test.YtgnncnhkgmhngaaGreatDoorJ20
import Derived.Deep.RegionLaw
import Derived.Lib.Replace
import Derived.Test.YtgnncnhkgmhngaaGreatDoorJ21
set_option maxHeartbeats 4000000
namespace Go.Proofs.YtgnncnhkgmhngaaGreatDoor
open Go.RowKit
attribute [local go_sem ↓] Go.wp_at_zero Go.wp_at_succ
theorem rest_whenS (s:Sp.Bs) (m d:Nat) (σ:Sp.St) (h:σ.is s [119,104,101,110]=true):restS s (m+2) d σ=restS s m d (armS s m d σ):=by
 have e:restS s (m+2) d σ=Sp.run s (m+2) .caseW d σ:=by unfold restS;rw [h];rfl
 rw [e];exact caseW_eq s m d σ
theorem rest_whenN (s:Sp.Bs) (m d:Nat) (σ:Sp.St) (h:σ.is s [119,104,101,110]=true):restN s (m+2) d σ=pushA (armN s m d σ) (restN s m d (armS s m d σ)):=by
 have e:restN s (m+2) d σ=Sp.tr s (m+2) .caseW d .nil σ:=by unfold restN;rw [h];rfl
 rw [e];exact caseWN_eq s m d σ
theorem rest_cl (s:Sp.Bs) (m d:Nat) (σ:Sp.St) (h:σ.is s [119,104,101,110]=false) (hg:σ.is s [101,108,115,101]=true->1<=m):restS s m d σ=clT s (m - 1) d [101,108,115,101] σ/\restN s m d σ = .kase .nil (clN s (m - 1) d [101,108,115,101] σ):=by
 cases he:σ.is s [101,108,115,101]
 ·unfold restS restN clT clN
  rw [h,he]
  exact ⟨rfl,rfl⟩
 ·obtain ⟨k,rfl⟩:∃ k,m=k+1:=⟨m - 1,by have:=hg he;omega⟩
  exact ⟨rest_clT s k d σ h,rest_clN s k d σ h⟩
theorem Ty.set {w:World} {q:Nat} {t:TypeId} (h:Ty w q t) (o:Nat) (u:Value):Ty (w.setCell ⟨q,o,none⟩ u) q t:=by
 obtain ⟨arr,fz,h⟩:=h
 refine ⟨arr.setIfInBounds o u,fz,?_⟩
 unfold World.setCell
 rw [Array.getElem?_modify,h]
 simp
theorem Ty.same {w w' : World} {q:Nat} {t:TypeId} (h:Ty w q t) (e:w'.heap[q]?=w.heap[q]?):Ty w' q t:=by
 obtain ⟨arr,fz,h⟩:=h
 exact ⟨arr,fz,e.trans h⟩
theorem Bk.fill0 {w:World} {q:Nat} {x y:Value} (h:Bk w q [x,y]) (x' : Value):Bk (w.setCell ⟨q,0,none⟩ x') q [x',y]:=by
 have c0:=h.k0
 have c1:=h.k1
 have lt:=h.lt
 have F:Hid (∀ j,w.frozen? ⟨q,j,none⟩=false):=h.f
 refine ⟨by simpa [World.setCell] using h.lt,?_,fun j=>?_⟩
 ·intro j hj
  match j,hj with
  | 0,_=>clear F h;go_simp
  | 1,_=>clear F h;go_simp
 ·have f:=F.out j
  clear F h
  go_simp
theorem Bk.fill1 {w:World} {q:Nat} {x y:Value} (h:Bk w q [x,y]) (y' : Value):Bk (w.setCell ⟨q,1,none⟩ y') q [x,y']:=by
 have c0:=h.k0
 have c1:=h.k1
 have lt:=h.lt
 have F:Hid (∀ j,w.frozen? ⟨q,j,none⟩=false):=h.f
 refine ⟨by simpa [World.setCell] using h.lt,?_,fun j=>?_⟩
 ·intro j hj
  match j,hj with
  | 0,_=>clear F h;go_simp
  | 1,_=>clear F h;go_simp
 ·have f:=F.out j
  clear F h
  go_simp
theorem IsAr.cells4 {v:Value} (h:IsAr v):∃ a x t y,v = .agg #[.int .i64 a,x, .int .i64 t,y]/\IsIf x/\IsIf y:=h
theorem agg4 {a c a' c' : Int} {x y x' y' : Value} (h:Value.agg #[.int .i64 a,x, .int .i64 c,y] = .agg #[.int .i64 a',x', .int .i64 c',y']):a=a'/\x=x'/\c=c'/\y=y':=by
 simp only [Value.agg.injEq] at h
 have e0:=congrArg (fun x:Array Value=>x[0]?) h
 have e1:=congrArg (fun x:Array Value=>x[1]?) h
 have e2:=congrArg (fun x:Array Value=>x[2]?) h
 have e3:=congrArg (fun x:Array Value=>x[3]?) h
 simp at e0 e1 e2 e3
 exact ⟨e0,e1,e2,e3⟩
theorem arms_any {b c cap len:Nat} {s:Sp.Bs} {n d:Nat} {σ:Sp.St} {w:World} (IH:Hid (∀ m,m<=n+2->All b c cap len s m)) (hd:d+(n+2)<=1000000) (hm:32*Sp.rem s σ+13<=n+2) (hp:PS b c cap len s d σ w) :
  Calls Tryz.prog 347 #[.pointer (some ⟨b,0,none⟩)] w (PostV b c cap len s d ((Sp.run s (n+2) .caseW d σ).must s [101,110,100]) w IsIf fun w' v=>Rp w' (Sp.tr s (n+2) .caseW d .nil σ) w.heap.size w'.heap.size v):=by
 obtain ⟨i0,ji,jz0,jz1,jz2⟩:=info_parts infoArm
 have hbw:=hp.lb
 have hcw:=hp.lc
 have h5c:=hp.h5.1
 have hr0:=Sp.rem_must s [119,104,101,110] σ
 have hr0':=Sp.rem_must_lt s [119,104,101,110] σ
 have hr1:=rem_armS s n d σ
 have hr2:=Sp.rem_run s (n+1) .expr d (σ.must s [119,104,101,110])
 have hr3:=Sp.rem_must s [116,104,101,110] (Sp.run s (n+1) .expr d (σ.must s [119,104,101,110]))
 have HP:=hid hp
 clear hp
 go_enter Tryz.func347,Tryz.ntmps347
 go_wp2_with fail
 refine (arm_any (n:=n+1) (m:=n) HP.out rfl (fun w' hp'=>(IH.out (n+1) (by omega)).expr d _ _ (by omega) (by show 32*Sp.rem s _+9<=n+1;omega) hp') (fun w' hp'=>(IH.out n (by omega)).expr d _ _ (by omega) (by show 32*Sp.rem s _+9<=n;omega) hp')).mono ?_
 rintro r w1 ⟨v1,rfl,hp1,hk1,⟨a1,x1,t1,y1,rfl,hx1,hy1⟩,hr1'⟩
 have HI1:Hid (IsIf x1/\IsIf y1):=⟨hx1,hy1⟩
 have HP1:=hid hp1
 have HK1:=hid hk1
 have HR1:Hid ((armS s n d σ).isLive=true->∃ l2,a1=((armN s n d σ).1:Nat)/\t1=((armN s n d σ).2.2.1:Nat)/\Rp w1 (armN s n d σ).2.1 (w.heap.size+1) l2 x1/\Rp w1 (armN s n d σ).2.2.2 l2 w1.heap.size y1):=fun hl=>by
  obtain ⟨x,y,l2,e,_,_,r1,r2⟩:=hr1' hl
  obtain ⟨e0,e1,e2,e3⟩:=agg4 e
  subst e0 e1 e2 e3
  exact ⟨l2,rfl,rfl,r1,r2⟩
 have hz1:=hk1.size
 clear hp1 hk1 hr1' hx1 hy1 HP
 go_wp2_with fail
 have HP2:Hid (PS b c cap len s d (armS s n d σ) ((w1.alloc (.cells #[.int .i64 a1,x1, .int .i64 t1,y1] 407)).alloc (.cells #[.slice (some ⟨w1.heap.size,0,none⟩) 1 1, .pointer none] 405))):=(HP1.out.alloc _).alloc _
 have HK12:Hid (Kept b w1 ((w1.alloc (.cells #[.int .i64 a1,x1, .int .i64 t1,y1] 407)).alloc (.cells #[.slice (some ⟨w1.heap.size,0,none⟩) 1 1, .pointer none] 405))):=((Kept.refl b w1).alloc _).alloc _
 have HB2:Hid (Bk ((w1.alloc (.cells #[.int .i64 a1,x1, .int .i64 t1,y1] 407)).alloc (.cells #[.slice (some ⟨w1.heap.size,0,none⟩) 1 1, .pointer none] 405)) (w1.heap.size+1) [.slice (some ⟨w1.heap.size,0,none⟩) 1 1, .pointer none]):=by
  have:=Bk.new (w1.alloc (.cells #[.int .i64 a1,x1, .int .i64 t1,y1] 407)) #[.slice (some ⟨w1.heap.size,0,none⟩) 1 1, .pointer none] 405
  show Bk _ _ _
  simpa using this
 have HT2:Hid (Ty ((w1.alloc (.cells #[.int .i64 a1,x1, .int .i64 t1,y1] 407)).alloc (.cells #[.slice (some ⟨w1.heap.size,0,none⟩) 1 1, .pointer none] 405)) (w1.heap.size+1) 405):=by
  have:=heap_alloc_new (w1.alloc (.cells #[.int .i64 a1,x1, .int .i64 t1,y1] 407)) (.cells #[.slice (some ⟨w1.heap.size,0,none⟩) 1 1, .pointer none] 405)
  exact ⟨_,_,by simpa using this⟩
 have HO2:Hid (((w1.alloc (.cells #[.int .i64 a1,x1, .int .i64 t1,y1] 407)).alloc (.cells #[.slice (some ⟨w1.heap.size,0,none⟩) 1 1, .pointer none] 405)).ownsRow w.heap.size 407 4 (.slice (some ⟨w1.heap.size,0,none⟩) 1 1) 1 [.int .i64 a1,x1, .int .i64 t1,y1]):=
  owns_same (owns_new w1 w.heap.size hz1 407 4 #[.int .i64 a1,x1, .int .i64 t1,y1] 1 rfl (by unfold maxLen;omega)) (Below.heap_alloc _ _ _ (by simp))
 have hz2:((w1.alloc (.cells #[.int .i64 a1,x1, .int .i64 t1,y1] 407)).alloc (.cells #[.slice (some ⟨w1.heap.size,0,none⟩) 1 1, .pointer none] 405)).heap.size=w1.heap.size+2:=by simp
 generalize ((w1.alloc (.cells #[.int .i64 a1,x1, .int .i64 t1,y1] 407)).alloc (.cells #[.slice (some ⟨w1.heap.size,0,none⟩) 1 1, .pointer none] 405))=w2 at *
 have HR2:Hid ((armS s n d σ).isLive=true->∃ hi,hi<=w1.heap.size/\AmR w2 w1.heap.size (w1.heap.size+1) [armN s n d σ] [.int .i64 a1,x1, .int .i64 t1,y1] w.heap.size hi):=fun hl=>by
  obtain ⟨l2,e1,e2,r1,r2⟩:=HR1.out hl
  have f1:=Rp.le _ _ _ _ r1
  have f2:=Rp.le _ _ _ _ r2
  exact ⟨w1.heap.size,Nat.le_refl _,by rw [e1];rfl,by rw [e2];rfl,w.heap.size+1,l2,w1.heap.size,by omega,by omega,by omega,HI1.out.1.noSl,r1.keptN HI1.out.1.noSl HK12.out (by omega) f2,HI1.out.2.noSl,r2.keptN HI1.out.2.noSl HK12.out (by omega) (Nat.le_refl _),Nat.le_refl _⟩
 have HK2:Hid (Kept b w w2):=HK1.out.trans HK12.out
 have hz2' : w1.heap.size+2<=w2.heap.size:=by omega
 clear HP1 HK12 HR1 hz2 HK1
 go_loopg [] n (fun gm wr=>gm<=n/\∃ (σ' : Sp.St) (ns:List ArmT) (xs:List Value) (g k kc:Nat),k+gm<=n+1/\32*Sp.rem s σ'<=gm/\w.heap.size<=g/\g<wr.heap.size/\g≠w1.heap.size+1/\w1.heap.size+2<=wr.heap.size/\Hid (k=ns.length)/\Hid (Sp.run s (n+2) .caseW d σ=restS s gm d σ')/\Hid (Sp.tr s (n+2) .caseW d .nil σ=kpush ns (restN s gm d σ'))/\Hid (PS b c cap len s d σ' wr)/\Hid (Kept b w wr)/\Hid (Bk wr (w1.heap.size+1) [.slice (some ⟨g,0,none⟩) k kc, .pointer none])/\Hid (Ty wr (w1.heap.size+1) 405)/\Hid (wr.ownsRow w.heap.size 407 4 (.slice (some ⟨g,0,none⟩) k kc) k xs)/\Hid (σ'.isLive=true->∃ hi,hi<=wr.heap.size/\AmR wr g (w1.heap.size+1) ns xs w.heap.size hi))
 case atStart=>exact ⟨Nat.le_refl _,armS s n d σ, [armN s n d σ], [.int .i64 a1,x1, .int .i64 t1,y1],w1.heap.size,1,1,by omega,by omega,hz1,by omega,by omega,hz2',rfl,caseW_eq s n d σ,caseWN_eq s n d σ,HP2.out,HK2.out,HB2.out,HT2.out,HO2.out,fun hl=>by obtain ⟨hi,h1,h2⟩:=HR2.out hl;exact ⟨hi,by omega,h2⟩⟩
 case round=>
  obtain ⟨hmn,σ',ns,xs,g,k,kc,hkg,hms,hgw,hgr,hgq,hqr,HKN,HR,HRT,HPr,HKr,HBr,HTr,HOr,HRr⟩:=hrel
  cases hs:σ'.is s [119,104,101,110]
  ·have HT:Hid (σ'.isLive=true->True):=fun _=>trivial
   go_wp2_with fail
   refine (sees1 HPr.out [119,104,101,110] (by decide)).mono ?_
   rintro r w3 ⟨rfl,hp3,hk3⟩
   rw [hs]
   have HP3:=hid hp3
   have HK3:=hid hk3
   have HB3:Hid (Bk w3 (w1.heap.size+1) [.slice (some ⟨g,0,none⟩) k kc, .pointer none]):=HBr.out.kept hk3 (by omega)
   have hz3:=hk3.size
   have HE:Hid (restS s gk d σ'=clT s (gk - 1) d [101,108,115,101] σ'/\restN s gk d σ' = .kase .nil (clN s (gk - 1) d [101,108,115,101] σ')):=rest_cl s gk d σ' hs (fun he=>by have:=Sp.rem_step_lt he;omega)
   clear hp3 hk3 HT
   go_wp2_with fail
   refine (clauseIfAny_any (n:=gk - 1) HP3.out [101,108,115,101] (by decide) (fun he w' hp'=>(IH.out (gk - 1) (by omega)).expr d _ _ (by omega) (by have:=Sp.rem_step_lt he;show 32*Sp.rem s _+9<=gk - 1;omega) hp')).mono ?_
   rintro r w4 ⟨v4,rfl,hp4,hk4,⟨wa,rfl⟩,hr4⟩
   have HP4:=hid hp4
   have HK4:=hid hk4
   have HB4:Hid (Bk w4 (w1.heap.size+1) [.slice (some ⟨g,0,none⟩) k kc, .pointer none]):=HB3.out.kept hk4 (by omega)
   have HR4:=hid hr4
   have hz4:=hk4.size
   have c1:=HB4.out.k1
   have f1:=HB4.out.f 1
   clear hp4 hk4 hr4
   go_wp2_with fail
   have hzz:(w4.setCell ⟨w1.heap.size+1,1,none⟩ (.pointer wa)).heap.size=w4.heap.size:=by simp [World.setCell]
   have HP5:Hid (PS b c cap len s d (clT s (gk - 1) d [101,108,115,101] σ') (w4.setCell ⟨w1.heap.size+1,1,none⟩ (.pointer wa))):=HP4.out.put (w1.heap.size+1) 1 (by omega) (by omega) _
   refine (expectq HP5.out [101,110,100] (by decide) _ hzz.symm).mono ?_
   rintro r w6 ⟨rfl,hp6,hk6⟩
   have HP6:=hid hp6
   have HK56:=hid hk6
   have hz6:w4.heap.size<=w6.heap.size:=by have:=hk6.size;omega
   have HZZ:=hid hzz
   clear hp6 hk6 hzz c1 f1
   go_wp2_with fail
   go_ret
   have e46:∀ q,q<w4.heap.size->q≠b->q≠w1.heap.size+1->w6.heap[q]?=w4.heap[q]?:=fun q h1 h2 h3=>(HK56.out.block q (by rw [HZZ.out];exact h1) h2).trans (Below.heap_setCell _ _ _ _ h3)
   have er6:∀ q,q<wr.heap.size->q≠b->q≠w1.heap.size+1->w6.heap[q]?=wr.heap[q]?:=fun q h1 h2 h3=>(e46 q (by omega) h2 h3).trans ((HK4.out.block q (by omega) h2).trans (HK3.out.block q h1 h2))
   refine ⟨_,rfl,by rw [HR.out,HE.out.1];exact HP6.out,⟨HK56.out.os.trans (HK4.out.os.trans (HK3.out.os.trans HKr.out.os)),HK56.out.tape.trans (HK4.out.tape.trans (HK3.out.tape.trans HKr.out.tape)),HK56.out.output.trans (HK4.out.output.trans (HK3.out.output.trans HKr.out.output)),by have:=HKr.out.size;omega,fun q h1 h2=>(er6 q (by have:=HKr.out.size;omega) h2 (by omega)).trans (HKr.out.block q h1 h2)⟩,Or.inr ⟨_,_,rfl⟩,fun hl=>?_⟩
   rw [HR.out,HE.out.1] at hl
   have hlc:=Sp.live_must hl
   have hl' : σ'.isLive=true:=by
    unfold clT at hlc
    split at hlc
    ·exact Sp.live_step (Sp.live_run hlc)
    ·exact hlc
   obtain ⟨hi,q1,q2⟩:=HRr.out hl'
   have hle:=q2.le
   rw [HRT.out,HE.out.2,kpush_kase]
   have hkr:=HKr.out.size
   have E:AmR w6 g (w1.heap.size+1) ns xs w.heap.size hi:=q2.frame (by omega) fun q p1 p2 _ p4=>er6 q (by omega) (by omega) p4
   have O:=owns_same HOr.out (er6 g hgr (by omega) hgq)
   have R:=AmR.rp (off:=0) (by omega) kc E (fun j u hj=>by have:=owns_cells O j u hj;simpa using this)
   rw [<- HKN.out] at R
   have B6:=((HB4.out.fill1 (.pointer wa)).kept HK56.out (by omega))
   have T6:Ty w6 (w1.heap.size+1) 405:=by
    have t4:Ty w4 (w1.heap.size+1) 405:=HTr.out.same ((HK4.out.block _ (by omega) (by omega)).trans (HK3.out.block _ (by omega) (by omega)))
    exact (t4.set 1 (.pointer wa)).same (HK56.out.block _ (by rw [HZZ.out];omega) (by omega))
   refine ⟨w1.heap.size+1, .slice (some ⟨g,0,none⟩) k kc, .pointer wa,w.heap.size,w3.heap.size,w4.heap.size,rfl,by omega,by omega,by omega,⟨T6,by omega⟩,B6.at_,fun blk off n c e=>?_,Rp.wide _ _ _ _ _ _ R (Nat.le_refl _) (by omega),NoSl.ptr _,?_⟩
   ·injection e with e1 e2 e3;injection e1 with e1;injection e1 with e1;subst e1;omega
   ·exact (HR4.out hlc).frame hz6 _ _ _ _ (fun q p1 p2=>e46 q p2 (by omega) (by omega)) (fun _ _ _ _ e=>by cases e)
  ·have h1:=Sp.rem_step_lt hs
   obtain ⟨m,rfl⟩:∃ m,gk=m+2:=⟨gk - 2,by omega⟩
   have HV:Hid (restS s (m+2) d σ'=restS s m d (armS s m d σ')):=rest_whenS s m d σ' hs
   have HVT:Hid (restN s (m+2) d σ'=pushA (armN s m d σ') (restN s m d (armS s m d σ'))):=rest_whenN s m d σ' hs
   have hmy:=must_yes hs
   have hr1:=rem_armS s m d σ'
   have hr2:=Sp.rem_run s (m+1) .expr d (σ'.must s [119,104,101,110])
   have hr3:=Sp.rem_must s [116,104,101,110] (Sp.run s (m+1) .expr d (σ'.must s [119,104,101,110]))
   have hr0:Sp.rem s (σ'.must s [119,104,101,110])=Sp.rem s (σ'.step s):=by rw [hmy]
   clear hmy
   have HL:Hid (σ'.isLive=true):=Sp.live_is hs
   go_wp2_with fail
   refine (sees1 HPr.out [119,104,101,110] (by decide)).mono ?_
   rintro r w3 ⟨rfl,hp3,hk3⟩
   rw [hs]
   have HP3:=hid hp3
   have HK3:=hid hk3
   have HB3:Hid (Bk w3 (w1.heap.size+1) [.slice (some ⟨g,0,none⟩) k kc, .pointer none]):=HBr.out.kept hk3 (by omega)
   have hz3:=hk3.size
   have x0:=HB3.out.k0
   have hx:=HB3.out.lt
   have g0:=HB3.out.f 0
   clear hp3 hk3
   go_wp2_with fail
   go_region_law (first | ((have _hx:=hO5;refine step_append_lies _ (by rfl) _ _ _ (by rfl) w.heap.size 407 i0 (.agg #[.int .i64 0, .nilIface, .int .i64 0, .nilIface]) 4 48 Tryz.underlying403 ji jz0 jz1 jz2 rfl (by omega) (.slice (some ⟨g,0,none⟩) k kc) k xs (by rfl) hO5 ⟨w4.heap.size,0,none⟩ 1 1 [.int .i64 a4,x4, .int .i64 t4,y4] (by rfl) (by rfl) (World.news_of_block (cs:=#[.int .i64 a4,x4, .int .i64 t4,y4]) (t:=407) (fr:=(0,0)) (heap_alloc_new w4 _)) (by intro u hu;simp at hu;rcases hu with rfl | rfl | rfl | rfl;rfl;exact hx4.one;rfl;exact hy4.one) (by omega) (by unfold maxLen;omega) (by omega) (by simp;omega) (w4.heap.size+1) (by simp) ?_;intro g' kc' w5 hown hgrow hat hlt;have hB5:=(hB4.alloc (.cells #[.int .i64 a4,x4, .int .i64 t4,y4] 407)).same hgrow.size (hgrow.block (w1.heap.size+1) (by simp;omega) (fun ee=>absurd (show w1.heap.size+1=g by simpa [Value.ownBlock] using ee) (by omega)));have z0:=hB5.k0;have z1:=hB5.f 0)) | (go_simp;go_at_call 353;refine (arm_any (n:=m+1) (m:=m) HP3.out.drew rfl (fun w' hp'=>(IH.out (m+1) (by omega)).expr d _ _ (by omega) (by show 32*Sp.rem s _+9<=m+1;omega) hp') (fun w' hp'=>(IH.out m (by omega)).expr d _ _ (by omega) (by show 32*Sp.rem s _+9<=m;omega) hp')).mono ?_;rintro e w4 ⟨v4,rfl,hp4,hk4,⟨a4,x4,t4,y4,rfl,hx4,hy4⟩,hr4⟩;have hk4' : Kept b w3 w4:=((Kept.refl b w3).drew).trans hk4;have hB4:=HB3.out.kept hk4' (by omega);have hy:=hB4.lt;have y0:=hB4.k0;have f0:=hB4.f 0;have hO4:=owns_same HOr.out ((HK3.out.trans hk4').block g hgr (by omega));have hzr:=hk4'.size;have hO5:=owns_same hO4 (Below.heap_alloc w4 (.cells #[.int .i64 a4,x4, .int .i64 t4,y4] 407) g (by omega))))
   all_goals
    have HP4:=hid hp4
    have HK4:=hid hk4'
    have HI4:Hid (IsIf x4/\IsIf y4):=⟨hx4,hy4⟩
    have HR4:Hid ((armS s m d σ').isLive=true->∃ l2,a4=((armN s m d σ').1:Nat)/\t4=((armN s m d σ').2.2.1:Nat)/\Rp w4 (armN s m d σ').2.1 (w3.heap.size+1) l2 x4/\Rp w4 (armN s m d σ').2.2.2 l2 w4.heap.size y4):=fun hl=>by
     obtain ⟨x,y,l2,e,_,_,r1,r2⟩:=hr4 hl
     obtain ⟨e0,e1,e2,e3⟩:=agg4 e
     subst e0 e1 e2 e3
     exact ⟨l2,rfl,rfl,r1,r2⟩
    have HO5:Hid (w5.ownsRow w.heap.size 407 4 (.slice (some ⟨g',0,none⟩) (k+1) kc') (k+1) (xs ++ [.int .i64 a4,x4, .int .i64 t4,y4])):=hown
    have HG5:=hid hgrow
    have hgg:g'=g\/g'=w4.heap.size+1:=by
     rcases hat with h | h
     ·left
      have:g=g':=by simpa [Value.ownBlock] using h
      exact this.symm
     ·right;exact h
    have HB5:Hid (Bk w5 (w1.heap.size+1) [.slice (some ⟨g,0,none⟩) k kc, .pointer none]):=hB5
    clear hp4 hk4 hk4' hx4 hy4 hr4 hown hgrow hat hB4 hO4 hO5 hB5 y0 f0 z0 z1 x0 g0
    go_wp2_with fail
    go_roundg m
    case measure=>omega
    case rel=>
     have hkr:=HKr.out.size
     have hz5:w4.heap.size+1<=w5.heap.size:=by have:=HG5.out.size;simpa using this
     have hzz:(w5.setCell ⟨w1.heap.size+1,0,none⟩ (.slice (some ⟨g',0,none⟩) (k+1) kc')).heap.size=w5.heap.size:=by simp [World.setCell]
     have e45:∀ q,q<w4.heap.size->q≠g->w5.heap[q]?=w4.heap[q]?:=fun q hq hn=>(HG5.out.block q (by simp;omega) (fun e=>by injection e with e;exact hn e)).trans (Below.heap_alloc _ _ _ hq)
     have e46:∀ q,q<w4.heap.size->q≠g->q≠w1.heap.size+1->(w5.setCell ⟨w1.heap.size+1,0,none⟩ (.slice (some ⟨g',0,none⟩) (k+1) kc')).heap[q]?=w4.heap[q]?:=fun q h1 h2 h3=>(Below.heap_setCell _ _ _ _ h3).trans (e45 q h1 h2)
     have hgq' : g'≠w1.heap.size+1:=by omega
     refine ⟨by omega,armS s m d σ',ns ++ [armN s m d σ'],xs ++ [Value.int .i64 a4,x4,Value.int .i64 t4,y4],g',k+1,kc',by omega,by omega,(owns_lt HO5.out).1,by rw [hzz];exact hlt,hgq',by rw [hzz];omega,by show _=_;rw [List.length_append,<- HKN.out];rfl,by show _=_;rw [HR.out,HV.out],by show _=_;rw [HRT.out,HVT.out,kpush_snoc],(HP4.out.stay (by omega) (e45 b (by omega) (by omega)) (e45 c (by omega) (by omega)) (e45 5 (by omega) (by omega))).put (w1.heap.size+1) 0 (by omega) (by omega) _,((((HKr.out.trans HK3.out).trans HK4.out).alloc _).grown HG5.out hgw).setNew (by show w.heap.size<=w1.heap.size+1;omega) _,HB5.out.fill0 _,?_,owns_same HO5.out (Below.heap_setCell _ _ _ _ hgq'),fun hl=>?_⟩
     ·have t5:Ty w5 (w1.heap.size+1) 405:=HTr.out.same ((e45 _ (by omega) (by omega)).trans ((HK4.out.block _ (by omega) (by omega)).trans (HK3.out.block _ (by omega) (by omega))))
      exact t5.set 0 _
     ·obtain ⟨hi,q1,q2⟩:=HRr.out HL.out
      have hle:=q2.le
      obtain ⟨l2,u1,u2,u3,u4⟩:=HR4.out hl
      have v1:=Rp.le _ _ _ _ u3
      have v2:=Rp.le _ _ _ _ u4
      have E:AmR (w5.setCell ⟨w1.heap.size+1,0,none⟩ (.slice (some ⟨g',0,none⟩) (k+1) kc')) g (w1.heap.size+1) ns xs w.heap.size hi:=q2.frame (by rw [hzz];omega) fun q p1 p2 p3 p4=>(e46 q (by omega) p3 p4).trans ((HK4.out.block q (by omega) (by omega)).trans (HK3.out.block q (by omega) (by omega)))
      have R1:=u3.frame (w':=(w5.setCell ⟨w1.heap.size+1,0,none⟩ (.slice (some ⟨g',0,none⟩) (k+1) kc'))) (by rw [hzz];omega) _ _ _ _ (fun q p1 p2=>e46 q (by omega) (by omega) (by omega)) (fun _ _ _ _ e=>absurd e (HI4.out.1.noSl _ _ _))
      have R2:=u4.frame (w':=(w5.setCell ⟨w1.heap.size+1,0,none⟩ (.slice (some ⟨g',0,none⟩) (k+1) kc'))) (by rw [hzz];omega) _ _ _ _ (fun q p1 p2=>e46 q (by omega) (by omega) (by omega)) (fun _ _ _ _ e=>absurd e (HI4.out.2.noSl _ _ _))
      have S:=AmR.snoc (wa:=(armN s m d σ').1) (ta:=(armN s m d σ').2.2.1) v1 v2 (by omega) (by omega) HI4.out.1.noSl R1 HI4.out.2.noSl R2 E (by omega)
      subst u1 u2
      refine ⟨w4.heap.size,by rw [hzz];omega,?_⟩
      rcases hgg with rfl | hgg
      ·exact S
      ·exact S.move (by omega)
end Go.Proofs.YtgnncnhkgmhngaaGreatDoor
namespace Go.Proofs.YtgnncnhkgmhngaaGreatDoor
open Go.RowKit
def tokIs (s:Sp.Bs) (j:Nat) (z:Sp.Bs):Bool:=Sp.tokCl s (pos s j) == .key&&Sp.tokWord s (pos s j) == z
theorem is_lit {b c cap len:Nat} {s:Sp.Bs} {d:Nat} {σ:Sp.St} {w:World} (h:PS b c cap len s d σ w) (j:Nat) {wd:ByteArray} (ok:WordOK s (pos s j) wd.toList) (k a:Int) (z:Sp.Bs) (hf:z∈fixd) :
  Calls Tryz.prog 173 #[.agg #[.int .i64 k, .int .i64 a, .string wd], .slice (some ⟨w.heap.size,0,none⟩) 1 1] (w.alloc (.cells #[.string ⟨z.toArray⟩] 9)) fun r w'=>r = .returned (.bool (tokIs s j z))/\PS b c cap len s d σ w'/\Below w.heap.size w w':=by
 refine (is_prog w.heap.size 0 1 1 [bz z] wd k a (w.alloc (.cells #[.string ⟨z.toArray⟩] 9)) rfl (by decide) (by simp) ?_).mono ?_
 ·intro j hj
  have:j=0:=by simpa using hj
  subst this
  rw [World.cell?_alloc_new];rfl
 ·rintro r w' ⟨rfl,rfl⟩
  refine ⟨ret_bool ?_,(h.alloc _).alloc _,((Below.refl _ _).alloc (Nat.le_refl _) _).alloc (by simp) _⟩
  rw [oneOf,tokIs,List.any_cons,List.any_nil,Bool.or_false,bz_toList,ok z hf]
theorem asks_round {s:Sp.Bs} {f e:Nat} (h:(Sp.tokCl s e == .key&&Sp.tokWord s e == [40])=true):Sp.asksAt s (f+1) e=Sp.asksAt s f (Sp.tokEnd s e):=by
 rw [Sp.asksAt,h];rfl
theorem asks_stop {s:Sp.Bs} {f e:Nat} (h:(Sp.tokCl s e == .key&&Sp.tokWord s e == [40])=false):Sp.asksAt s (f+1) e=(Sp.tokCl s e == .key&&Sp.tokWord s e == [115,101,108,101,99,116]):=by
 rw [Sp.asksAt,h];rfl
theorem tokIs_live {s:Sp.Bs} {j:Nat} {z:Sp.Bs} (h:tokIs s j z=true):Sp.tokCl s (pos s j) = .key:=by
 unfold tokIs at h;simp only [Bool.and_eq_true,beq_iff_eq] at h;exact h.1
theorem pos_up {s:Sp.Bs} {j:Nat} {z:Sp.Bs} (h:tokIs s j z=true):pos s j<pos s (j+1)/\pos s j<s.length:=by
 have:=tokIs_live h
 exact ⟨Sp.tokEnd_gt (by rw [this];decide) (by rw [this];decide),Sp.lt_of_tok (by rw [this];decide)⟩
theorem next_lt {s:Sp.Bs} {len j:Nat} {z:Sp.Bs} (tk:TK s len) (hj:j<len) (h:tokIs s j z=true):j+1<len:=by
 have:=tokIs_live h
 rcases Nat.lt_or_ge (j+1) len with x | x
 ·exact x
 ·exfalso
  rcases tk.last j (by omega) with y | y <;> rw [this] at y <;> cases y
theorem tokIs_of {s:Sp.Bs} {len i:Nat} {σ:Sp.St} (tk:TK s len) (hi:IX s len i σ) (z:Sp.Bs):tokIs s i z=σ.is s z:=by
 cases σ with
 | live e=>simp only [tokIs,Sp.St.is];rw [hi.2]
 | dead x a=>
  rcases tk.last i hi.1 with h | h <;> simp [tokIs,Sp.St.is,h]
theorem isQuery_no {b c cap len:Nat} {s:Sp.Bs} {d:Nat} {σ:Sp.St} {w:World} (h:PS b c cap len s d σ w) (h0:σ.is s [40]=false) :
  Calls Tryz.prog 344 #[.pointer (some ⟨b,0,none⟩)] w fun r w'=>r = .returned (.bool false)/\PS b c cap len s d σ w'/\Kept b w w':=by
 obtain ⟨i,hi,h1⟩:=h.h1
 have hil:=hi.lt
 have hs:tokIs s i [40]=false:=by rw [tokIs_of h.tk hi];exact h0
 have c0:=h.h0
 obtain ⟨wd,tc⟩:=h.tc i hil
 have tk:=tc.k
 have ta:=tc.a
 have tt:=tc.t
 have HO:Hid (WordOK s (pos s i) wd.toList):=tc.ok
 have HP:=hid h
 have HI:=hid hi
 have lt:=h.tk.top
 clear h hi h0 tc
 go_enter Tryz.func344,Tryz.ntmps344
 go_wp2_with fail
 go_loopg [3] 1 (fun f x wr=>x = .int .i64 i/\wr=w)
 case atStart=>exact ⟨rfl,rfl⟩
 case round=>
  obtain ⟨rfl,rfl⟩:=hrel
  go_wp2_with fail
  refine (is_lit HP.out i HO.out _ _ [40] (by decide)).mono ?_
  rw [hs]
  rintro r w2 ⟨rfl,hp2,hk2⟩
  obtain ⟨i',hi',h1'⟩:=hp2.h1
  obtain rfl:i=i':=ix_inj hp2.tk HI.out hi'
  have HP2:=hid hp2
  have HK2:Hid (Kept b wr w2):=Kept.below hk2
  clear hp2 hk2 c0 tk ta tt hi' h1
  go_wp2_with fail
  go_ret
  exact ⟨rfl,HP2.out,HK2.out⟩
theorem isQuery_open {b c cap len:Nat} {s:Sp.Bs} {d e:Nat} {w:World} (h:PS b c cap len s d (.live e) w) (h0:Sp.St.is s [40] (.live e)=true) :
  Calls Tryz.prog 344 #[.pointer (some ⟨b,0,none⟩)] w fun r w'=>r = .returned (.bool (Sp.St.asks s (.live e)))/\PS b c cap len s d (.live e) w'/\Kept b w w':=by
 obtain ⟨i,hi,h1⟩:=h.h1
 have hil:=hi.1
 have HI:Hid (pos s i=e):=hi.2
 have HIX:=hid hi
 have HS0:Hid (tokIs s i [40]=true):=by show _=_;rw [tokIs_of h.tk hi];exact h0
 have hlt:e<s.length:=by
  simp only [Sp.St.is,Bool.and_eq_true,beq_iff_eq] at h0
  exact Sp.lt_of_tok (by rw [h0.1];decide)
 have HP:=hid h
 have lt:=h.tk.top
 clear h hi h0
 go_enter Tryz.func344,Tryz.ntmps344
 go_wp2_with fail
 go_loopg [3] (s.length+1 - e) (fun f x wr=>1<=f/\∃ j:Nat,j<len/\i<=j/\x = .int .i64 j/\s.length+1 - pos s j<=f/\Hid (Sp.St.asks s (.live e)=Sp.asksAt s f (pos s j))/\Hid (PS b c cap len s d (.live e) wr)/\Hid (Below w.heap.size w wr))
 case atStart=>exact ⟨by omega,i,hil,Nat.le_refl _,rfl,by rw [HI.out];omega,by show _=_;rw [HI.out];rfl,HP.out,Below.refl _ _⟩
 case round=>
  obtain ⟨hf1,j,hj,hij,rfl,hf,HA,HPr,HBr⟩:=hrel
  obtain ⟨f,rfl⟩:∃ f,gk=f+1:=⟨gk - 1,by omega⟩
  have c0:=HPr.out.h0
  obtain ⟨wd,tc⟩:=HPr.out.tc j hj
  have tk:=tc.k
  have ta:=tc.a
  have tt:=tc.t
  have HO:Hid (WordOK s (pos s j) wd.toList):=tc.ok
  clear tc
  cases hs:tokIs s j [40]
  ·have HV:Hid (Sp.St.asks s (.live e)=tokIs s j [115,101,108,101,99,116]):=by show _=_;rw [HA.out];exact asks_stop hs
   have hij' : i<j:=by
    rcases Nat.lt_or_ge i j with x | x
    ·exact x
    ·have:i=j:=by omega
     subst this
     rw [HS0.out] at hs;cases hs
   clear HA
   go_wp2_with fail
   refine (is_lit HPr.out j HO.out _ _ [40] (by decide)).mono ?_
   rw [hs]
   rintro r w2 ⟨rfl,hp2,hk2⟩
   obtain ⟨i',hi',h1'⟩:=hp2.h1
   obtain rfl:i=i':=ix_inj hp2.tk HIX.out hi'
   have HP2:=hid hp2
   have HB2:Hid (Below w.heap.size w w2):=HBr.out.trans (hk2.mono HBr.out.size)
   have c02:=hp2.h0
   have tk2:=(hk2.cell (p:=⟨c,j*3,none⟩) HPr.out.lc).trans tk
   have ta2:=(hk2.cell (p:=⟨c,j*3+1,none⟩) HPr.out.lc).trans ta
   have tt2:=(hk2.cell (p:=⟨c,j*3+2,none⟩) HPr.out.lc).trans tt
   clear hp2 hk2 c0 tk ta tt hi'
   go_wp2_with fail
   refine (is_lit HP2.out j HO.out _ _ [115,101,108,101,99,116] (by decide)).mono ?_
   rintro r w3 ⟨rfl,hp3,hk3⟩
   have HP3:=hid hp3
   have HB3:Hid (Below w.heap.size w w3):=HB2.out.trans (hk3.mono HB2.out.size)
   clear hp3 hk3 c02 tk2 ta2 tt2
   generalize tokIs s j [115,101,108,101,99,116]=bs at *
   go_wp2_with fail
   go_ret
   exact ⟨by rw [HV.out];simp,HP3.out,Kept.below HB3.out⟩
  ·have HV:Hid (Sp.St.asks s (.live e)=Sp.asksAt s f (pos s (j+1))):=by show _=_;rw [HA.out];exact asks_round hs
   have hup:=pos_up hs
   have hnx:=next_lt HPr.out.tk hj hs
   clear HA
   go_wp2_with fail
   refine (is_lit HPr.out j HO.out _ _ [40] (by decide)).mono ?_
   rw [hs]
   rintro r w2 ⟨rfl,hp2,hk2⟩
   have HP2:=hid hp2
   have HB2:Hid (Below w.heap.size w w2):=HBr.out.trans (hk2.mono HBr.out.size)
   clear hp2 hk2 c0 tk ta tt
   go_wp2_with fail
   go_roundg f
   case measure=>omega
   case rel=>exact ⟨by omega,j+1,hnx,by omega,by go_num,by omega,HV.out,HP2.out,HB2.out⟩
end Go.Proofs.YtgnncnhkgmhngaaGreatDoor
namespace Go.Proofs.YtgnncnhkgmhngaaGreatDoor.Sp
open Go
theorem idx_pair (r:Bs):Lib.index (39::39::r) [39,39]=0:=by simp [Lib.index]
theorem idx_skip (c:UInt8) (t:Bs) (h:([39,39]:Bs).isPrefixOf (c::t)=false):Lib.index (c::t) [39,39]=if Lib.index t [39,39] == -1 then -1 else Lib.index t [39,39]+1:=by
 simp only [Lib.index,h]
 simp
theorem cnt_skip (c:UInt8) (t:Bs) (h:([39,39]:Bs).isPrefixOf (c::t)=false):Lib.count (c::t) [39,39]=Lib.count t [39,39]:=by
 have e:=idx_skip c t h
 by_cases hm:Lib.index t [39,39]=-1
 ·rw [Lib.count_miss hm,Lib.count_miss];rw [e,hm];rfl
 ·obtain ⟨i,hi⟩:∃ i:Nat,Lib.index t [39,39]=i:=⟨(Lib.index t [39,39]).toNat,by have:=Lib.index_ge t [39,39];omega⟩
  rw [Lib.count_hit (i:=i) (by decide) hi,Lib.count_hit (i:=i+1) (by decide) (by rw [e,hi,if_neg (by simp)];rfl)]
  simp
theorem rep_skip (k:Nat) (c:UInt8) (t:Bs) (h:([39,39]:Bs).isPrefixOf (c::t)=false):Lib.replaceK [39,39] [39] k (c::t)=c::Lib.replaceK [39,39] [39] k t:=by
 cases k with
 | zero=>rfl
 | succ k=>
  have e:=idx_skip c t h
  by_cases hm:Lib.index t [39,39]=-1
  ·rw [Lib.replaceK,Lib.replaceK,if_pos (by rw [e,hm];rfl),if_pos (by rw [hm];rfl)]
  ·obtain ⟨i,hi⟩:∃ i:Nat,Lib.index t [39,39]=i:=⟨(Lib.index t [39,39]).toNat,by have:=Lib.index_ge t [39,39];omega⟩
   rw [Lib.replaceK_hit _ _ _ _ (i+1) (by rw [e,hi,if_neg (by simp)];rfl),Lib.replaceK_hit _ _ _ _ i hi]
   simp
theorem rep_unq:∀ l:Bs,Lib.replaceK [39,39] [39] (Lib.count l [39,39]) l=unq l
 | []=>by
  have:Lib.index [] [39,39]=-1:=by decide
  rw [Lib.count_miss this];rfl
 | [c]=>by
  have h:([39,39]:Bs).isPrefixOf [c]=false:=by simp [List.isPrefixOf]
  rw [cnt_skip c [] h,rep_skip _ c [] h]
  have:Lib.index [] [39,39]=-1:=by decide
  rw [Lib.count_miss this];rfl
 | c::c'::r=>by
  cases hp:(c == 39&&c' == 39)
  ·have h:([39,39]:Bs).isPrefixOf (c::c'::r)=false:=by
    simp only [List.isPrefixOf,Bool.and_eq_false_iff] at hp ⊢
    rcases hp with hp | hp
    ·left;rw [Bool.eq_false_iff] at hp ⊢;intro e;exact hp (by rw [beq_iff_eq] at e ⊢;exact e.symm)
    ·right;left;rw [Bool.eq_false_iff] at hp ⊢;intro e;exact hp (by rw [beq_iff_eq] at e ⊢;exact e.symm)
   rw [cnt_skip c _ h,rep_skip _ c _ h,rep_unq (c'::r),unq,hp]
   rfl
  ·simp only [Bool.and_eq_true,beq_iff_eq] at hp
   obtain ⟨rfl,rfl⟩:=hp
   rw [Lib.count_hit (i:=0) (by decide) (idx_pair r),Nat.add_comm 1,Lib.replaceK_hit _ _ _ _ 0 (idx_pair r)]
   have e:(39::39::r:Bs).drop (0+([39,39]:Bs).length)=r:=rfl
   rw [e,rep_unq r,unq]
   rfl
theorem replaceAll_unq (l:Bs):Lib.replaceAll l [39,39] [39]=unq l:=by
 rw [Lib.replaceAll,Lib.replace,if_neg (by decide),Lib.replaceNum,if_pos (Or.inl (by decide)),rep_unq]
end Go.Proofs.YtgnncnhkgmhngaaGreatDoor.Sp
namespace Go.Proofs.YtgnncnhkgmhngaaGreatDoor
open Go.RowKit
theorem num_word {s:Sp.Bs} {e:Nat} (h:Sp.tokCl s e = .num):Sp.tokWord s e ≠ []/\(Sp.tokWord s e).all Sp.isDg=true/\Sp.numVal (Sp.tokWord s e)<9223372036854775808:=by
 unfold Sp.tokCl at h
 unfold Sp.tokWord Sp.tokLen
 generalize s.drop (Sp.tokAt s e)=l at *
 cases l with
 | nil=>simp [Sp.first] at h
 | cons c r=>
  cases h1:Sp.isLo c
  ·cases h2:Sp.isDg c
   ·cases h3:(c == 39)
    ·rw [first_sign h1 h2 h3] at h;split at h <;> cases h
    ·rw [first_txt h1 h2 h3] at h;split at h <;> cases h
   ·rw [first_num h1 h2] at h ⊢
    simp only at h ⊢
    split at h
    ·rename_i hv
     refine ⟨?_,many_all _ _,hv⟩
     have:1<=Sp.many Sp.isDg (c::r):=Sp.many_pos h2
     intro hc
     have:=congrArg List.length hc
     rw [List.length_take] at this
     simp at this
     omega
    ·cases h
  ·rw [first_word h1] at h
   simp only at h
   split at h
   ·cases h
   ·split at h <;> cases h
theorem vint_b (n:Int) (w:World):Calls Tryz.prog 290 #[.int .i64 n] w fun e w'=>e = .returned (enV (Sv.int n))/\Below w.heap.size w w':=by
 go_enter Tryz.func290,Tryz.ntmps290
 go_wp2
 exact bodyPost_ret (v:=enV (Sv.int n)) (by simp [results,Tryz.results290,go_sem];exact ⟨rfl,rfl,rfl⟩) rfl ⟨rfl,(Below.refl _ _).alloc (Nat.le_refl _) _⟩
theorem vtext_b (s:ByteArray) (w:World):Calls Tryz.prog 348 #[.string s] w fun e w'=>e = .returned (enV (Sv.text s))/\Below w.heap.size w w':=by
 go_enter Tryz.func348,Tryz.ntmps348
 go_wp2
 exact bodyPost_ret (v:=enV (Sv.text s)) (by simp [results,Tryz.results348,go_sem];exact ⟨rfl,rfl,rfl⟩) rfl ⟨rfl,(Below.refl _ _).alloc (Nat.le_refl _) _⟩
theorem vnull_b (w:World):Calls Tryz.prog 236 #[] w fun e w'=>e = .returned (enV Sv.null)/\Below w.heap.size w w':=by
 go_enter Tryz.func236,Tryz.ntmps236
 go_wp2
 exact bodyPost_ret (v:=enV Sv.null) (by simp [results,Tryz.results236,go_sem];exact ⟨rfl,rfl,rfl⟩) rfl ⟨rfl,(Below.refl _ _).alloc (Nat.le_refl _) _⟩
theorem vbool_b (t:Bool) (w:World):Calls Tryz.prog 231 #[.bool t] w fun e w'=>e = .returned (enV (Sv.bool t))/\Below w.heap.size w w':=by
 cases t
 all_goals
  go_enter Tryz.func231,Tryz.ntmps231
  go_wp2
 ·exact bodyPost_ret (v:=enV (Sv.bool false)) (by simp [results,Tryz.results231,go_sem];exact ⟨rfl,rfl,rfl⟩) rfl ⟨rfl,(Below.refl _ _).alloc (Nat.le_refl _) _⟩
 ·exact bodyPost_ret (v:=enV (Sv.bool true)) (by simp [results,Tryz.results231,go_sem];exact ⟨rfl,rfl,rfl⟩) rfl ⟨rfl,(Below.refl _ _).alloc (Nat.le_refl _) _⟩
theorem Bk.belowN {w w' : World} {q:Nat} {vs:List Value} (h:Bk w q vs) {n:Nat} (k:Below n w w') (hq:q<n) (hs:w.heap.size<=w'.heap.size):Bk w' q vs:=h.same hs (k.block q hq)
theorem numberOf_any (s:ByteArray) (w:World) (hne:s.data.toList ≠ []) (hd:s.data.toList.all Sp.isDg=true) (hs:s.size<=100000) (hv:Sp.numVal s.data.toList<9223372036854775808) :
  Calls Tryz.prog 341 #[.string s] w fun e w'=>e = .returned (enV (Sv.int (Sp.numVal s.data.toList:Nat)))/\Below w.heap.size w w':=by
 have H:Hid (Lib.parseIntB 64 s.data.toList = .ok (Sp.numVal s.data.toList:Int)):=intB_ok hne hd hv
 clear hne hd
 generalize hnv:(Sp.numVal s.data.toList)=nv at *
 clear hnv
 have HB0:Hid (Bk (w.alloc (.cells #[.int .i64 0, .int .i64 0, .string ⟨#[]⟩] 40)) w.heap.size [.int .i64 0, .int .i64 0, .string ⟨#[]⟩]):=Bk.new _ _ _
 have HL0:Hid (Below w.heap.size w (w.alloc (.cells #[.int .i64 0, .int .i64 0, .string ⟨#[]⟩] 40))):=(Below.refl _ _).alloc (Nat.le_refl _) _
 go_enter Tryz.func341,Tryz.ntmps341
 go_wp2_with fail
 refine (Tryz.strconv_ParseInt_10_at64_ok s (by omega) _ H.out _).mono ?_
 generalize (w.alloc (.cells #[.int .i64 0, .int .i64 0, .string ⟨#[]⟩] 40))=w0 at *
 rintro e w' ⟨rfl,hw⟩
 have hb1:Below w0.heap.size w0 w':=by
  rcases hw with rfl | ⟨t,rfl⟩
  ·exact Below.refl _ _
  ·exact Lib.bytesWorld_below _ _ _
 have HB1:=hid (HB0.out.below hb1)
 have HL1:Hid (Below w.heap.size w w'):=HL0.out.trans (hb1.mono HL0.out.size)
 clear hw hb1 HB0 HL0
 go_wp2_with fail
 refine (vint_b _ _).mono ?_
 rintro e w2 ⟨rfl,hb2⟩
 have hB2:=HB1.out.below hb2
 have HL2:Hid (Below w.heap.size w w2):=HL1.out.trans (hb2.mono HL1.out.size)
 have c0:=hB2.k0
 have c1:=hB2.k1
 have c2:=hB2.k2
 have f0:=hB2.f 0
 have f1:=hB2.f 1
 have f2:=hB2.f 2
 clear hB2 hb2
 go_wp2_with fail
 exact bodyPost_ret (v:=enV (Sv.int (nv:Nat))) (by simp [results,Tryz.results341,go_sem, *]) rfl ⟨rfl,((HL2.out.setCell (Nat.le_refl _) _).setCell (Nat.le_refl _) _).setCell (Nat.le_refl _) _⟩
end Go.Proofs.YtgnncnhkgmhngaaGreatDoor
