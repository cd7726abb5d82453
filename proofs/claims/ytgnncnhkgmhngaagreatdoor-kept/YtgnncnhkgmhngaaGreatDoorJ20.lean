import Derived.Test.YtgnncnhkgmhngaaGreatDoorJ16
import Derived.Deep.DeepMust
import Derived.Deep.RegionHeld3
import Derived.Deep.DrawnRows
import Derived.Deep.AppendLies
set_option maxHeartbeats 2000000
namespace Go.Proofs.YtgnncnhkgmhngaaGreatDoor
open Go.RowKit
theorem PS.stay {b c cap len:Nat} {s:Sp.Bs} {d:Nat} {σ:Sp.St} {w w' : World} (h:PS b c cap len s d σ w) (hs:w.heap.size<=w'.heap.size) (hb:w'.heap[b]?=w.heap[b]?) (hc:w'.heap[c]?=w.heap[c]?) (h5:w'.heap[5]?=w.heap[5]?):PS b c cap len s d σ w':=by
 have eb:∀ i,w'.cell? ⟨b,i,none⟩=w.cell? ⟨b,i,none⟩:=fun i=>World.cell?_of_block (w:=w) (a:=⟨b,i,none⟩) hb
 have ec:∀ i,w'.cell? ⟨c,i,none⟩=w.cell? ⟨c,i,none⟩:=fun i=>World.cell?_of_block (w:=w) (a:=⟨c,i,none⟩) hc
 have ef:∀ i,w'.frozen? ⟨b,i,none⟩=w.frozen? ⟨b,i,none⟩:=fun i=>World.frozen?_of_block (w:=w) (a:=⟨b,i,none⟩) hb
 obtain ⟨i,hi,h1⟩:=h.h1
 refine ⟨Nat.lt_of_lt_of_le h.lb hs,Nat.lt_of_lt_of_le h.lc hs,h.ne,h.tk,(eb 0).trans h.h0,⟨i,hi,(eb 1).trans h1⟩,(eb 2).trans h.h2,(eb 3).trans h.h3,(eb 4).trans h.h4,fun o=>(ef o).trans (h.fz o),fun j hj=>?_,h.h5,?_⟩
 ·obtain ⟨wd,t⟩:=h.tc j hj
  exact ⟨wd,(ec _).trans t.k,(ec _).trans t.a,(ec _).trans t.t,t.ok,t.wq⟩
 ·obtain ⟨m,hm⟩:=h.vm
  exact ⟨m,(World.cell?_of_block (w:=w) (a:=⟨5,0,none⟩) h5).trans hm⟩
theorem Kept.grown {b:Nat} {a w w' : World} {g:Nat} (h:Kept b a w) (k:w.grownBy w' (some g)) (hg:a.heap.size<=g):Kept b a w':=
 ⟨k.os.trans h.os,k.tape.trans h.tape,k.output.trans h.output,Nat.le_trans h.size k.size,fun i hi hb=>(k.block i (Nat.lt_of_lt_of_le hi h.size) (by intro e;injection e with e;omega)).trans (h.block i hi hb)⟩
theorem listE_step {b c cap len:Nat} {s:Sp.Bs} {n:Nat} (IH:Hid (∀ m,m<=n->All b c cap len s m)) (d:Nat) (σ:Sp.St) (w:World) (hd:d+(n+1)<=1000000) (hm' : 32*Sp.rem s σ+10<=n+1) (hp:PS b c cap len s d σ w) :
  Calls Tryz.prog 212 #[.pointer (some ⟨b,0,none⟩), .func (.func 175) #[.pointer (some ⟨b,0,none⟩)] #[]] w (PostV b c cap len s d (Sp.run s (n+1) .list d σ) w IsSl fun w' v=>Rq w' (Sp.tr s (n+1) .list d .nil σ) w.heap.size w'.heap.size v):=by
 obtain ⟨i0,ji,jz0,jz1,jz2⟩:=info_parts infoExpr
 have hr:=Sp.rem_run s n .expr d σ
 have hbw:=hp.lb
 have hcw:=hp.lc
 have h5c:=hp.h5.1
 have HP:=hid hp
 clear hp
 go_enter Tryz.func212,Tryz.ntmps212
 go_wp2_with fail
 refine ((IH.out n (Nat.le_refl _)).expr d σ _ (by omega) (by show 32*Sp.rem s σ+9<=n;omega) HP.out).mono ?_
 rintro r w1 ⟨v1,rfl,hp1,hk1,hi1,hr1⟩
 have HP1:Hid (PS b c cap len s d (Sp.run s n .expr d σ) (w1.alloc (.cells #[v1] 242))):=hp1.alloc _
 have HK1:Hid (Kept b w (w1.alloc (.cells #[v1] 242))):=hk1.alloc _
 have hz1':=hk1.size
 have HO1:Hid ((w1.alloc (.cells #[v1] 242)).ownsRow w.heap.size 242 1 (.slice (some ⟨w1.heap.size,0,none⟩) 1 1) 1 [v1]):=owns_new w1 w.heap.size hz1' 242 1 #[v1] 1 rfl (by unfold maxLen;omega)
 have HR1:Hid ((Sp.run s n .expr d σ).isLive=true->∃ hi,hi<=(w1.alloc (.cells #[v1] 242)).heap.size/\ElR (w1.alloc (.cells #[v1] 242)) w1.heap.size [Sp.tr s n .expr d .nil σ] [v1] w.heap.size hi):=fun hl=>⟨w1.heap.size,by simp,w.heap.size,w1.heap.size,by unfold Sub;omega,hi1.noSl,(hr1 hl).keptN hi1.noSl ((Kept.refl b w1).alloc _) hbw (Nat.le_refl _),Nat.le_refl _⟩
 have hv1:=hi1.cells
 unfold Value.cells at hv1
 clear hp1 hk1 hi1 hr1 HP
 go_wp2_with fail
 go_loopg [5] n (fun gm v wr=>gm<=n/\∃ (σ' : Sp.St) (ns:List Sp.Nd) (xs:List Value) (g k kc:Nat),v = .slice (some ⟨g,0,none⟩) k kc/\k+gm<=n+1/\32*Sp.rem s σ'+1<=gm/\w.heap.size<=g/\g<wr.heap.size/\Hid (k=ns.length)/\Hid (Sp.run s (n+1) .list d σ=Sp.run s gm .listL d σ')/\Hid (Sp.tr s (n+1) .list d .nil σ=Sp.lapp ns (Sp.tr s gm .listL d .nil σ'))/\Hid (PS b c cap len s d σ' wr)/\Hid (Kept b w wr)/\Hid (wr.ownsRow w.heap.size 242 1 (.slice (some ⟨g,0,none⟩) k kc) k xs)/\Hid (σ'.isLive=true->∃ hi,hi<=wr.heap.size/\ElR wr g ns xs w.heap.size hi))
 case atStart=>exact ⟨Nat.le_refl _,_, [Sp.tr s n .expr d .nil σ], [v1],w1.heap.size,1,1,rfl,by omega,by omega,hz1',by simp,rfl,rfl,rfl,HP1.out,HK1.out,HO1.out,HR1.out⟩
 case round=>
  obtain ⟨hmn,σ',ns,xs,g,k,kc,rfl,hkg,hms,hgw,hgr,HKN,HR,HRT,HPr,HKr,HOr,HRr⟩:=hrel
  obtain ⟨m,rfl⟩:∃ m,gk=m+1:=⟨gk - 1,by omega⟩
  cases hs:σ'.is s [44]
  ·have HV:Hid (Sp.run s (m+1) .listL d σ'=σ'):=by show _=_;rw [Sp.run,hs];rfl
   have HVT:Hid (Sp.tr s (m+1) .listL d .nil σ' = .nil):=by show _=_;rw [Sp.tr,hs];rfl
   have HT:Hid (σ'.take s [44]=σ'):=take_no hs
   go_wp2_with fail
   refine (accept1 HPr.out [44] (by decide)).mono ?_
   rintro r w2 ⟨rfl,hp2,hk2⟩
   rw [HT.out] at hp2
   rw [hs]
   have HP2:Hid (PS b c cap len s d σ' w2):=hp2
   have HK2:=hid hk2
   clear hp2 hk2
   go_wp2_with fail
   go_ret
   refine ⟨_,rfl,by rw [HR.out,HV.out];exact HP2.out,HKr.out.trans HK2.out,⟨_,_,_,rfl⟩,fun hl=>?_⟩
   rw [HR.out,HV.out] at hl
   rw [HRT.out,HVT.out]
   obtain ⟨hi,h1,h2⟩:=HRr.out hl
   have hz2:=HK2.out.size
   have hle:=h2.le
   have E:ElR w2 g ns xs w.heap.size hi:=h2.frame hz2 fun k h1 h2 _=>HK2.out.block k (by omega) (by omega)
   have O:=owns_same HOr.out (HK2.out.block g hgr (by omega))
   have R:=ElR.rp (off:=0) (Nat.lt_of_lt_of_le hgr hz2) kc E (fun j u hj=>by have:=owns_cells O j u hj;simpa using this)
   rw [<- HKN.out] at R
   exact ⟨Rp.wide _ _ _ _ _ _ R (Nat.le_refl _) (by omega),fun blk off n c e=>by injection e with e1 e2 e3;injection e1 with e1;injection e1 with e1;subst e1;omega⟩
  ·have HV:Hid (Sp.run s (m+1) .listL d σ'=Sp.run s m .listL d (Sp.run s m .expr d (σ'.step s))):=by show _=_;rw [Sp.run,hs];rfl
   have HVT:Hid (Sp.tr s (m+1) .listL d .nil σ' = .cons (Sp.tr s m .expr d .nil (σ'.step s)) (Sp.tr s m .listL d .nil (Sp.run s m .expr d (σ'.step s)))):=by show _=_;rw [Sp.tr,hs];rfl
   have HT:Hid (σ'.take s [44]=σ'.step s):=take_yes hs
   have HL:Hid (σ'.isLive=true):=Sp.live_is hs
   have h1:=Sp.rem_step_lt hs
   have h2:=Sp.rem_run s m .expr d (σ'.step s)
   go_wp2_with fail
   refine (accept1 HPr.out [44] (by decide)).mono ?_
   rintro r w2 ⟨rfl,hp2,hk2⟩
   rw [HT.out] at hp2
   rw [hs]
   have HP2:Hid (PS b c cap len s d (σ'.step s) w2):=hp2
   have HK2:=hid hk2
   clear hp2 hk2
   go_wp2_with fail
   refine ((IH.out m (by omega)).expr d _ _ (by omega) (by show 32*Sp.rem s _+9<=m;omega) HP2.out).mono ?_
   rintro r w3 ⟨v3,rfl,hp3,hk3,hi3,hr3⟩
   have HP3:=hid hp3
   have HK3:=hid hk3
   have HI3:=hid hi3
   have HR3:=hid hr3
   have hz2:=HK2.out.size
   have hz3:=HK3.out.size
   have hzr:=HKr.out.size
   have HO3:Hid (w3.ownsRow w.heap.size 242 1 (.slice (some ⟨g,0,none⟩) k kc) k xs):=owns_same HOr.out ((HK2.out.trans HK3.out).block g hgr (by omega))
   have HO4:Hid ((w3.alloc (.cells #[v3] 242)).ownsRow w.heap.size 242 1 (.slice (some ⟨g,0,none⟩) k kc) k xs):=owns_same HO3.out (Below.heap_alloc _ _ _ (by omega))
   have hv3:=hi3.cells
   unfold Value.cells at hv3
   clear hp3 hk3 hi3 hr3 HP2 HPr
   go_wp2_with (at_builtin;go_must (refine wpList_append_two _ rfl (.tmp 12) (.tmp 15) 237 rfl w.heap.size 242 i0 .nilIface 1 16 Tryz.underlying237 ji jz0 jz1 jz2 rfl (by decide) g k kc xs rfl HO4.out ⟨w3.heap.size,0,none⟩ 1 [v3] rfl rfl ?c1 ?c2 ?c3 ?c4 ?c5 ?_))
   case c1=>
    intro j u hj
    match j,hj with
    | 0,hj=>simp at hj;subst hj;rw [Addr.add_lit];simp
    | j+1,hj=>simp at hj
   case c2=>intro u hu;simp at hu;subst hu;exact HI3.out.one
   case c3=>unfold maxLen;omega
   case c4=>omega
   case c5=>simp;omega
   intro g' kc' w5 hown hgrow hg'
   have HO5:=hid hown
   have HG5:=hid hgrow
   have hgg:g'=g\/w3.heap.size+1<=g':=by simpa using hg'
   have hg5:=(owns_lt hown)
   clear hown hgrow hg' hv3
   go_wp2_with fail
   go_roundg m
   case measure=>omega
   case rel=>
    have hz5:w3.heap.size+1<=w5.heap.size:=by have:=HG5.out.size;simpa using this
    have hb5:∀ q,q<w3.heap.size->q≠g->w5.heap[q]?=w3.heap[q]?:=fun q hq hn=>(HG5.out.block q (by simp;omega) (fun e=>by injection e with e;exact hn e)).trans (Below.heap_alloc _ _ _ hq)
    refine ⟨by omega,_,ns ++ [Sp.tr s m .expr d .nil (σ'.step s)],xs ++ [v3],g',k+1,kc',rfl,by omega,by omega,hg5.1,hg5.2,by show _=_;rw [List.length_append,<- HKN.out];rfl,by show _=_;rw [HR.out,HV.out],by show _=_;rw [HRT.out,HVT.out,Sp.lapp_snoc],HP3.out.stay (by omega) (hb5 b (by omega) (by omega)) (hb5 c (by omega) (by omega)) (hb5 5 (by omega) (by omega)),(((HKr.out.trans HK2.out).trans HK3.out).alloc _).grown HG5.out hgw,HO5.out,fun hl=>?_⟩
    obtain ⟨hi,e1,e2⟩:=HRr.out HL.out
    have hle:=e2.le
    have r3:=HR3.out hl
    have E:ElR w5 g ns xs w.heap.size hi:=(e2.frame (by omega) fun q h1 h2 h3=>(hb5 q (by omega) h3).trans ((HK2.out.trans HK3.out).block q (by omega) (by omega)))
    have R:Rp w5 (Sp.tr s m .expr d .nil (σ'.step s)) w2.heap.size w3.heap.size v3:=r3.frame (by omega) _ _ _ _ (fun q h1 h2=>hb5 q h2 (by omega)) (fun _ _ _ _ e=>absurd e (HI3.out.noSl _ _ _))
    have S:=E.snoc (by omega) HI3.out.noSl R (by omega)
    refine ⟨w3.heap.size,by omega,?_⟩
    rcases hgg with rfl | hgg
    ·exact S
    ·exact S.move (by omega)
theorem exprs_step {b c cap len:Nat} {s:Sp.Bs} {n:Nat} (IH:Hid (∀ m,m<=n->All b c cap len s m)):SdQ b c cap len s (n+1) .list IsSl 174:=by
 intro d σ w hd hm hp
 have H:Hid (∀ w',w'=w->Calls Tryz.prog 212 #[.pointer (some ⟨b,0,none⟩), .func (.func 175) #[.pointer (some ⟨b,0,none⟩)] #[]] w' (PostV b c cap len s d (Sp.run s (n+1) .list d σ) w IsSl fun w' v=>Rq w' (Sp.tr s (n+1) .list d .nil σ) w.heap.size w'.heap.size v)):=fun w' e=>by subst e;exact listE_step IH d σ w' hd hm hp
 clear hd hm hp
 have hmf:=mkFn
 go_enter Tryz.func174,Tryz.ntmps174
 go_wp2_with fail
 refine (H.out _ rfl).mono ?_
 rintro r w1 ⟨v1,rfl,hp1,hk1,hi1,hr1⟩
 have HX:Hid (PS b c cap len s d (Sp.run s (n+1) .list d σ) w1/\Kept b w w1/\IsSl v1/\((Sp.run s (n+1) .list d σ).isLive=true->Rq w1 (Sp.tr s (n+1) .list d .nil σ) w.heap.size w1.heap.size v1)):=⟨hp1,hk1,hi1,hr1⟩
 clear hp1 hk1 hi1 hr1
 go_wp2_with fail
 go_ret
 exact ⟨_,rfl,HX.out.1,HX.out.2.1,HX.out.2.2.1,HX.out.2.2.2⟩
theorem IsIf.st {v:Value} (h:IsIf v) (a:Addr) (m:Mode) (w:World):(store a v m).run Tryz.prog w=stored Tryz.prog w a v m:=run_store Tryz.prog w a v m h.one
theorem Bk.fill2 {w:World} {q:Nat} {x y:Value} (h:Bk w q [x,y]) (x' y' : Value):Bk ((w.setCell ⟨q,0,none⟩ x').setCell ⟨q,1,none⟩ y') q [x',y']:=by
 have c0:=h.k0
 have c1:=h.k1
 have lt:=h.lt
 have F:Hid (∀ j,w.frozen? ⟨q,j,none⟩=false):=h.f
 refine ⟨by simpa [World.setCell] using h.lt,?_,fun j=>?_⟩
 ·intro j hj
  match j,hj with
  | 0,_=>clear F h;go_simp
  | 1,_=>clear F h;go_simp
 ·have f:=F.out j
  clear F h
  go_simp
theorem clause_any {b c cap len:Nat} {s:Sp.Bs} {n d:Nat} {σ:Sp.St} {w:World} (h:PS b c cap len s d σ w) (z:Sp.Bs) (hf:z∈fixd)
  (hex:∀ w',PS b c cap len s d (σ.must s z) w'->Calls Tryz.prog 175 #[.pointer (some ⟨b,0,none⟩)] w' (PostV b c cap len s d (Sp.run s n .expr d (σ.must s z)) w' IsIf fun w'' v=>Rp w'' (Sp.tr s n .expr d .nil (σ.must s z)) w'.heap.size w''.heap.size v)) :
  Calls Tryz.prog 129 #[.pointer (some ⟨b,0,none⟩), .string ⟨z.toArray⟩] w (PostV b c cap len s d (Sp.run s n .expr d (σ.must s z)) w IsCl fun w' v=>∃ x,v = .agg #[.int .i64 (σ.at_ s:Nat),x]/\IsIf x/\Rp w' (Sp.tr s n .expr d .nil (σ.must s z)) (w.heap.size+1) w'.heap.size x):=by
 have hbw:=h.lb
 have hcw:=h.lc
 have HEX:=hid hex
 obtain ⟨i,wd,hi,tc,PK⟩:=peek_any (h.alloc (.cells #[.int .i64 0, .nilIface] 244))
 have HTK:Hid (σ.isLive=true->Sp.tokAt s (pos s i)=σ.at_ s):=fun hl=>(tok_live hi tc hl).1
 have HH:Hid (PS b c cap len s d σ (w.alloc (.cells #[.int .i64 0, .nilIface] 244))):=h.alloc _
 have HK0:Hid (Kept b w (w.alloc (.cells #[.int .i64 0, .nilIface] 244))):=(Kept.refl b w).alloc _
 have HB0:Hid (Bk (w.alloc (.cells #[.int .i64 0, .nilIface] 244)) w.heap.size [.int .i64 0, .nilIface]):=Bk.new _ _ _
 have HPK:Hid (∀ w',w'=w.alloc (.cells #[.int .i64 0, .nilIface] 244)->Calls Tryz.prog 75 #[.pointer (some ⟨b,0,none⟩)] w' fun r w''=>r = .returned (.agg #[.int .i64 (kn (Sp.tokCl s (pos s i))), .int .i64 (Sp.tokAt s (pos s i):Nat), .string wd])/\Below (w.alloc (.cells #[.int .i64 0, .nilIface] 244)).heap.size (w.alloc (.cells #[.int .i64 0, .nilIface] 244)) w''):=fun w' e=>by subst e;exact PK
 clear h tc hi PK hex
 generalize kn (Sp.tokCl s (pos s i))=kk at *
 generalize Sp.tokAt s (pos s i)=aa at *
 have hfd:=tokF1
 go_enter Tryz.func129,Tryz.ntmps129
 go_wp2_with fail
 refine (HPK.out _ rfl).mono ?_
 clear HPK
 rintro r w1 ⟨rfl,hb1⟩
 generalize w.alloc (.cells #[.int .i64 0, .nilIface] 244)=w0 at *
 have HP1:=hid (HH.out.below hb1)
 have HK1:Hid (Kept b w w1):=HK0.out.trans (Kept.below hb1)
 have HB1:=hid (HB0.out.below hb1)
 clear hb1 HH HK0 HB0
 go_wp2_with fail
 refine (expect_any HP1.out z hf).mono ?_
 rintro r w2 ⟨rfl,hp2,hk2⟩
 have HP2:=hid hp2
 have HK2:=hid (HK1.out.trans hk2)
 have HB2:Hid (Bk w2 w.heap.size [.int .i64 0, .nilIface]):=HB1.out.kept hk2 (by omega)
 clear hp2 hk2 HB1 HP1 HK1
 go_wp2_with fail
 refine (HEX.out _ HP2.out).mono ?_
 rintro r w3 ⟨v3,rfl,hp3,hk3,hi3,hr3⟩
 have HP3:=hid hp3
 have HK3:=hid (HK2.out.trans hk3)
 have HI3:=hid hi3
 have HR3:=hid hr3
 have hB3:=HB2.out.kept hk3 (by omega)
 have hz2:w.heap.size+1<=w2.heap.size:=HB2.out.lt
 have c0:=hB3.c 0 (by decide)
 have c1:=hB3.c 1 (by decide)
 have f0:=hB3.f 0
 have f1:=hB3.f 1
 simp only [List.getElem_cons_zero,List.getElem_cons_succ] at c0 c1
 have hv3:=hi3.cells
 unfold Value.cells at hv3
 have hst3:=fun a m w=>hi3.st a m w
 clear hp3 hk3 hi3 hr3 hB3
 go_wp2_with fail
 exact bodyPost_ret (v := .agg #[.int .i64 aa,v3]) (by simp [results,Tryz.results129,go_sem, *]) rfl ⟨_,rfl,(HP3.out.put w.heap.size 0 (by omega) (by omega) _).put w.heap.size 1 (by omega) (by omega) _,(HK3.out.setNew (by simp) _).setNew (by simp) _,⟨_,_,rfl,HI3.out⟩,fun hl=>⟨v3,by rw [HTK.out (Sp.live_must (Sp.live_run hl))],HI3.out,by
  refine Rp.wide _ _ _ _ _ _ ((HR3.out hl).frame (by simp [World.setCell]) _ _ _ _ (fun k h1 h2=>?_) (fun _ _ _ _ e=>absurd e (HI3.out.noSl _ _ _))) hz2 (by simp [World.setCell])
  rw [Below.heap_setCell _ _ _ _ (by simp;omega),Below.heap_setCell _ _ _ _ (by simp;omega)]⟩⟩
def clT (s:Sp.Bs) (n d:Nat) (z:Sp.Bs) (σ:Sp.St):Sp.St:=if σ.is s z then Sp.run s n .expr d (σ.step s) else σ
def clN (s:Sp.Bs) (n d:Nat) (z:Sp.Bs) (σ:Sp.St):Sp.Nd:=if σ.is s z then .clause (σ.at_ s) (Sp.tr s n .expr d .nil (σ.step s)) else .none
theorem must_yes {s:Sp.Bs} {z:Sp.Bs} {σ:Sp.St} (h:σ.is s z=true):σ.must s z=σ.step s:=by rw [Sp.St.must,h];rfl
theorem clauseIfAny_any {b c cap len:Nat} {s:Sp.Bs} {n d:Nat} {σ:Sp.St} {w:World} (h:PS b c cap len s d σ w) (z:Sp.Bs) (hf:z∈fixd)
  (hex:σ.is s z=true->∀ w',PS b c cap len s d (σ.step s) w'->Calls Tryz.prog 175 #[.pointer (some ⟨b,0,none⟩)] w' (PostV b c cap len s d (Sp.run s n .expr d (σ.step s)) w' IsIf fun w'' v=>Rp w'' (Sp.tr s n .expr d .nil (σ.step s)) w'.heap.size w''.heap.size v)) :
  Calls Tryz.prog 81 #[.pointer (some ⟨b,0,none⟩), .string ⟨z.toArray⟩] w (PostV b c cap len s d (clT s n d z σ) w IsPt fun w' v=>Rp w' (clN s n d z σ) w.heap.size w'.heap.size v):=by
 have hbw:=h.lb
 have HH:=hid h
 clear h
 cases hs:σ.is s z
 ·have HV:Hid (clT s n d z σ=σ/\clN s n d z σ = .none):=⟨by rw [clT,hs];rfl,by rw [clN,hs];rfl⟩
  clear hex
  go_enter Tryz.func81,Tryz.ntmps81
  go_wp2_with fail
  refine (sees1 HH.out z hf).mono ?_
  rintro r w1 ⟨rfl,hp1,hk1⟩
  rw [hs]
  have HP1:=hid hp1
  have HK1:=hid hk1
  clear hp1 hk1
  go_wp2_with fail
  go_ret
  exact ⟨_,rfl,by rw [HV.out.1];exact HP1.out,HK1.out,⟨_,rfl⟩,fun _=>by rw [HV.out.2];exact ⟨HK1.out.size,rfl⟩⟩
 ·have HV:Hid (clT s n d z σ=Sp.run s n .expr d (σ.step s)/\clN s n d z σ = .clause (σ.at_ s) (Sp.tr s n .expr d .nil (σ.step s))):=⟨by rw [clT,hs];rfl,by rw [clN,hs];rfl⟩
  have HM:Hid (σ.must s z=σ.step s):=must_yes hs
  have HEX:Hid (∀ w',PS b c cap len s d (σ.must s z) w'->Calls Tryz.prog 175 #[.pointer (some ⟨b,0,none⟩)] w' (PostV b c cap len s d (Sp.run s n .expr d (σ.must s z)) w' IsIf fun w'' v=>Rp w'' (Sp.tr s n .expr d .nil (σ.must s z)) w'.heap.size w''.heap.size v)):=by rw [must_yes hs];exact hex hs
  clear hex
  go_enter Tryz.func81,Tryz.ntmps81
  go_wp2_with fail
  refine (sees1 HH.out z hf).mono ?_
  rintro r w1 ⟨rfl,hp1,hk1⟩
  rw [hs]
  have HP1:=hid hp1
  have HK1:=hid hk1
  clear hp1 hk1
  go_wp2_with fail
  refine (clause_any (n:=n) HP1.out z hf HEX.out).mono ?_
  rw [HM.out]
  rintro r w2 ⟨v2,rfl,hp2,hk2,⟨a2,x2,rfl,hi2⟩,hr2⟩
  have HP2:=hid hp2
  have HK2:=hid hk2
  have HI2:=hid hi2
  have HR2:Hid ((Sp.run s n .expr d (σ.step s)).isLive=true->a2=(σ.at_ s:Nat)/\Rp w2 (Sp.tr s n .expr d .nil (σ.step s)) (w1.heap.size+1) w2.heap.size x2):=fun hl=>by
   obtain ⟨x,e,_,r⟩:=hr2 hl
   simp only [Value.agg.injEq] at e
   have e0:=congrArg (fun x:Array Value=>x[0]?) e
   have e1:=congrArg (fun x:Array Value=>x[1]?) e
   simp at e0 e1
   subst e0 e1
   exact ⟨rfl,r⟩
  have hv2:=hi2.cells
  unfold Value.cells at hv2
  have hst2:=fun a m w=>hi2.st a m w
  clear hp2 hk2 hi2 hr2
  go_wp2_with fail
  go_ret
  refine ⟨_,rfl,by rw [HV.out.1];exact HP2.out.alloc _,(HK1.out.trans HK2.out).alloc _,⟨_,rfl⟩,fun hl=>?_⟩
  rw [HV.out.1] at hl
  rw [HV.out.2]
  obtain ⟨e,r⟩:=HR2.out hl
  subst e
  have hz1:=HK1.out.size
  have hz2:=HK2.out.size
  exact ⟨w2.heap.size,x2,w1.heap.size+1,w2.heap.size,rfl,by omega,by simp,by have:=Rp.le _ _ _ _ r;unfold Sub;simp;omega,(Bk.new w2 _ _).at_,HI2.out.noSl,r.keptN HI2.out.noSl ((Kept.refl b w2).alloc _) (by omega) (Nat.le_refl _)⟩
def IsAr (v:Value):Prop:=∃ a x t y,v = .agg #[.int .i64 a,x, .int .i64 t,y]/\IsIf x/\IsIf y
theorem Bk.fill4 {w:World} {q:Nat} {x y z u:Value} (h:Bk w q [x,y,z,u]) (x' y' z' u' : Value):Bk ((((w.setCell ⟨q,0,none⟩ x').setCell ⟨q,1,none⟩ y').setCell ⟨q,2,none⟩ z').setCell ⟨q,3,none⟩ u') q [x',y',z',u']:=by
 have c0:=h.k0
 have c1:=h.k1
 have c2:=h.k2
 have c3:=h.k3
 have lt:=h.lt
 have F:Hid (∀ j,w.frozen? ⟨q,j,none⟩=false):=h.f
 refine ⟨by simpa [World.setCell] using h.lt,?_,fun j=>?_⟩
 ·intro j hj
  match j,hj with
  | 0,_=>clear F h;go_simp
  | 1,_=>clear F h;go_simp
  | 2,_=>clear F h;go_simp
  | 3,_=>clear F h;go_simp
 ·have f:=F.out j
  clear F h
  go_simp
theorem agg2 {a c:Int} {x y:Value} (h:Value.agg #[.int .i64 a,x] = .agg #[.int .i64 c,y]):a=c/\x=y:=by
 simp only [Value.agg.injEq] at h
 have e0:=congrArg (fun x:Array Value=>x[0]?) h
 have e1:=congrArg (fun x:Array Value=>x[1]?) h
 simp at e0 e1
 exact ⟨e0,e1⟩
theorem arm_any {b c cap len:Nat} {s:Sp.Bs} {n m d:Nat} {σ σ1:Sp.St} {w:World} (h:PS b c cap len s d σ w) (hσ:Sp.run s n .expr d (σ.must s [119,104,101,110])=σ1)
  (hw:∀ w',PS b c cap len s d (σ.must s [119,104,101,110]) w'->Calls Tryz.prog 175 #[.pointer (some ⟨b,0,none⟩)] w' (PostV b c cap len s d (Sp.run s n .expr d (σ.must s [119,104,101,110])) w' IsIf fun w'' v=>Rp w'' (Sp.tr s n .expr d .nil (σ.must s [119,104,101,110])) w'.heap.size w''.heap.size v))
  (ht:∀ w',PS b c cap len s d (σ1.must s [116,104,101,110]) w'->Calls Tryz.prog 175 #[.pointer (some ⟨b,0,none⟩)] w' (PostV b c cap len s d (Sp.run s m .expr d (σ1.must s [116,104,101,110])) w' IsIf fun w'' v=>Rp w'' (Sp.tr s m .expr d .nil (σ1.must s [116,104,101,110])) w'.heap.size w''.heap.size v)) :
  Calls Tryz.prog 353 #[.pointer (some ⟨b,0,none⟩)] w (PostV b c cap len s d (Sp.run s m .expr d (σ1.must s [116,104,101,110])) w IsAr fun w' v=>∃ x y l2,v = .agg #[.int .i64 (σ.at_ s:Nat),x, .int .i64 (σ1.at_ s:Nat),y]/\IsIf x/\IsIf y/\Rp w' (Sp.tr s n .expr d .nil (σ.must s [119,104,101,110])) (w.heap.size+1) l2 x/\Rp w' (Sp.tr s m .expr d .nil (σ1.must s [116,104,101,110])) l2 w'.heap.size y):=by
 have hbw:=h.lb
 have hcw:=h.lc
 have HW:=hid hw
 have HT:=hid ht
 have HS:=hid hσ
 have HH:Hid (PS b c cap len s d σ (w.alloc (.cells #[.int .i64 0, .nilIface, .int .i64 0, .nilIface] 407))):=h.alloc _
 have HK0:Hid (Kept b w (w.alloc (.cells #[.int .i64 0, .nilIface, .int .i64 0, .nilIface] 407))):=(Kept.refl b w).alloc _
 have HB0:Hid (Bk (w.alloc (.cells #[.int .i64 0, .nilIface, .int .i64 0, .nilIface] 407)) w.heap.size [.int .i64 0, .nilIface, .int .i64 0, .nilIface]):=Bk.new _ _ _
 have hz0:(w.alloc (.cells #[.int .i64 0, .nilIface, .int .i64 0, .nilIface] 407)).heap.size=w.heap.size+1:=by simp
 clear h hw ht hσ
 go_enter Tryz.func353,Tryz.ntmps353
 go_wp2_with fail
 generalize w.alloc (.cells #[.int .i64 0, .nilIface, .int .i64 0, .nilIface] 407)=w0 at *
 refine (clause_any (n:=n) HH.out [119,104,101,110] (by decide) HW.out).mono ?_
 rw [HS.out]
 rintro r w1 ⟨v1,rfl,hp1,hk1,⟨a1,x1,rfl,hi1⟩,hr1⟩
 have HP1:=hid hp1
 have HK1:=hid hk1
 have HB1:Hid (Bk w1 w.heap.size [.int .i64 0, .nilIface, .int .i64 0, .nilIface]):=HB0.out.kept hk1 (by omega)
 have HI1:=hid hi1
 have HR1:Hid (σ1.isLive=true->a1=(σ.at_ s:Nat)/\Rp w1 (Sp.tr s n .expr d .nil (σ.must s [119,104,101,110])) (w0.heap.size+1) w1.heap.size x1):=fun hl=>by
  obtain ⟨x,e,_,r⟩:=hr1 hl
  obtain ⟨e0,e1⟩:=agg2 e
  subst e0 e1
  exact ⟨rfl,r⟩
 have hz1:=hk1.size
 clear hp1 hk1 hi1 hr1 HH
 go_wp2_with fail
 refine (clause_any (n:=m) HP1.out [116,104,101,110] (by decide) HT.out).mono ?_
 rintro r w2 ⟨v2,rfl,hp2,hk2,⟨a2,x2,rfl,hi2⟩,hr2⟩
 have HP2:=hid hp2
 have HK2:=hid hk2
 have hB2:=HB1.out.kept hk2 (by omega)
 have HI2:=hid hi2
 have HR2:Hid ((Sp.run s m .expr d (σ1.must s [116,104,101,110])).isLive=true->a2=(σ1.at_ s:Nat)/\Rp w2 (Sp.tr s m .expr d .nil (σ1.must s [116,104,101,110])) (w1.heap.size+1) w2.heap.size x2):=fun hl=>by
  obtain ⟨x,e,_,r⟩:=hr2 hl
  obtain ⟨e0,e1⟩:=agg2 e
  subst e0 e1
  exact ⟨rfl,r⟩
 have hz2:=hk2.size
 have c0:=hB2.c 0 (by decide)
 have c1:=hB2.c 1 (by decide)
 have c2:=hB2.c 2 (by decide)
 have c3:=hB2.c 3 (by decide)
 have f0:=hB2.f 0
 have f1:=hB2.f 1
 have f2:=hB2.f 2
 have f3:=hB2.f 3
 simp only [List.getElem_cons_zero,List.getElem_cons_succ] at c0 c1 c2 c3
 have hst1:=fun a m w=>HI1.out.st a m w
 have hst2:=fun a m w=>hi2.st a m w
 clear hp2 hk2 hi2 hr2 hB2
 go_wp2_with fail
 refine bodyPost_ret (v := .agg #[.int .i64 a1,x1, .int .i64 a2,x2]) (by simp [results,Tryz.results353,go_sem, *]) rfl ⟨_,rfl,(((HP2.out.put w.heap.size 0 (by omega) (by omega) _).put w.heap.size 1 (by omega) (by omega) _).put w.heap.size 2 (by omega) (by omega) _).put w.heap.size 3 (by omega) (by omega) _,(((((HK0.out.trans HK1.out).trans HK2.out).setNew (by simp) _).setNew (by simp) _).setNew (by simp) _).setNew (by simp) _,⟨_,_,_,_,rfl,HI1.out,HI2.out⟩,fun hl=>?_⟩
 obtain ⟨e2,r2⟩:=HR2.out hl
 obtain ⟨e1,r1⟩:=HR1.out (Sp.live_must (Sp.live_run hl))
 subst e1 e2
 have hset:∀ k,k≠w.heap.size->((((w2.setCell ⟨w.heap.size,0,none⟩ (.int .i64 (σ.at_ s:Nat))).setCell ⟨w.heap.size,1,none⟩ x1).setCell ⟨w.heap.size,2,none⟩ (.int .i64 (σ1.at_ s:Nat))).setCell ⟨w.heap.size,3,none⟩ x2).heap[k]?=w2.heap[k]?:=fun k hk=>by
  rw [Below.heap_setCell _ _ _ _ hk,Below.heap_setCell _ _ _ _ hk,Below.heap_setCell _ _ _ _ hk,Below.heap_setCell _ _ _ _ hk]
 refine ⟨x1,x2,w1.heap.size,rfl,HI1.out,HI2.out,?_,?_⟩
 ·exact Rp.wide _ _ _ _ _ _ ((r1.keptN HI1.out.noSl HK2.out (by omega) (Nat.le_refl _)).frame (by simp [World.setCell]) _ _ _ _ (fun k h1 h2=>hset k (by omega)) (fun _ _ _ _ e=>absurd e (HI1.out.noSl _ _ _))) (by omega) (Nat.le_refl _)
 ·exact Rp.wide _ _ _ _ _ _ (r2.frame (by simp [World.setCell]) _ _ _ _ (fun k h1 h2=>hset k (by omega)) (fun _ _ _ _ e=>absurd e (HI2.out.noSl _ _ _))) (by omega) (by simp [World.setCell])
attribute [local go_sem ↓] Go.wp_at_zero Go.wp_at_succ
abbrev ArmT:=Nat×Sp.Nd×Nat×Sp.Nd
def pushA (x:ArmT):Sp.Nd->Sp.Nd
 | .kase l e => .kase (.arms x.1 x.2.1 x.2.2.1 x.2.2.2 l) e
 | y=>y
def kpush (l:List ArmT) (nd:Sp.Nd):Sp.Nd:=l.foldr pushA nd
def aapp (l:List ArmT):Sp.Nd:=l.foldr (fun x r => .arms x.1 x.2.1 x.2.2.1 x.2.2.2 r) .nil
theorem kpush_kase:∀ (l:List ArmT) (e:Sp.Nd),kpush l (.kase .nil e) = .kase (aapp l) e
 | [],_=>rfl
 | x::l,e=>by show pushA x (kpush l (.kase .nil e))=_;rw [kpush_kase l e];rfl
theorem kpush_snoc (l:List ArmT) (x:ArmT) (nd:Sp.Nd):kpush (l ++ [x]) nd=kpush l (pushA x nd):=by simp [kpush]
def restS (s:Sp.Bs) (m d:Nat) (σ:Sp.St):Sp.St:=if σ.is s [119,104,101,110] then Sp.run s m .caseW d σ else if σ.is s [101,108,115,101] then Sp.run s m .caseE d σ else σ
def restN (s:Sp.Bs) (m d:Nat) (σ:Sp.St):Sp.Nd:=if σ.is s [119,104,101,110] then Sp.tr s m .caseW d .nil σ else if σ.is s [101,108,115,101] then .kase .nil (Sp.tr s m .caseE d .nil σ) else .kase .nil .none
def armS (s:Sp.Bs) (m d:Nat) (σ:Sp.St):Sp.St:=Sp.run s m .expr d ((Sp.run s (m+1) .expr d (σ.must s [119,104,101,110])).must s [116,104,101,110])
def armN (s:Sp.Bs) (m d:Nat) (σ:Sp.St):ArmT:=(σ.at_ s,Sp.tr s (m+1) .expr d .nil (σ.must s [119,104,101,110]),(Sp.run s (m+1) .expr d (σ.must s [119,104,101,110])).at_ s,Sp.tr s m .expr d .nil ((Sp.run s (m+1) .expr d (σ.must s [119,104,101,110])).must s [116,104,101,110]))
theorem caseW_eq (s:Sp.Bs) (m d:Nat) (σ:Sp.St):Sp.run s (m+2) .caseW d σ=restS s m d (armS s m d σ):=by
 have e1:Sp.run s (m+2) .caseW d σ=Sp.run s (m+1) .caseT d (Sp.run s (m+1) .expr d (σ.must s [119,104,101,110])):=by conv=>lhs;rw [Sp.run]
 have e2:∀ τ,Sp.run s (m+1) .caseT d τ=restS s m d (Sp.run s m .expr d (τ.must s [116,104,101,110])):=fun τ=>by
  conv=>lhs;rw [Sp.run]
  rfl
 rw [e1,e2,armS]
theorem pushArm_eq (wa ta:Nat) (e t y:Sp.Nd):Sp.pushArm (.clause wa e) (.clause ta t) y=pushA (wa,e,ta,t) y:=by cases y <;> rfl
theorem caseWN_eq (s:Sp.Bs) (m d:Nat) (σ:Sp.St):Sp.tr s (m+2) .caseW d .nil σ=pushA (armN s m d σ) (restN s m d (armS s m d σ)):=by
 have e1:Sp.tr s (m+2) .caseW d .nil σ=Sp.tr s (m+1) .caseT d (.clause (σ.at_ s) (Sp.tr s (m+1) .expr d .nil (σ.must s [119,104,101,110]))) (Sp.run s (m+1) .expr d (σ.must s [119,104,101,110])):=by conv=>lhs;rw [Sp.tr]
 have e2:∀ a τ,Sp.tr s (m+1) .caseT d a τ=(if (Sp.run s m .expr d (τ.must s [116,104,101,110])).is s [119,104,101,110] then Sp.pushArm a (.clause (τ.at_ s) (Sp.tr s m .expr d .nil (τ.must s [116,104,101,110]))) (Sp.tr s m .caseW d .nil (Sp.run s m .expr d (τ.must s [116,104,101,110]))) else if (Sp.run s m .expr d (τ.must s [116,104,101,110])).is s [101,108,115,101] then .kase (Sp.arm a (.clause (τ.at_ s) (Sp.tr s m .expr d .nil (τ.must s [116,104,101,110]))) .nil) (Sp.tr s m .caseE d .nil (Sp.run s m .expr d (τ.must s [116,104,101,110]))) else .kase (Sp.arm a (.clause (τ.at_ s) (Sp.tr s m .expr d .nil (τ.must s [116,104,101,110]))) .nil) .none):=fun a τ=>by rw [Sp.tr]
 rw [e1,e2,armS,armN,restN]
 split
 ·exact pushArm_eq _ _ _ _ _
 ·split <;> rfl
theorem rest_clT (s:Sp.Bs) (m d:Nat) (σ:Sp.St) (h:σ.is s [119,104,101,110]=false):restS s (m+1) d σ=clT s m d [101,108,115,101] σ:=by
 rw [restS,h,clT]
 simp only [Bool.false_eq_true,if_false]
 split
 ·rename_i he;rw [Sp.run,must_yes he]
 ·rfl
theorem rest_clN (s:Sp.Bs) (m d:Nat) (σ:Sp.St) (h:σ.is s [119,104,101,110]=false):restN s (m+1) d σ = .kase .nil (clN s m d [101,108,115,101] σ):=by
 rw [restN,h,clN]
 simp only [Bool.false_eq_true,if_false]
 split
 ·rename_i he;rw [Sp.tr,must_yes he]
 ·rfl
theorem rem_armS (s:Sp.Bs) (m d:Nat) (σ:Sp.St):Sp.rem s (armS s m d σ)<=Sp.rem s (σ.must s [119,104,101,110]):=
 Nat.le_trans (Sp.rem_run _ _ _ _ _) (Nat.le_trans (Sp.rem_must _ _ _) (Sp.rem_run _ _ _ _ _))
theorem live_armS {s:Sp.Bs} {m d:Nat} {σ:Sp.St} (h:(armS s m d σ).isLive=true):σ.isLive=true:=
 Sp.live_must (Sp.live_run (Sp.live_must (Sp.live_run h)))
def AmR (w:World) (g q:Nat):List ArmT->List Value->Nat->Nat->Prop
 | [], [],lo,hi=>lo<=hi
 | (wa,e,ta,t)::ns,a::x::c::y::xs,lo,hi=>a = .int .i64 (wa:Int)/\c = .int .i64 (ta:Int)/\∃ m1 m2 m3,(lo<=m1/\m1<=m2/\m2<=m3/\m3<=hi)/\¬ (m1<=g/\g<m3)/\¬ (m1<=q/\q<m3)/\NoSl x/\Rp w e m1 m2 x/\NoSl y/\Rp w t m2 m3 y/\AmR w g q ns xs m3 hi
 | _,_,_,_=>False
theorem AmR.le {w:World} {g q:Nat} : ∀ {ns:List ArmT} {xs:List Value} {lo hi:Nat},AmR w g q ns xs lo hi->lo<=hi:=by
 intro ns xs lo hi h
 match ns,xs,h with
 | [], [],h=>exact h
 | (_,_,_,_)::_,_::_::_::_::_,h=>obtain ⟨_,_,_,_,_,hS,_⟩:=h;omega
theorem AmR.snoc {w:World} {g q:Nat} {wa ta:Nat} {e t:Sp.Nd} {x y:Value} {m1 m2 m3:Nat} (h1:m1<=m2) (h2:m2<=m3) (hg:¬ (m1<=g/\g<m3)) (hq:¬ (m1<=q/\q<m3)) (n1:NoSl x) (r1:Rp w e m1 m2 x) (n2:NoSl y) (r2:Rp w t m2 m3 y) :
  ∀ {ns:List ArmT} {xs:List Value} {lo hi:Nat},AmR w g q ns xs lo hi->hi<=m1->AmR w g q (ns ++ [(wa,e,ta,t)]) (xs ++ [.int .i64 (wa:Int),x, .int .i64 (ta:Int),y]) lo m3:=by
 intro ns
 induction ns with
 | nil=>
  intro xs lo hi h hh
  match xs,h with
  | [],h=>exact ⟨rfl,rfl,m1,m2,m3,by have:lo<=hi:=h;omega,hg,hq,n1,r1,n2,r2,Nat.le_refl _⟩
 | cons z ns ih=>
  intro xs lo hi h hh
  obtain ⟨wa',e',ta',t'⟩:=z
  match xs,h with
  | a::x'::c::y'::xs,h=>
   obtain ⟨ea,ec,a1,a2,a3,hS,h3,h4,h5,h6,h7,h8,h9⟩:=h
   have:=h9.le
   exact ⟨ea,ec,a1,a2,a3,by omega,h3,h4,h5,h6,h7,h8,ih h9 hh⟩
theorem AmR.move {w:World} {g g' q:Nat} : ∀ {ns:List ArmT} {xs:List Value} {lo hi:Nat},AmR w g q ns xs lo hi->hi<=g'->AmR w g' q ns xs lo hi:=by
 intro ns
 induction ns with
 | nil=>intro xs lo hi h _;match xs,h with | [],h=>exact h
 | cons z ns ih=>
  intro xs lo hi h hh
  obtain ⟨wa',e',ta',t'⟩:=z
  match xs,h with
  | a::x'::c::y'::xs,h=>
   obtain ⟨ea,ec,a1,a2,a3,hS,h3,h4,h5,h6,h7,h8,h9⟩:=h
   exact ⟨ea,ec,a1,a2,a3,hS,by omega,h4,h5,h6,h7,h8,ih h9 hh⟩
theorem AmR.frame {w w' : World} {g q:Nat} (hs:w.heap.size<=w'.heap.size):∀ {ns:List ArmT} {xs:List Value} {lo hi:Nat},AmR w g q ns xs lo hi->(∀ k,lo<=k->k<hi->k≠g->k≠q->w'.heap[k]?=w.heap[k]?)->AmR w' g q ns xs lo hi:=by
 intro ns
 induction ns with
 | nil=>intro xs lo hi h _;match xs,h with | [],h=>exact h
 | cons z ns ih=>
  intro xs lo hi h hk
  obtain ⟨wa',e',ta',t'⟩:=z
  match xs,h with
  | a::x'::c::y'::xs,h=>
   obtain ⟨ea,ec,a1,a2,a3,hS,h3,h4,h5,h6,h7,h8,h9⟩:=h
   have:=h9.le
   exact ⟨ea,ec,a1,a2,a3,hS,h3,h4,h5,h6.frame hs _ _ _ _ (fun k p1 p2=>hk k (by omega) (by omega) (by omega) (by omega)) (fun _ _ _ _ e=>absurd e (h5 _ _ _)),h7,h8.frame hs _ _ _ _ (fun k p1 p2=>hk k (by omega) (by omega) (by omega) (by omega)) (fun _ _ _ _ e=>absurd e (h7 _ _ _)),ih h9 fun k p1 p2 p3 p4=>hk k (by omega) p2 p3 p4⟩
theorem AmR.rp {w:World} {g q:Nat} (hg:g<w.heap.size) (cap:Nat):∀ {ns:List ArmT} {xs:List Value} {lo hi off:Nat},AmR w g q ns xs lo hi->(∀ j u,xs[j]?=some u->w.cell? ⟨g,off+j,none⟩=some u)->Rp w (aapp ns) lo hi (.slice (some ⟨g,off,none⟩) ns.length cap):=by
 intro ns
 induction ns with
 | nil=>intro xs lo hi off h _;match xs,h with | [],h=>exact ⟨h,_,_,rfl⟩
 | cons z ns ih=>
  intro xs lo hi off h hc
  obtain ⟨wa',e',ta',t'⟩:=z
  match xs,h with
  | a::x'::c::y'::xs,h=>
   obtain ⟨ea,ec,a1,a2,a3,hS,h3,h4,h5,h6,h7,h8,h9⟩:=h
   subst ea ec
   refine ⟨g,off,ns.length,cap,x',y',a1,a2,a3,rfl,hg,by unfold Sub;omega,by unfold Sub;omega,by simpa using hc 0 _ rfl,hc 1 _ rfl,hc 2 _ rfl,hc 3 _ rfl,h5,h6,h7,h8,?_⟩
   exact ih h9 fun j u hj=>by have:=hc (j+4) u (by simpa using hj);rw [show off+4+j=off+(j+4) by omega];exact this
theorem infoArm:(Tryz.prog.info? 407).map (fun i=>(i.zero,i.size,i.bytes))=some (some (.agg #[.int .i64 0, .nilIface, .int .i64 0, .nilIface]),4,48):=by kernel_rfl
end Go.Proofs.YtgnncnhkgmhngaaGreatDoor
