import Derived.Test.YtgnncnhkgmhngaaGreatDoorJ07
set_option maxHeartbeats 2000000
namespace Go.Proofs.YtgnncnhkgmhngaaGreatDoor
open Go.RowKit
theorem operation_any (kk aa:Int) (wd:ByteArray) (a:Option Addr) (n m:Nat) (w:World) :
  Calls Tryz.prog 252 #[.agg #[.int .i64 kk, .int .i64 aa, .string wd], .slice a n m] w fun r w'=>r = .returned (.iface 363 (.pointer (some ⟨w.heap.size+1,0,none⟩)))/\w'=(w.alloc (.cells #[.int .i64 kk, .int .i64 aa, .string wd] 155)).alloc (.cells #[.string wd, .int .i64 aa, .slice a n m] 379):=by
 go_enter Tryz.func252,Tryz.ntmps252
 go_wp2_with fail
 go_ret
 exact ⟨rfl,rfl⟩
def Sd (b c cap len:Nat) (s:Sp.Bs) (n:Nat) (nt:Sp.Nt) (Sh:Value->Prop) (f:FuncId):Prop:=
 ∀ (d:Nat) (σ:Sp.St) (w:World),d+n<=1000000->32*Sp.rem s σ+Sp.lev nt<=n->PS b c cap len s d σ w->
  Calls Tryz.prog f #[.pointer (some ⟨b,0,none⟩)] w (PostV b c cap len s d (Sp.run s n nt d σ) w Sh fun w' v=>Rp w' (Sp.tr s n nt d .nil σ) w.heap.size w'.heap.size v)
def TB (s:Sp.Bs) (w:World) (q:Nat) (σ:Sp.St):Prop:=
 ∃ (kk:Int) (aa:Nat) (wd:ByteArray),Bk w q [.int .i64 kk, .int .i64 (aa:Int), .string wd]/\(σ.isLive=true->aa=σ.at_ s/\((∀ e,σ = .live e->Sp.tokCl s e ≠ .bad)->wd=bz (σ.word s)))
theorem TB.of {c:Nat} {s:Sp.Bs} {len i:Nat} {σ:Sp.St} {w w' : World} {wd:ByteArray} {q:Nat} {kk:Int} {aa:Nat} (hi:IX s len i σ) (tc:TC c s w i wd) (hb:Bk w' q [.int .i64 kk, .int .i64 (aa:Int), .string wd]) (ha:Sp.tokAt s (pos s i)=aa):TB s w' q σ:=
 ⟨kk,aa,wd,hb,fun hl=>by have h:=tok_live hi tc hl;exact ⟨ha ▸ h.1,h.2⟩⟩
theorem TB.lt {s:Sp.Bs} {w:World} {q:Nat} {σ:Sp.St} (h:TB s w q σ):q<w.heap.size:=by
 obtain ⟨_,_,_,hb,_⟩:=h;exact hb.lt
theorem rem_sees {s:Sp.Bs} {zs:List Sp.Bs} {σ:Sp.St} (h:seesOne s zs σ=true):Sp.rem s (σ.step s)<Sp.rem s σ:=by
 unfold seesOne at h
 obtain ⟨z,_,hz⟩:=List.any_eq_true.1 h
 exact Sp.rem_step_lt hz
theorem bs2 {v u:Value} (h:IsIf v) (k:IsIf u) (w:World):(Instr.buildSlice 237 2 #[(0,v),(1,u)]).run Tryz.prog w = .ok (.slice (some ⟨w.heap.size,0,none⟩) 2 2) (w.alloc (.cells #[v,u] 242)):=by
 rcases h with rfl | ⟨t,x,rfl⟩ <;> rcases k with rfl | ⟨t',x',rfl⟩ <;> kernel_rfl
theorem bs1 {v:Value} (h:IsIf v) (w:World):(Instr.buildSlice 237 1 #[(0,v)]).run Tryz.prog w = .ok (.slice (some ⟨w.heap.size,0,none⟩) 1 1) (w.alloc (.cells #[v] 242)):=by
 rcases h with rfl | ⟨t,x,rfl⟩ <;> kernel_rfl
theorem IsIf.cells {v:Value} (h:IsIf v):v.cells=#[v]:=by
 rcases h with rfl | ⟨t,x,rfl⟩ <;> rfl
theorem Rp.op2 {W:World} {x y:Sp.Nd} {lo h1 l2 h2 blk bb hi:Nat} {v u:Value} {wd:Sp.Bs} {a:Nat} (r1:Rp W x lo h1 v) (r2:Rp W y l2 h2 u) (n1:NoSl v) (n2:NoSl u) (e1:h1<=l2) (e2:h2<=blk) (e3:blk<bb) (e4:bb<hi) (k:At W blk [v,u]) (kb:At W bb [.string (bz wd), .int .i64 (a:Int), .slice (some ⟨blk,0,none⟩) 2 2]) :
  Rp W (.op wd a (.cons x (.cons y .nil))) lo hi (.iface 363 (.pointer (some ⟨bb,0,none⟩))):=by
 have l1:=Rp.le _ _ _ _ r1
 have l3:=Rp.le _ _ _ _ r2
 refine ⟨bb,_,lo,blk,rfl,by omega,e4,by unfold Sub;omega,kb,fun blk' off n c e=>?_,?_⟩
 ·injection e with e1 e2 e3;injection e1 with e1;injection e1 with e1;subst e1;omega
 ·refine ⟨blk,0,1,2,v,lo,h1,rfl,k.1,by unfold Sub;omega,k.2 0 (by simp),n1,r1,?_⟩
  exact ⟨blk,1,0,2,u,l2,h2,rfl,k.1,by unfold Sub;omega,k.2 1 (by simp),n2,r2,by omega,_,_,rfl⟩
theorem Rp.keptN {b:Nat} {w w' : World} {nd:Sp.Nd} {lo hi:Nat} {x:Value} (h:Rp w nd lo hi x) (hx:NoSl x) (k:Kept b w w') (hb:b<lo) (hhi:hi<=w.heap.size):Rp w' nd lo hi x:=h.kept k hb hhi (hx.sin _ _)
theorem Bk.fill3 {w:World} {q:Nat} {x y z:Value} (h:Bk w q [x,y,z]) (x' y' z' : Value):Bk (((w.setCell ⟨q,0,none⟩ x').setCell ⟨q,1,none⟩ y').setCell ⟨q,2,none⟩ z') q [x',y',z']:=by
 have c0:=h.k0
 have c1:=h.k1
 have c2:=h.k2
 have lt:=h.lt
 have F:Hid (∀ j,w.frozen? ⟨q,j,none⟩=false):=h.f
 refine ⟨by simpa [World.setCell] using h.lt,?_,fun j=>?_⟩
 ·intro j hj
  match j,hj with
  | 0,_=>clear F h;go_simp
  | 1,_=>clear F h;go_simp
  | 2,_=>clear F h;go_simp
 ·have f:=F.out j
  clear F h
  go_simp
theorem chain_of {fn:Nat} (hf:fn=214\/fn=253\/fn=324\/fn=331) {b c cap len:Nat} {s:Sp.Bs} {n:Nat} (nt ntL:Sp.Nt) (zs:List Sp.Bs) (hlev:Sp.lev nt<=20)
  (IH:Hid (∀ m,m<=n->Sd b c cap len s m nt IsIf fn))
  (hL:Hid (∀ m d σ,Sp.run s (m+1) ntL d σ=if seesOne s zs σ then Sp.run s m ntL d (Sp.run s m nt d (σ.step s)) else σ))
  (hT:Hid (∀ m d a σ,Sp.tr s (m+1) ntL d a σ=if seesOne s zs σ then Sp.tr s m ntL d (.op (σ.word s) (σ.at_ s) (.cons a (.cons (Sp.tr s m nt d .nil (σ.step s)) .nil))) (Sp.run s m nt d (σ.step s)) else a))
  (d:Nat) (σ:Sp.St) (w:World) (hd:d+n<=1000000) (hm:32*Sp.rem s σ+Sp.lev nt<=n) (hn1:32*Sp.rem s σ+1<=n) (hp:PS b c cap len s d σ w) (q k:Nat) (hq:Words q (zs.map bz) w) (hqb:q≠b) (hk:k=zs.length) :
  Calls Tryz.prog 213 #[.pointer (some ⟨b,0,none⟩), .func (.func fn) #[.pointer (some ⟨b,0,none⟩)] #[], .slice (some ⟨q,0,none⟩) k k] w (PostV b c cap len s d (Sp.run s n ntL d (Sp.run s n nt d σ)) w IsIf fun w' v=>Rp w' (Sp.tr s n ntL d (Sp.tr s n nt d .nil σ) (Sp.run s n nt d σ)) w.heap.size w'.heap.size v):=by
 rcases hf with rfl | rfl | rfl | rfl
 all_goals
  have hr:=Sp.rem_run s n nt d σ
  have hbw:=hp.lb
  have hcw:=hp.lc
  have HP:=hid hp
  have HQ:Hid (∀ w',Kept b w w'->Words q (zs.map bz) w'):=fun w' kk=>⟨Nat.lt_of_lt_of_le hq.1 kk.size,hq.2.1,hq.2.2.1,fun j h=>(kk.cell (p:=⟨q,j,none⟩) hq.1 hqb).trans (hq.2.2.2 j h)⟩
  have HKK:=hid hk
  clear hp hq hk
  go_enter Tryz.func213,Tryz.ntmps213
  go_wp2_with fail
  refine (IH.out n (Nat.le_refl _) d σ _ (by omega) hm HP.out).mono ?_
  rintro r w1 ⟨v1,rfl,hp1,hk1,hi1,hr1⟩
  obtain ⟨i,wd,hi,tc,P⟩:=peek_any hp1
  have HP1:=hid hp1
  have HK1:=hid hk1
  have HI1:=hid hi1
  have HR1:=hid hr1
  have HT1:Hid (IX s len i (Sp.run s n nt d σ)/\TC c s w1 i wd):=⟨hi,tc⟩
  have HPK:=hidc P
  clear hp1 hk1 hi1 hr1 hi tc P HP
  generalize hkk:kn (Sp.tokCl s (pos s i))=kk at HPK
  generalize haa:Sp.tokAt s (pos s i)=aa at HPK
  have HAA:=hid haa
  clear hkk haa
  go_wp2_with fail
  refine (HPK.out _ rfl).mono ?_
  rintro r w2 ⟨rfl,hb2⟩
  have HB2:=hid hb2
  clear hb2 HPK
  go_wp2_with fail
  have HP2:Hid (PS b c cap len s d (Sp.run s n nt d σ) (w2.alloc (.cells #[.int .i64 kk, .int .i64 aa, .string wd] 155))):=(HP1.out.below HB2.out).alloc _
  have HK2:Hid (Kept b w (w2.alloc (.cells #[.int .i64 kk, .int .i64 aa, .string wd] 155))):=(HK1.out.trans (Kept.below HB2.out)).alloc _
  have HT2:Hid (TB s (w2.alloc (.cells #[.int .i64 kk, .int .i64 aa, .string wd] 155)) w2.heap.size (Sp.run s n nt d σ)):=TB.of HT1.out.1 HT1.out.2 (Bk.new _ _ _) HAA.out
  have HR2:Hid ((Sp.run s n nt d σ).isLive=true->∃ hi,hi<=w2.heap.size/\Rp (w2.alloc (.cells #[.int .i64 kk, .int .i64 aa, .string wd] 155)) (Sp.tr s n nt d .nil σ) w.heap.size hi v1):=fun hl=>⟨w1.heap.size,HB2.out.size,((HR1.out hl).kept (Kept.below HB2.out) hbw (Nat.le_refl _) (HI1.out.noSl.sin _ _)).kept ((Kept.refl b _).alloc _) hbw HB2.out.size (HI1.out.noSl.sin _ _)⟩
  have hz2:w.heap.size<=w2.heap.size:=Nat.le_trans HK1.out.size HB2.out.size
  clear HP1 HK1 HT1 HB2 HR1 HAA
  go_loopg [7,8] n (fun gm v p wr=>gm<=n/\∃ (σ' : Sp.St) (nd:Sp.Nd) (q8:Nat),32*Sp.rem s σ'+1<=gm/\p = .pointer (some ⟨q8,0,none⟩)/\w.heap.size<=q8/\Hid (Sp.run s n ntL d (Sp.run s n nt d σ)=Sp.run s gm ntL d σ')/\Hid (Sp.tr s n ntL d (Sp.tr s n nt d .nil σ) (Sp.run s n nt d σ)=Sp.tr s gm ntL d nd σ')/\Hid (PS b c cap len s d σ' wr)/\Hid (Kept b w wr)/\Hid (IsIf v)/\Hid (σ'.isLive=true->∃ hi,hi<=q8/\Rp wr nd w.heap.size hi v)/\Hid (TB s wr q8 σ'))
  case atStart=>exact ⟨Nat.le_refl _,_,_,w2.heap.size,by omega,rfl,hz2,rfl,rfl,HP2.out,HK2.out,HI1.out,HR2.out,HT2.out⟩
  case round=>
   obtain ⟨hmn,σ',nd,q8,hms,rfl,hq8,HR,HRT,HPr,HKr,HIr,HRr,HTr⟩:=hrel
   obtain ⟨m,rfl⟩:∃ m,gk=m+1:=⟨gk - 1,by omega⟩
   have HW:=HQ.out _ HKr.out
   have HWH:=hid HW
   clear HW
   cases hs:seesOne s zs σ'
   ·have HV:Hid (Sp.run s (m+1) ntL d σ'=σ'):=by show _=_;rw [hL.out,hs];rfl
    have HVT:Hid (Sp.tr s (m+1) ntL d nd σ'=nd):=by show _=_;rw [hT.out,hs];rfl
    go_wp2_with fail
    refine (accept_any HPr.out q k zs HWH.out HKK.out).mono ?_
    rintro r w3 ⟨rfl,hp3,hk3⟩
    rw [hs] at hp3
    have HP3:Hid (PS b c cap len s d σ' w3):=hp3
    have HK3:=hid hk3
    clear hp3 hk3
    rw [hs]
    go_wp2_with fail
    go_ret
    refine ⟨_,rfl,by rw [HR.out,HV.out];exact HP3.out,HKr.out.trans HK3.out,HIr.out,fun hl=>?_⟩
    rw [HRT.out,HVT.out]
    rw [HR.out,HV.out] at hl
    obtain ⟨hi,h1,h2⟩:=HRr.out hl
    have hq:=HTr.out.lt
    exact (h2.kept HK3.out hbw (by omega) (HIr.out.noSl.sin _ _)).wide _ _ _ _ _ _ (Nat.le_refl _) (by have:=HK3.out.size;omega)
   ·have HV:Hid (Sp.run s (m+1) ntL d σ'=Sp.run s m ntL d (Sp.run s m nt d (σ'.step s))):=by show _=_;rw [hL.out,hs];rfl
    have HVT:Hid (Sp.tr s (m+1) ntL d nd σ'=Sp.tr s m ntL d (.op (σ'.word s) (σ'.at_ s) (.cons nd (.cons (Sp.tr s m nt d .nil (σ'.step s)) .nil))) (Sp.run s m nt d (σ'.step s))):=by show _=_;rw [hT.out,hs];rfl
    have h1:=rem_sees hs
    have h2:=Sp.rem_run s m nt d (σ'.step s)
    have HNB:Hid (σ'.isLive=true/\∀ e,σ' = .live e->Sp.tokCl s e ≠ .bad):=⟨live_sees hs,not_bad_sees hs⟩
    obtain ⟨kk',aa',wd',hbk,htk⟩:=HTr.out
    have HTK:Hid (aa'=σ'.at_ s/\wd'=bz (σ'.word s)):=⟨(htk HNB.out.1).1,(htk HNB.out.1).2 HNB.out.2⟩
    have HBr:=hbk.lt
    have HBK:=hid hbk
    clear hbk htk HTr
    go_wp2_with fail
    refine (accept_any HPr.out q k zs HWH.out HKK.out).mono ?_
    rintro r w3 ⟨rfl,hp3,hk3⟩
    rw [hs] at hp3
    have HP3:Hid (PS b c cap len s d (σ'.step s) w3):=hp3
    have HK3:=hid hk3
    have hB3:=HBK.out.kept hk3 (by omega)
    have hx:=hB3.lt
    have x0:=hB3.k0
    have x1:=hB3.k1
    have x2:=hB3.k2
    have HB3:=hid hB3
    clear hp3 hk3 hB3 HBK
    rw [hs]
    have hv7:=HIr.out.cells
    unfold Value.cells at hv7
    go_wp2_with fail
    go_region_with (first | ((first | (go_at_call 214;refine (IH.out m (by omega) d _ _ (by omega) (by omega) HP3.out.drew).mono ?_) | (go_at_call 253;refine (IH.out m (by omega) d _ _ (by omega) (by omega) HP3.out.drew).mono ?_) | (go_at_call 324;refine (IH.out m (by omega) d _ _ (by omega) (by omega) HP3.out.drew).mono ?_) | (go_at_call 331;refine (IH.out m (by omega) d _ _ (by omega) (by omega) HP3.out.drew).mono ?_));rintro e w4 ⟨v4,rfl,hp4,hk4,hi4,hr4⟩;have hv4:=hi4.cells;unfold Value.cells at hv4;have hB4:=HB3.out.kept (((Kept.refl b w3).drew).trans hk4) (by omega);have hy:=hB4.lt;have y0:=hB4.k0;have y1:=hB4.k1;have y2:=hB4.k2) | (go_at_call 252;refine (operation_any _ _ _ _ _ _ _).mono ?_;rintro e w5 ⟨rfl,rfl⟩))
    all_goals
     have hs34:=hk4.size
     have hs34' : w3.heap.size<=w4.heap.size:=hs34
     clear hs34
     have hq3:=HB3.out.lt
     have HP5:Hid (PS b c cap len s d (Sp.run s m nt d (σ'.step s)) (((w4.alloc (Obj.cells #[u7,v4] 242)).alloc (Obj.cells #[Value.int IntKind.i64 kk',Value.int IntKind.i64 (aa' : Int),Value.string wd'] 155)).alloc (Obj.cells #[Value.string wd',Value.int IntKind.i64 (aa' : Int),Value.slice (some ⟨w4.heap.size,0,none⟩) 2 2] 379))):=((hp4.alloc _).alloc _).alloc _
     have HK45:Hid (Kept b w4 (((w4.alloc (Obj.cells #[u7,v4] 242)).alloc (Obj.cells #[Value.int IntKind.i64 kk',Value.int IntKind.i64 (aa' : Int),Value.string wd'] 155)).alloc (Obj.cells #[Value.string wd',Value.int IntKind.i64 (aa' : Int),Value.slice (some ⟨w4.heap.size,0,none⟩) 2 2] 379))):=(((Kept.refl b w4).alloc _).alloc _).alloc _
     have HS5:Hid (At (((w4.alloc (Obj.cells #[u7,v4] 242)).alloc (Obj.cells #[Value.int IntKind.i64 kk',Value.int IntKind.i64 (aa' : Int),Value.string wd'] 155)).alloc (Obj.cells #[Value.string wd',Value.int IntKind.i64 (aa' : Int),Value.slice (some ⟨w4.heap.size,0,none⟩) 2 2] 379)) w4.heap.size [u7,v4]/\At (((w4.alloc (Obj.cells #[u7,v4] 242)).alloc (Obj.cells #[Value.int IntKind.i64 kk',Value.int IntKind.i64 (aa' : Int),Value.string wd'] 155)).alloc (Obj.cells #[Value.string wd',Value.int IntKind.i64 (aa' : Int),Value.slice (some ⟨w4.heap.size,0,none⟩) 2 2] 379)) (w4.heap.size+1+1) [Value.string wd',Value.int IntKind.i64 (aa' : Int),Value.slice (some ⟨w4.heap.size,0,none⟩) 2 2]):=⟨(((Bk.new w4 _ _).alloc _).alloc _).at_,by have:=(Bk.new ((w4.alloc (Obj.cells #[u7,v4] 242)).alloc (Obj.cells #[Value.int IntKind.i64 kk',Value.int IntKind.i64 (aa' : Int),Value.string wd'] 155)) #[Value.string wd',Value.int IntKind.i64 (aa' : Int),Value.slice (some ⟨w4.heap.size,0,none⟩) 2 2] 379).at_;simpa using this⟩
     have hz5:(((w4.alloc (Obj.cells #[u7,v4] 242)).alloc (Obj.cells #[Value.int IntKind.i64 kk',Value.int IntKind.i64 (aa' : Int),Value.string wd'] 155)).alloc (Obj.cells #[Value.string wd',Value.int IntKind.i64 (aa' : Int),Value.slice (some ⟨w4.heap.size,0,none⟩) 2 2] 379)).heap.size=w4.heap.size+3:=by simp
     generalize (((w4.alloc (Obj.cells #[u7,v4] 242)).alloc (Obj.cells #[Value.int IntKind.i64 kk',Value.int IntKind.i64 (aa' : Int),Value.string wd'] 155)).alloc (Obj.cells #[Value.string wd',Value.int IntKind.i64 (aa' : Int),Value.slice (some ⟨w4.heap.size,0,none⟩) 2 2] 379))=w5 at *
     have HB5:Hid (Bk w5 q8 [.int .i64 kk', .int .i64 (aa' : Int), .string wd']):=hB4.kept HK45.out (by omega)
     have HKw4:Hid (Kept b wr w4):=(HK3.out.drew).trans hk4
     have HK5:Hid (Kept b w w5):=(HKr.out.trans HKw4.out).trans HK45.out
     have hwr:=HKr.out.size
     have hwr3:=HK3.out.size
     have HR5:Hid ((Sp.run s m nt d (σ'.step s)).isLive=true->Rp w5 (.op (σ'.word s) (σ'.at_ s) (.cons nd (.cons (Sp.tr s m nt d .nil (σ'.step s)) .nil))) w.heap.size w5.heap.size (.iface 363 (.pointer (some ⟨w4.heap.size+1+1,0,none⟩)))):=by
      intro hl
      obtain ⟨hi,g1,g2⟩:=HRr.out HNB.out.1
      have r2:=hr4 hl
      obtain ⟨e1,e2⟩:=HTK.out
      obtain ⟨s1,s2⟩:=HS5.out
      subst e1 e2
      have hw3:w3.drew.heap.size=w3.heap.size:=rfl
      exact Rp.op2 ((g2.keptN HIr.out.noSl HKw4.out hbw (by have:=HBr;omega)).keptN HIr.out.noSl HK45.out hbw (by omega)) (r2.keptN hi4.noSl HK45.out (by omega) (Nat.le_refl _)) HIr.out.noSl hi4.noSl (by omega) (Nat.le_refl _) (by omega) (by omega) s1 s2
     have x0:=HB5.out.k0
     have x1:=HB5.out.k1
     have x2:=HB5.out.k2
     have hx5:=HB5.out.lt
     have hz5' : w4.heap.size+3<=w5.heap.size:=by omega
     clear hB4 y0 y1 y2 hv4 hv7 hp4 hk4 hr4 hz5 HB3 HP3
     go_wp2_with fail
    all_goals
     obtain ⟨i',wd6,hi6,tc6,P6⟩:=peek_any (HP5.out.alloc (Obj.cells #[Value.int IntKind.i64 kk',Value.int IntKind.i64 (aa' : Int),Value.string wd'] 155))
     refine P6.mono ?_
     rintro r w7 ⟨rfl,hb7⟩
     have hz7:=hb7.size
     have hz7:w5.heap.size+1<=w7.heap.size:=by simpa using hz7
     have hB7:=(Bk.new w5 #[Value.int IntKind.i64 kk',Value.int IntKind.i64 (aa' : Int),Value.string wd'] 155).below hb7
     have z0:=hB7.k0
     have z1:=hB7.k1
     have z2:=hB7.k2
     have g0:=hB7.f 0
     have g1:=hB7.f 1
     have g2:=hB7.f 2
     have HB7:=hid hB7
     have HK57:Hid (Kept b w5 w7):=((Kept.refl b w5).alloc _).trans (Kept.below hb7)
     have HP7:Hid (PS b c cap len s d (Sp.run s m nt d (σ'.step s)) w7):=(HP5.out.alloc _).below hb7
     have HT6:Hid (IX s len i' (Sp.run s m nt d (σ'.step s))/\TC c s (w5.alloc (Obj.cells #[Value.int IntKind.i64 kk',Value.int IntKind.i64 (aa' : Int),Value.string wd'] 155)) i' wd6):=⟨hi6,tc6⟩
     clear hb7 hB7 hi6 tc6 P6 x0 x1 x2 HB5 HP5
     go_wp2_with fail
     go_roundg m
     case measure=>omega
     case rel=>
      have hw5:=HK5.out.size
      refine ⟨by omega,_,_,w5.heap.size,by omega,rfl,hw5,by show _=_;rw [HR.out,HV.out],by show _=_;rw [HRT.out,HVT.out],((HP7.out.put _ 0 (by omega) (by omega) _).put _ 1 (by omega) (by omega) _).put _ 2 (by omega) (by omega) _,(((HK5.out.trans HK57.out).setNew (by simpa using hw5) _).setNew (by simpa using hw5) _).setNew (by simpa using hw5) _,Or.inr ⟨_,_,rfl⟩,fun hl=>?_,TB.of HT6.out.1 HT6.out.2 (HB7.out.fill3 _ _ _) rfl⟩
      refine ⟨w5.heap.size,Nat.le_refl _,?_⟩
      refine ((HR5.out hl).keptN (NoSl.iface _ _) HK57.out hbw (Nat.le_refl _)).frame (by simp [World.setCell]) _ _ _ _ (fun k h1 h2=>?_) (fun _ _ _ _ e=>by cases e)
      rw [Below.heap_setCell _ _ _ _ (by simp;omega),Below.heap_setCell _ _ _ _ (by simp;omega),Below.heap_setCell _ _ _ _ (by simp;omega)]
def Rq (w:World) (nd:Sp.Nd) (lo hi:Nat) (v:Value):Prop:=Rp w nd lo hi v/\SIn lo hi v
theorem Rp.rq {w:World} {nd:Sp.Nd} {lo hi:Nat} {v:Value} (h:Rp w nd lo hi v) (n:NoSl v):Rq w nd lo hi v:=⟨h,n.sin _ _⟩
theorem Rq.kept {b:Nat} {w w' : World} {nd:Sp.Nd} {lo hi:Nat} {x:Value} (h:Rq w nd lo hi x) (k:Kept b w w') (hb:b<lo) (hhi:hi<=w.heap.size):Rq w' nd lo hi x:=⟨h.1.kept k hb hhi h.2,h.2⟩
theorem Rq.wide {w:World} {nd:Sp.Nd} {lo hi lo' hi' : Nat} {x:Value} (h:Rq w nd lo hi x) (a:lo'<=lo) (b:hi<=hi'):Rq w nd lo' hi' x:=⟨Rp.wide _ _ _ _ _ _ h.1 a b,h.2.wide a b⟩
theorem PS.deep {b c cap len:Nat} {s:Sp.Bs} {d d' : Nat} {σ:Sp.St} {w:World} (h:PS b c cap len s d σ w) (q:Int) (hq:q=(d' : Int)):PS b c cap len s d' σ (w.setCell ⟨b,2,none⟩ (.int .i64 q)):=by
 subst hq
 obtain ⟨j,hj,h1⟩:=h.h1
 have h0:=h.h0
 have h2:=h.h2
 have h3:=h.h3
 have h4:=h.h4
 have FZ:Hid (∀ o,w.frozen? ⟨b,o,none⟩=false):=h.fz
 exact h.next ((Kept.refl b w).setCell 2 _) (by clear FZ;go_simp) j hj (by clear FZ h3 h4;go_simp) (by clear FZ h3 h4;go_simp) (by clear FZ h4;go_simp) (by clear FZ h3;go_simp) (fun o=>by have:=FZ.out o;clear FZ h3 h4;go_simp)
theorem opened_eq (s:Sp.Bs) (z:Sp.Bs) (d:Nat) (σ:Sp.St) (len i:Nat) (h:IX s len i σ) :
  (if 16<d+1 then failAt 3 (Sp.tokAt s (pos s i)) (σ.must s z) else σ.must s z)=σ.opened s z d:=by
 unfold Sp.St.opened Sp.St.must Sp.St.openT
 cases σ with
 | live e=>
  rw [h.2]
  cases hs:Sp.St.is s z (.live e)
  ·simp only [Bool.false_eq_true,if_false]
   split <;> rfl
  ·simp only [if_true]
   split <;> rfl
 | dead x a=>
  simp only [Sp.St.is,Bool.false_eq_true,if_false,Sp.St.fail]
  split <;> rfl
theorem opened_of {F fn:Nat} {pre v1 v2:Array Value} {Sh:Value->Prop} {b c cap len:Nat}
  (hv:(F=308/\Sh=IsIf/\(fn=253\/fn=331\/fn=347)/\pre=#[.pointer (some ⟨b,0,none⟩)]/\v1=#[.pointer (some ⟨b,0,none⟩)]/\v2=#[])\/∃ qi qp:Nat,((F=308/\Sh=IsIf/\fn=350)\/(F=351/\Sh=IsSl/\fn=352)\/(F=254/\Sh=IsIf/\fn=255))/\pre=#[.pointer (some ⟨qi,0,none⟩), .pointer (some ⟨qp,0,none⟩)]/\v1=#[]/\v2=#[.pointer (some ⟨qi,0,none⟩), .pointer (some ⟨qp,0,none⟩)])
  {s:Sp.Bs} {d:Nat} {σ:Sp.St} {w:World} (h:PS b c cap len s d σ w) (z:Sp.Bs) (hf:z∈fixd) (hd:d<=1000000) (τ:Sp.St) (nd:Sp.Nd)
  (hin:∀ w',Kept b w w'->PS b c cap len s (d+1) (σ.opened s z d) w'->Calls Tryz.prog fn pre w' (PostV b c cap len s (d+1) τ w' Sh fun w'' v=>Rq w'' nd w'.heap.size w''.heap.size v)) :
  Calls Tryz.prog F #[.pointer (some ⟨b,0,none⟩), .string ⟨z.toArray⟩, .func (.func fn) v1 v2] w (PostV b c cap len s d τ w Sh fun w'' v=>Rq w'' nd w.heap.size w''.heap.size v):=by
 rcases hv with ⟨rfl,rfl,rfl | rfl | rfl,rfl,rfl,rfl⟩ | ⟨qi,qp,⟨rfl,rfl,rfl⟩ | ⟨rfl,rfl,rfl⟩ | ⟨rfl,rfl,rfl⟩,rfl,rfl,rfl⟩
 all_goals
  have HIN:=hid hin
  clear hin
  have hbw:=h.lb
  obtain ⟨i,wd,hi,tc,P⟩:=peek_any h
  have OE:=opened_eq s z d σ len i hi
  have HH:=hid h
  have HPK:=hidc P
  clear h tc hi P
  generalize kn (Sp.tokCl s (pos s i))=kk at *
  generalize Sp.tokAt s (pos s i)=aa at *
  have hfd:=tokF1
  by_cases h16:16<d+1
  ·have HO:Hid (failAt 3 aa (σ.must s z)=σ.opened s z d):=by show _=_;rw [<- OE,if_pos h16]
   clear OE
   first
    | (show Calls Tryz.prog 308 _ _ _;go_enter Tryz.func308,Tryz.ntmps308)
    | (show Calls Tryz.prog 351 _ _ _;go_enter Tryz.func351,Tryz.ntmps351)
    | (show Calls Tryz.prog 254 _ _ _;go_enter Tryz.func254,Tryz.ntmps254)
   go_wp2_with fail
   refine (HPK.out _ rfl).mono ?_
   rintro r w0 ⟨rfl,hb0⟩
   have HP0:=hid (HH.out.below hb0)
   have HK0:Hid (Kept b w w0):=Kept.below hb0
   clear hb0
   go_wp2_with fail
   refine (expect_any HP0.out z hf).mono ?_
   rintro r w1 ⟨rfl,hp1,hk1⟩
   have c2:=hp1.h2
   have f2:=hp1.fz 2
   have HP1:=hid hp1
   have HK1:=hid (HK0.out.trans hk1)
   clear hp1 hk1
   go_wp2_with fail
   refine (pfail_any (HP1.out.deep (d':=d+1) _ rfl) 3 _ (by decide)).mono ?_
   rintro r w2 ⟨rfl,hp2,hk2⟩
   rw [HO.out] at hp2
   have HP2:Hid (PS b c cap len s (d+1) (σ.opened s z d) w2):=hp2
   have HK2:Hid (Kept b w w2):=(HK1.out.setCell 2 _).trans hk2
   clear hp2 hk2 c2 f2
   go_wp2_with fail
   refine (HIN.out _ HK2.out HP2.out).mono ?_
   rintro r w3 ⟨v3,rfl,hp3,hk3,hi3,hr3⟩
   have c2:=hp3.h2
   have f2:=hp3.fz 2
   have HP3:=hid hp3
   have HK3:=hid (HK2.out.trans hk3)
   have HI3:=hid hi3
   have HR3:=hid hr3
   have hz:=HK2.out.size
   clear hp3 hk3 hi3 hr3
   go_wp2_with fail
   go_ret
   exact ⟨_,rfl,HP3.out.deep (d':=d) _ (by omega),HK3.out.setCell 2 _,HI3.out,fun hl=>((HR3.out hl).kept ((Kept.refl b w3).setCell 2 _) (by omega) (Nat.le_refl _)).wide (by omega) (by simp [World.setCell])⟩
  ·have HO:Hid (σ.must s z=σ.opened s z d):=by show _=_;rw [<- OE,if_neg h16]
   clear OE
   first
    | (show Calls Tryz.prog 308 _ _ _;go_enter Tryz.func308,Tryz.ntmps308)
    | (show Calls Tryz.prog 351 _ _ _;go_enter Tryz.func351,Tryz.ntmps351)
    | (show Calls Tryz.prog 254 _ _ _;go_enter Tryz.func254,Tryz.ntmps254)
   go_wp2_with fail
   refine (HPK.out _ rfl).mono ?_
   rintro r w0 ⟨rfl,hb0⟩
   have HP0:=hid (HH.out.below hb0)
   have HK0:Hid (Kept b w w0):=Kept.below hb0
   clear hb0
   go_wp2_with fail
   refine (expect_any HP0.out z hf).mono ?_
   rintro r w1 ⟨rfl,hp1,hk1⟩
   have c2:=hp1.h2
   have f2:=hp1.fz 2
   rw [HO.out] at hp1
   have HP1:=hid hp1
   have HK1:=hid (HK0.out.trans hk1)
   clear hp1 hk1
   go_wp2_with fail
   refine (HIN.out _ (HK1.out.setCell 2 _) (HP1.out.deep (d':=d+1) _ rfl)).mono ?_
   rintro r w3 ⟨v3,rfl,hp3,hk3,hi3,hr3⟩
   clear c2 f2
   have c2:=hp3.h2
   have f2:=hp3.fz 2
   have hz:w.heap.size<=w1.heap.size:=HK1.out.size
   have HP3:=hid hp3
   have HK3:Hid (Kept b w w3):=(HK1.out.setCell 2 _).trans hk3
   have HI3:=hid hi3
   have HR3:Hid (τ.isLive=true->Rq w3 nd w1.heap.size w3.heap.size v3):=fun hl=>by have:=hr3 hl;simpa [World.setCell] using this
   clear hp3 hk3 hi3 hr3
   go_wp2_with fail
   go_ret
   exact ⟨_,rfl,HP3.out.deep (d':=d) _ (by omega),HK3.out.setCell 2 _,HI3.out,fun hl=>((HR3.out hl).kept ((Kept.refl b w3).setCell 2 _) (by omega) (Nat.le_refl _)).wide (by omega) (by simp [World.setCell])⟩
def Enc (fn e1 en op:Nat) (ft:TypeId) (Sh:Value->Prop):Prop:=(fn=175/\e1=350/\en=345/\op=308/\ft=308/\Sh=IsIf)\/(fn=174/\e1=352/\en=346/\op=351/\ft=307/\Sh=IsSl)\/(fn=83/\e1=255/\en=215/\op=254/\ft=180/\Sh=IsIf)
theorem encl1_of {fn e1 en op:Nat} {ft:TypeId} {Sh:Value->Prop} (hv:Enc fn e1 en op ft Sh) {b c cap len:Nat} {s:Sp.Bs} {d:Nat} {σ:Sp.St} {w:World} (h:PS b c cap len s d σ w) (qi qp:Nat) (hi:w.cell? ⟨qi,0,none⟩=some (.func (.func fn) #[.pointer (some ⟨b,0,none⟩)] #[])) (hq:w.cell? ⟨qp,0,none⟩=some (.pointer (some ⟨b,0,none⟩))) (lq:qp<w.heap.size) (ne:qp≠b) (τ:Sp.St) (nd:Sp.Nd)
  (hin:Calls Tryz.prog fn #[.pointer (some ⟨b,0,none⟩)] w (PostV b c cap len s d τ w Sh fun w'' v=>Rq w'' nd w.heap.size w''.heap.size v)) :
  Calls Tryz.prog e1 #[.pointer (some ⟨qi,0,none⟩), .pointer (some ⟨qp,0,none⟩)] w (PostV b c cap len s d (τ.must s [41]) w Sh fun w'' v=>Rq w'' nd w.heap.size w''.heap.size v):=by
 have hbw:=h.lb
 have HIN:=hidc hin
 have HQ:Hid (∀ w',Kept b w w'->w'.cell? ⟨qp,0,none⟩=some (.pointer (some ⟨b,0,none⟩))):=fun w' k=>(k.cell (p:=⟨qp,0,none⟩) lq ne).trans hq
 clear hin h hq
 rcases hv with ⟨rfl,rfl,rfl,rfl,rfl,rfl⟩ | ⟨rfl,rfl,rfl,rfl,rfl,rfl⟩ | ⟨rfl,rfl,rfl,rfl,rfl,rfl⟩
 all_goals
  first
   | (show Calls Tryz.prog 350 _ _ _;go_enter Tryz.func350,Tryz.ntmps350)
   | (show Calls Tryz.prog 352 _ _ _;go_enter Tryz.func352,Tryz.ntmps352)
   | (show Calls Tryz.prog 255 _ _ _;go_enter Tryz.func255,Tryz.ntmps255)
  go_wp2_with fail
  refine (HIN.out _ rfl).mono ?_
  rintro r w1 ⟨v1,rfl,hp1,hk1,hi1,hr1⟩
  have hq1:=HQ.out w1 hk1
  have HP1:=hid hp1
  have HK1:=hid hk1
  have HI1:=hid hi1
  have HR1:=hid hr1
  clear hp1 hk1 hi1 hr1
  go_wp2_with fail
  refine (expect_any HP1.out [41] (by decide)).mono ?_
  rintro r w2 ⟨rfl,hp2,hk2⟩
  have HP2:=hid hp2
  have HK2:=hid hk2
  clear hp2 hk2
  go_wp2_with fail
  go_ret
  exact ⟨_,rfl,HP2.out,HK1.out.trans HK2.out,HI1.out,fun hl=>((HR1.out (Sp.live_must hl)).kept HK2.out hbw (Nat.le_refl _)).wide (Nat.le_refl _) HK2.out.size⟩
theorem enclosed_of {fn e1 en op:Nat} {ft:TypeId} {Sh:Value->Prop} (hv:Enc fn e1 en op ft Sh) {b c cap len:Nat} {s:Sp.Bs} {d:Nat} {σ:Sp.St} {w:World} (h:PS b c cap len s d σ w) (hd:d<=1000000) (τ:Sp.St) (nd:Sp.Nd)
  (hin:∀ w',PS b c cap len s (d+1) (σ.opened s [40] d) w'->Calls Tryz.prog fn #[.pointer (some ⟨b,0,none⟩)] w' (PostV b c cap len s (d+1) τ w' Sh fun w'' v=>Rq w'' nd w'.heap.size w''.heap.size v)) :
  Calls Tryz.prog en #[.pointer (some ⟨b,0,none⟩), .func (.func fn) #[.pointer (some ⟨b,0,none⟩)] #[]] w (PostV b c cap len s d (τ.must s [41]) w Sh fun w'' v=>Rq w'' nd w.heap.size w''.heap.size v):=by
 have hbw:=h.lb
 have O:∀ w0,w0=((w.alloc (.cells #[.pointer (some ⟨b,0,none⟩)] 157)).alloc (.cells #[.func (.func fn) #[.pointer (some ⟨b,0,none⟩)] #[]] ft))->Calls Tryz.prog op #[.pointer (some ⟨b,0,none⟩), .string ⟨#[40]⟩, .func (.func e1) #[] #[.pointer (some ⟨w.heap.size+1,0,none⟩), .pointer (some ⟨w.heap.size,0,none⟩)]] w0 (PostV b c cap len s d (τ.must s [41]) w0 Sh fun w'' v=>Rq w'' nd w0.heap.size w''.heap.size v):=by
  intro w0 e0
  subst e0
  have hb:=h.lb
  refine opened_of (.inr ⟨w.heap.size+1,w.heap.size,by rcases hv with ⟨_,h1,_,h2,_,h3⟩ | ⟨_,h1,_,h2,_,h3⟩ | ⟨_,h1,_,h2,_,h3⟩ <;> simp [h1,h2,h3],rfl,rfl,rfl⟩) ((h.alloc _).alloc _) [40] (by decide) hd _ nd ?_
  intro w' k hp
  refine encl1_of hv hp _ _ ?_ ?_ ?_ (by omega) τ nd (hin w' hp)
  ·refine (k.cell (p:=⟨w.heap.size+1,0,none⟩) (by simp) (by simp;omega)).trans ?_
   have e:w.heap.size+1=(w.alloc (.cells #[.pointer (some ⟨b,0,none⟩)] 157)).heap.size:=by simp
   rw [e,World.cell?_alloc_new];rfl
  ·refine (k.cell (p:=⟨w.heap.size,0,none⟩) (by simp;omega) (by simp;omega)).trans ?_
   rw [World.cell?_alloc_lt _ _ _ (by simp),World.cell?_alloc_new];rfl
  ·exact Nat.lt_of_lt_of_le (by simp;omega) k.size
 have HO:=hid O
 clear O hin h
 have hmf:=mkFn
 rcases hv with ⟨rfl,rfl,rfl,rfl,rfl,rfl⟩ | ⟨rfl,rfl,rfl,rfl,rfl,rfl⟩ | ⟨rfl,rfl,rfl,rfl,rfl,rfl⟩
 all_goals
  first
   | (show Calls Tryz.prog 345 _ _ _;go_enter Tryz.func345,Tryz.ntmps345)
   | (show Calls Tryz.prog 346 _ _ _;go_enter Tryz.func346,Tryz.ntmps346)
   | (show Calls Tryz.prog 215 _ _ _;go_enter Tryz.func215,Tryz.ntmps215)
  go_wp2_with fail
  refine (HO.out _ rfl).mono ?_
  rintro r w1 ⟨v1,rfl,hp1,hk1,hi1,hr1⟩
  have HP1:=hid hp1
  have HK1:Hid (Kept b w w1):=(((Kept.refl b w).alloc _).alloc _).trans hk1
  have HI1:=hid hi1
  have HR1:Hid ((τ.must s [41]).isLive=true->Rq w1 nd w.heap.size w1.heap.size v1):=fun hl=>(hr1 hl).wide (by simp;omega) (Nat.le_refl _)
  clear hp1 hk1 hi1 hr1
  go_wp2_with fail
  go_ret
  exact ⟨_,rfl,HP1.out,HK1.out,HI1.out,HR1.out⟩
end Go.Proofs.YtgnncnhkgmhngaaGreatDoor
