import Derived.Test.YtgnncnhkgmhngaaGreatDoorJ07
set_option maxHeartbeats 2000000
namespace Go.Proofs.YtgnncnhkgmhngaaGreatDoor
open Sp
open Go.RowKit
theorem dD (kk aa:Int) (wd:ByteArray) (a:Option Addr) (n m:Nat) (w:World) :
  Calls Tryz.prog 252 #[.agg #[.int .i64 kk, .int .i64 aa, .string wd], .slice a n m] w λr w'=>r = .returned (.iface 363 (.pointer (some ⟨w.heap.size+1,0,none⟩)))/\w'=(w.alloc (.cells #[.int .i64 kk, .int .i64 aa, .string wd] 155)).alloc (.cells #[.string wd, .int .i64 aa, .slice a n m] 379):=by
 go_enter Tryz.func252,Tryz.ntmps252
 go_wp2_with fail
 go_ret
 exact ⟨rfl,rfl⟩
def Sd (b c cap len:Nat) (s:Sp.Bs) (n:Nat) (nt:Nt) (Sh:Value->Prop) (f:FuncId):Prop:=
 ∀ (d:Nat) (σ:St) (w:World),d+n<=1000000->32*rem s σ+lK nt<=n->PS b c cap len s d σ w->
  Calls Tryz.prog f #[.pointer (some ⟨b,0,none⟩)] w (aX b c cap len s d (Sp.run s n nt d σ) w Sh λw' v=>Rp w' (Sp.tr s n nt d .nil σ) w.heap.size w'.heap.size v)
def TB (s:Sp.Bs) (w:World) (q:Nat) (σ:St):Prop:=
 ∃ (kk:Int) (aa:Nat) (wd:ByteArray),Bk w q [.int .i64 kk, .int .i64 (aa:Int), .string wd]/\(σ.aA=true->aa=σ.at_ s/\((∀ e,σ = .live e->aD s e ≠ .bad)->wd=bz (σ.word s)))
theorem TB.of {c:Nat} {s:Sp.Bs} {len i:Nat} {σ:St} {w w' : World} {wd:ByteArray} {q:Nat} {kk:Int} {aa:Nat} (hi:IX s len i σ) (tc:TC c s w i wd) (hb:Bk w' q [.int .i64 kk, .int .i64 (aa:Int), .string wd]) (ha:aO s (pos s i)=aa):TB s w' q σ:=
 ⟨kk,aa,wd,hb,λhl=>by have h:=dO hi tc hl;exact ⟨ha ▸ h.1,h.2⟩⟩
theorem TB.lt {s:Sp.Bs} {w:World} {q:Nat} {σ:St} (h:TB s w q σ):q<w.heap.size:=by
 obtain ⟨_,_,_,hb,_⟩:=h;exact hb.lt
theorem pK {s:Sp.Bs} {zs:List Sp.Bs} {σ:St} (h:aT s zs σ=true):rem s (σ.step s)<rem s σ:=by
 unfold aT at h
 obtain ⟨z,_,hz⟩:=List.any_eq_true.1 h
 exact aM hz
theorem aQ.cells {v:Value} (h:aQ v):v.cells=#[v]:=by
 rcases h with rfl | ⟨t,x,rfl⟩ <;> rfl
theorem Rp.op2 {W:World} {x y:Nd} {lo h1 l2 h2 blk bb hi:Nat} {v u:Value} {wd:Sp.Bs} {a:Nat} (r1:Rp W x lo h1 v) (r2:Rp W y l2 h2 u) (n1:cH v) (n2:cH u) (e1:h1<=l2) (e2:h2<=blk) (e3:blk<bb) (e4:bb<hi) (k:At W blk [v,u]) (kb:At W bb [.string (bz wd), .int .i64 (a:Int), .slice (some ⟨blk,0,none⟩) 2 2]) :
  Rp W (.op wd a (.cons x (.cons y .nil))) lo hi (.iface 363 (.pointer (some ⟨bb,0,none⟩))):=by
 have l1:=Rp.le _ _ _ _ r1
 have l3:=Rp.le _ _ _ _ r2
 refine ⟨bb,_,lo,blk,rfl,by omega,e4,by unfold Sub;omega,kb,λblk' off n c e=>?_,?_⟩
 ·injection e with e1 e2 e3;injection e1 with e1;injection e1 with e1;subst e1;omega
 ·refine ⟨blk,0,1,2,v,lo,h1,rfl,k.1,by unfold Sub;omega,k.2 0 (by simp),n1,r1,?_⟩
  exact ⟨blk,1,0,2,u,l2,h2,rfl,k.1,by unfold Sub;omega,k.2 1 (by simp),n2,r2,by omega,_,_,rfl⟩
theorem Rp.cF {b:Nat} {w w' : World} {nd:Nd} {lo hi:Nat} {x:Value} (h:Rp w nd lo hi x) (hx:cH x) (k:Kept b w w') (hb:b<lo) (hhi:hi<=w.heap.size):Rp w' nd lo hi x:=h.kept k hb hhi (hx.sin _ _)
theorem Bk.IM {w:World} {q:Nat} {x y z:Value} (h:Bk w q [x,y,z]) (x' y' z' : Value):Bk (((w.setCell ⟨q,0,none⟩ x').setCell ⟨q,1,none⟩ y').setCell ⟨q,2,none⟩ z') q [x',y',z']:=by
 have c0:=h.k0
 have c1:=h.k1
 have c2:=h.k2
 have lt:=h.lt
 have F:Hid (∀ j,w.frozen? ⟨q,j,none⟩=false):=h.f
 refine ⟨by simpa [World.setCell] using h.lt,?_,λj=>?_⟩
 ·intro j hj
  match j,hj with
  | 0,_=>clear F h;go_simp
  | 1,_=>clear F h;go_simp
  | 2,_=>clear F h;go_simp
 ·have f:=F.out j
  clear F h
  go_simp
theorem pL {fn:Nat} (hf:fn=214\/fn=253\/fn=324\/fn=331) {b c cap len:Nat} {s:Sp.Bs} {n:Nat} (nt gX:Nt) (zs:List Sp.Bs) (PH:lK nt<=20)
  (IH:Hid (∀ m,m<=n->Sd b c cap len s m nt aQ fn))
  (hL:Hid (∀ m d σ,Sp.run s (m+1) gX d σ=if aT s zs σ then Sp.run s m gX d (Sp.run s m nt d (σ.step s)) else σ))
  (hT:Hid (∀ m d a σ,Sp.tr s (m+1) gX d a σ=if aT s zs σ then Sp.tr s m gX d (.op (σ.word s) (σ.at_ s) (.cons a (.cons (Sp.tr s m nt d .nil (σ.step s)) .nil))) (Sp.run s m nt d (σ.step s)) else a))
  (d:Nat) (σ:St) (w:World) (hd:d+n<=1000000) (hm:32*rem s σ+lK nt<=n) (hn1:32*rem s σ+1<=n) (hp:PS b c cap len s d σ w) (q k:Nat) (hq:Words q (zs.map bz) w) (IN:q≠b) (hk:k=zs.length) :
  Calls Tryz.prog 213 #[.pointer (some ⟨b,0,none⟩), .func (.func fn) #[.pointer (some ⟨b,0,none⟩)] #[], .slice (some ⟨q,0,none⟩) k k] w (aX b c cap len s d (Sp.run s n gX d (Sp.run s n nt d σ)) w aQ λw' v=>Rp w' (Sp.tr s n gX d (Sp.tr s n nt d .nil σ) (Sp.run s n nt d σ)) w.heap.size w'.heap.size v):=by
 rcases hf with rfl | rfl | rfl | rfl
 all_goals
  have hr:=cJ s n nt d σ
  have hbw:=hp.lb
  have hcw:=hp.lc
  have HP:=hid hp
  have HQ:Hid (∀ w',Kept b w w'->Words q (zs.map bz) w'):=λw' kk=>⟨bY hq.1 kk.size,hq.2.1,hq.2.2.1,λj h=>(kk.cell (p:=⟨q,j,none⟩) hq.1 IN).trans (hq.2.2.2 j h)⟩
  have HKK:=hid hk
  clear hp hq hk
  go_enter Tryz.func213,Tryz.ntmps213
  go_wp2_with fail
  refine (IH.out n (aF _) d σ _ (by omega) hm HP.out).mono ?_
  rintro r w1 ⟨v1,rfl,hp1,hk1,hi1,hr1⟩
  obtain ⟨i,wd,hi,tc,P⟩:=bG hp1
  have bT:=hid hp1
  have bD:=hid hk1
  have HI1:=hid hi1
  have HR1:=hid hr1
  have HT1:Hid (IX s len i (Sp.run s n nt d σ)/\TC c s w1 i wd):=⟨hi,tc⟩
  have gJ:=jL P
  clear hp1 hk1 hi1 hr1 hi tc P HP
  generalize hkk:kn (aD s (pos s i))=kk at gJ
  generalize Mr:aO s (pos s i)=aa at gJ
  have Ms:=hid Mr
  clear hkk Mr
  go_wp2_with fail
  refine (gJ.out _ rfl).mono ?_
  rintro r w2 ⟨rfl,hb2⟩
  have HB2:=hid hb2
  clear hb2 gJ
  go_wp2_with fail
  have HP2:Hid (PS b c cap len s d (Sp.run s n nt d σ) (w2.alloc (.cells #[.int .i64 kk, .int .i64 aa, .string wd] 155))):=(bT.out.below HB2.out).alloc _
  have aY:Hid (Kept b w (w2.alloc (.cells #[.int .i64 kk, .int .i64 aa, .string wd] 155))):=(bD.out.trans (Kept.below HB2.out)).alloc _
  have HT2:Hid (TB s (w2.alloc (.cells #[.int .i64 kk, .int .i64 aa, .string wd] 155)) w2.heap.size (Sp.run s n nt d σ)):=TB.of HT1.out.1 HT1.out.2 (Bk.new _ _ _) Ms.out
  have HR2:Hid ((Sp.run s n nt d σ).aA=true->∃ hi,hi<=w2.heap.size/\Rp (w2.alloc (.cells #[.int .i64 kk, .int .i64 aa, .string wd] 155)) (Sp.tr s n nt d .nil σ) w.heap.size hi v1):=λhl=>⟨w1.heap.size,HB2.out.size,((HR1.out hl).kept (Kept.below HB2.out) hbw (aF _) (HI1.out.bC.sin _ _)).kept ((Kept.refl b _).alloc _) hbw HB2.out.size (HI1.out.bC.sin _ _)⟩
  have hz2:w.heap.size<=w2.heap.size:=cE bD.out.size HB2.out.size
  clear bT bD HT1 HB2 HR1 Ms
  go_loopg [7,8] n (λgm v p wr=>gm<=n/\∃ (σ' : St) (nd:Nd) (q8:Nat),32*rem s σ'+1<=gm/\p = .pointer (some ⟨q8,0,none⟩)/\w.heap.size<=q8/\Hid (Sp.run s n gX d (Sp.run s n nt d σ)=Sp.run s gm gX d σ')/\Hid (Sp.tr s n gX d (Sp.tr s n nt d .nil σ) (Sp.run s n nt d σ)=Sp.tr s gm gX d nd σ')/\Hid (PS b c cap len s d σ' wr)/\Hid (Kept b w wr)/\Hid (aQ v)/\Hid (σ'.aA=true->∃ hi,hi<=q8/\Rp wr nd w.heap.size hi v)/\Hid (TB s wr q8 σ'))
  case atStart=>exact ⟨aF _,_,_,w2.heap.size,by omega,rfl,hz2,rfl,rfl,HP2.out,aY.out,HI1.out,HR2.out,HT2.out⟩
  case round=>
   obtain ⟨hmn,σ',nd,q8,hms,rfl,hq8,HR,o6,j9,fY,wS,sJ,AX⟩:=hrel
   obtain ⟨m,rfl⟩:∃ m,gk=m+1:=⟨gk - 1,by omega⟩
   have HW:=HQ.out _ fY.out
   have Mt:=hid HW
   clear HW
   cases hs:aT s zs σ'
   ·have HV:Hid (Sp.run s (m+1) gX d σ'=σ'):=by show _=_;rw [hL.out,hs];rfl
    have cA:Hid (Sp.tr s (m+1) gX d nd σ'=nd):=by show _=_;rw [hT.out,hs];rfl
    go_wp2_with fail
    refine (eR j9.out q k zs Mt.out HKK.out).mono ?_
    rintro r w3 ⟨rfl,hp3,hk3⟩
    rw [hs] at hp3
    have cS:Hid (PS b c cap len s d σ' w3):=hp3
    have bH:=hid hk3
    clear hp3 hk3
    rw [hs]
    go_wp2_with fail
    go_ret
    refine ⟨_,rfl,by rw [HR.out,HV.out];exact cS.out,fY.out.trans bH.out,wS.out,λhl=>?_⟩
    rw [o6.out,cA.out]
    rw [HR.out,HV.out] at hl
    obtain ⟨hi,h1,h2⟩:=sJ.out hl
    have hq:=AX.out.lt
    exact (h2.kept bH.out hbw (by omega) (wS.out.bC.sin _ _)).wide _ _ _ _ _ _ (aF _) (by have:=bH.out.size;omega)
   ·have HV:Hid (Sp.run s (m+1) gX d σ'=Sp.run s m gX d (Sp.run s m nt d (σ'.step s))):=by show _=_;rw [hL.out,hs];rfl
    have cA:Hid (Sp.tr s (m+1) gX d nd σ'=Sp.tr s m gX d (.op (σ'.word s) (σ'.at_ s) (.cons nd (.cons (Sp.tr s m nt d .nil (σ'.step s)) .nil))) (Sp.run s m nt d (σ'.step s))):=by show _=_;rw [hT.out,hs];rfl
    have h1:=pK hs
    have h2:=cJ s m nt d (σ'.step s)
    have lD:Hid (σ'.aA=true/\∀ e,σ' = .live e->aD s e ≠ .bad):=⟨nF hs,fI hs⟩
    obtain ⟨vH,iO,wd',hbk,htk⟩:=AX.out
    have jQ:Hid (iO=σ'.at_ s/\wd'=bz (σ'.word s)):=⟨(htk lD.out.1).1,(htk lD.out.1).2 lD.out.2⟩
    have oF:=hbk.lt
    have Mu:=hid hbk
    clear hbk htk AX
    go_wp2_with fail
    refine (eR j9.out q k zs Mt.out HKK.out).mono ?_
    rintro r w3 ⟨rfl,hp3,hk3⟩
    rw [hs] at hp3
    have cS:Hid (PS b c cap len s d (σ'.step s) w3):=hp3
    have bH:=hid hk3
    have hB3:=Mu.out.kept hk3 (by omega)
    have hx:=hB3.lt
    have x0:=hB3.k0
    have x1:=hB3.k1
    have x2:=hB3.k2
    have HB3:=hid hB3
    clear hp3 hk3 hB3 Mu
    rw [hs]
    have hv7:=wS.out.cells
    unfold Value.cells at hv7
    go_wp2_with fail
    go_region_with (first | ((first | (go_at_call 214;refine (IH.out m (by omega) d _ _ (by omega) (by omega) cS.out.drew).mono ?_) | (go_at_call 253;refine (IH.out m (by omega) d _ _ (by omega) (by omega) cS.out.drew).mono ?_) | (go_at_call 324;refine (IH.out m (by omega) d _ _ (by omega) (by omega) cS.out.drew).mono ?_) | (go_at_call 331;refine (IH.out m (by omega) d _ _ (by omega) (by omega) cS.out.drew).mono ?_));rintro e w4 ⟨v4,rfl,gD,hk4,hi4,hr4⟩;have hv4:=hi4.cells;unfold Value.cells at hv4;have hB4:=HB3.out.kept (((Kept.refl b w3).drew).trans hk4) (by omega);have hy:=hB4.lt;have y0:=hB4.k0;have y1:=hB4.k1;have y2:=hB4.k2) | (go_at_call 252;refine (dD _ _ _ _ _ _ _).mono ?_;rintro e w5 ⟨rfl,rfl⟩))
    all_goals
     have PI:=hk4.size
     have Vf : w3.heap.size<=w4.heap.size:=PI
     clear PI
     have hq3:=HB3.out.lt
     have iV:Hid (PS b c cap len s d (Sp.run s m nt d (σ'.step s)) (((w4.alloc (Obj.cells #[u7,v4] 242)).alloc (Obj.cells #[Value.int IntKind.i64 vH,Value.int IntKind.i64 (iO : Int),Value.string wd'] 155)).alloc (Obj.cells #[Value.string wd',Value.int IntKind.i64 (iO : Int),Value.slice (some ⟨w4.heap.size,0,none⟩) 2 2] 379))):=((gD.alloc _).alloc _).alloc _
     have KW:Hid (Kept b w4 (((w4.alloc (Obj.cells #[u7,v4] 242)).alloc (Obj.cells #[Value.int IntKind.i64 vH,Value.int IntKind.i64 (iO : Int),Value.string wd'] 155)).alloc (Obj.cells #[Value.string wd',Value.int IntKind.i64 (iO : Int),Value.slice (some ⟨w4.heap.size,0,none⟩) 2 2] 379))):=(((Kept.refl b w4).alloc _).alloc _).alloc _
     have Xj:Hid (At (((w4.alloc (Obj.cells #[u7,v4] 242)).alloc (Obj.cells #[Value.int IntKind.i64 vH,Value.int IntKind.i64 (iO : Int),Value.string wd'] 155)).alloc (Obj.cells #[Value.string wd',Value.int IntKind.i64 (iO : Int),Value.slice (some ⟨w4.heap.size,0,none⟩) 2 2] 379)) w4.heap.size [u7,v4]/\At (((w4.alloc (Obj.cells #[u7,v4] 242)).alloc (Obj.cells #[Value.int IntKind.i64 vH,Value.int IntKind.i64 (iO : Int),Value.string wd'] 155)).alloc (Obj.cells #[Value.string wd',Value.int IntKind.i64 (iO : Int),Value.slice (some ⟨w4.heap.size,0,none⟩) 2 2] 379)) (w4.heap.size+1+1) [Value.string wd',Value.int IntKind.i64 (iO : Int),Value.slice (some ⟨w4.heap.size,0,none⟩) 2 2]):=⟨(((Bk.new w4 _ _).alloc _).alloc _).at_,by have:=(Bk.new ((w4.alloc (Obj.cells #[u7,v4] 242)).alloc (Obj.cells #[Value.int IntKind.i64 vH,Value.int IntKind.i64 (iO : Int),Value.string wd'] 155)) #[Value.string wd',Value.int IntKind.i64 (iO : Int),Value.slice (some ⟨w4.heap.size,0,none⟩) 2 2] 379).at_;simpa using this⟩
     have rM:(((w4.alloc (Obj.cells #[u7,v4] 242)).alloc (Obj.cells #[Value.int IntKind.i64 vH,Value.int IntKind.i64 (iO : Int),Value.string wd'] 155)).alloc (Obj.cells #[Value.string wd',Value.int IntKind.i64 (iO : Int),Value.slice (some ⟨w4.heap.size,0,none⟩) 2 2] 379)).heap.size=w4.heap.size+3:=by simp
     generalize (((w4.alloc (Obj.cells #[u7,v4] 242)).alloc (Obj.cells #[Value.int IntKind.i64 vH,Value.int IntKind.i64 (iO : Int),Value.string wd'] 155)).alloc (Obj.cells #[Value.string wd',Value.int IntKind.i64 (iO : Int),Value.slice (some ⟨w4.heap.size,0,none⟩) 2 2] 379))=w5 at *
     have yZ:Hid (Bk w5 q8 [.int .i64 vH, .int .i64 (iO : Int), .string wd']):=hB4.kept KW.out (by omega)
     have PJ:Hid (Kept b wr w4):=(bH.out.drew).trans hk4
     have iD:Hid (Kept b w w5):=(fY.out.trans PJ.out).trans KW.out
     have hwr:=fY.out.size
     have PL:=bH.out.size
     have Th:Hid ((Sp.run s m nt d (σ'.step s)).aA=true->Rp w5 (.op (σ'.word s) (σ'.at_ s) (.cons nd (.cons (Sp.tr s m nt d .nil (σ'.step s)) .nil))) w.heap.size w5.heap.size (.iface 363 (.pointer (some ⟨w4.heap.size+1+1,0,none⟩)))):=by
      intro hl
      obtain ⟨hi,g1,g2⟩:=sJ.out lD.out.1
      have r2:=hr4 hl
      obtain ⟨e1,e2⟩:=jQ.out
      obtain ⟨s1,s2⟩:=Xj.out
      subst e1 e2
      have hw3:w3.drew.heap.size=w3.heap.size:=rfl
      exact Rp.op2 ((g2.cF wS.out.bC PJ.out hbw (by have:=oF;omega)).cF wS.out.bC KW.out hbw (by omega)) (r2.cF hi4.bC KW.out (by omega) (aF _)) wS.out.bC hi4.bC (by omega) (aF _) (by omega) (by omega) s1 s2
     have x0:=yZ.out.k0
     have x1:=yZ.out.k1
     have x2:=yZ.out.k2
     have hx5:=yZ.out.lt
     have Xk : w4.heap.size+3<=w5.heap.size:=by omega
     clear hB4 y0 y1 y2 hv4 hv7 gD hk4 hr4 rM HB3 cS
     go_wp2_with fail
    all_goals
     obtain ⟨i',PM,Mv,Mw,P6⟩:=bG (iV.out.alloc (Obj.cells #[Value.int IntKind.i64 vH,Value.int IntKind.i64 (iO : Int),Value.string wd'] 155))
     refine P6.mono ?_
     rintro r w7 ⟨rfl,hb7⟩
     have IP:=hb7.size
     have IP:w5.heap.size+1<=w7.heap.size:=by simpa using IP
     have oI:=(Bk.new w5 #[Value.int IntKind.i64 vH,Value.int IntKind.i64 (iO : Int),Value.string wd'] 155).below hb7
     have z0:=oI.k0
     have z1:=oI.k1
     have z2:=oI.k2
     have g0:=oI.f 0
     have g1:=oI.f 1
     have g2:=oI.f 2
     have Mx:=hid oI
     have PN:Hid (Kept b w5 w7):=((Kept.refl b w5).alloc _).trans (Kept.below hb7)
     have o7:Hid (PS b c cap len s d (Sp.run s m nt d (σ'.step s)) w7):=(iV.out.alloc _).below hb7
     have My:Hid (IX s len i' (Sp.run s m nt d (σ'.step s))/\TC c s (w5.alloc (Obj.cells #[Value.int IntKind.i64 vH,Value.int IntKind.i64 (iO : Int),Value.string wd'] 155)) i' PM):=⟨Mv,Mw⟩
     clear hb7 oI Mv Mw P6 x0 x1 x2 yZ iV
     go_wp2_with fail
     go_roundg m
     case measure=>omega
     case rel=>
      have hw5:=iD.out.size
      refine ⟨by omega,_,_,w5.heap.size,by omega,rfl,hw5,by show _=_;rw [HR.out,HV.out],by show _=_;rw [o6.out,cA.out],((o7.out.put _ 0 (by omega) (by omega) _).put _ 1 (by omega) (by omega) _).put _ 2 (by omega) (by omega) _,(((iD.out.trans PN.out).aJ (by simpa using hw5) _).aJ (by simpa using hw5) _).aJ (by simpa using hw5) _,Or.inr ⟨_,_,rfl⟩,λhl=>?_,TB.of My.out.1 My.out.2 (Mx.out.IM _ _ _) rfl⟩
      refine ⟨w5.heap.size,aF _,?_⟩
      refine ((Th.out hl).cF (cH.iface _ _) PN.out hbw (aF _)).frame (by simp [World.setCell]) _ _ _ _ (λk h1 h2=>?_) (λ_ _ _ _ e=>by cases e)
      rw [dQ _ _ _ _ (by simp;omega),dQ _ _ _ _ (by simp;omega),dQ _ _ _ _ (by simp;omega)]
def Rq (w:World) (nd:Nd) (lo hi:Nat) (v:Value):Prop:=Rp w nd lo hi v/\yQ lo hi v
theorem Rp.rq {w:World} {nd:Nd} {lo hi:Nat} {v:Value} (h:Rp w nd lo hi v) (n:cH v):Rq w nd lo hi v:=⟨h,n.sin _ _⟩
theorem Rq.kept {b:Nat} {w w' : World} {nd:Nd} {lo hi:Nat} {x:Value} (h:Rq w nd lo hi x) (k:Kept b w w') (hb:b<lo) (hhi:hi<=w.heap.size):Rq w' nd lo hi x:=⟨h.1.kept k hb hhi h.2,h.2⟩
theorem Rq.wide {w:World} {nd:Nd} {lo hi lo' hi' : Nat} {x:Value} (h:Rq w nd lo hi x) (a:lo'<=lo) (b:hi<=hi'):Rq w nd lo' hi' x:=⟨Rp.wide _ _ _ _ _ _ h.1 a b,h.2.wide a b⟩
theorem PS.deep {b c cap len:Nat} {s:Sp.Bs} {d d' : Nat} {σ:St} {w:World} (h:PS b c cap len s d σ w) (q:Int) (hq:q=(d' : Int)):PS b c cap len s d' σ (w.setCell ⟨b,2,none⟩ (.int .i64 q)):=by
 subst hq
 obtain ⟨j,hj,h1⟩:=h.h1
 have h0:=h.h0
 have h2:=h.h2
 have h3:=h.h3
 have h4:=h.h4
 have FZ:Hid (∀ o,w.frozen? ⟨b,o,none⟩=false):=h.fz
 exact h.next ((Kept.refl b w).setCell 2 _) (by clear FZ;go_simp) j hj (by clear FZ h3 h4;go_simp) (by clear FZ h3 h4;go_simp) (by clear FZ h4;go_simp) (by clear FZ h3;go_simp) (λo=>by have:=FZ.out o;clear FZ h3 h4;go_simp)
theorem Gj (s:Sp.Bs) (z:Sp.Bs) (d:Nat) (σ:St) (len i:Nat) (h:IX s len i σ) :
  (if 16<d+1 then s6 3 (aO s (pos s i)) (σ.must s z) else σ.must s z)=σ.opened s z d:=by
 unfold St.opened St.must St.dF
 cases σ with
 | live e=>
  rw [h.2]
  cases hs:St.is s z (.live e)
  ·simp only [Bool.false_eq_true,if_false]
   split <;> rfl
  ·simp only [if_true]
   split <;> rfl
 | dead x a=>
  simp only [St.is,Bool.false_eq_true,if_false,St.fail]
  split <;> rfl
theorem qL {F fn:Nat} {pre v1 v2:Array Value} {Sh:Value->Prop} {b c cap len:Nat}
  (hv:(F=308/\Sh=aQ/\(fn=253\/fn=331\/fn=347)/\pre=#[.pointer (some ⟨b,0,none⟩)]/\v1=#[.pointer (some ⟨b,0,none⟩)]/\v2=#[])\/∃ qi qp:Nat,((F=308/\Sh=aQ/\fn=350)\/(F=351/\Sh=qJ/\fn=352)\/(F=254/\Sh=aQ/\fn=255))/\pre=#[.pointer (some ⟨qi,0,none⟩), .pointer (some ⟨qp,0,none⟩)]/\v1=#[]/\v2=#[.pointer (some ⟨qi,0,none⟩), .pointer (some ⟨qp,0,none⟩)])
  {s:Sp.Bs} {d:Nat} {σ:St} {w:World} (h:PS b c cap len s d σ w) (z:Sp.Bs) (hf:z∈iS) (hd:d<=1000000) (τ:St) (nd:Nd)
  (hin:∀ w',Kept b w w'->PS b c cap len s (d+1) (σ.opened s z d) w'->Calls Tryz.prog fn pre w' (aX b c cap len s (d+1) τ w' Sh λw'' v=>Rq w'' nd w'.heap.size w''.heap.size v)) :
  Calls Tryz.prog F #[.pointer (some ⟨b,0,none⟩), .string ⟨z.toArray⟩, .func (.func fn) v1 v2] w (aX b c cap len s d τ w Sh λw'' v=>Rq w'' nd w.heap.size w''.heap.size v):=by
 rcases hv with ⟨rfl,rfl,rfl | rfl | rfl,rfl,rfl,rfl⟩ | ⟨qi,qp,⟨rfl,rfl,rfl⟩ | ⟨rfl,rfl,rfl⟩ | ⟨rfl,rfl,rfl⟩,rfl,rfl,rfl⟩
 all_goals
  have Mz:=hid hin
  clear hin
  have hbw:=h.lb
  obtain ⟨i,wd,hi,tc,P⟩:=bG h
  have OE:=Gj s z d σ len i hi
  have HH:=hid h
  have gJ:=jL P
  clear h tc hi P
  generalize kn (aD s (pos s i))=kk at *
  generalize aO s (pos s i)=aa at *
  have hfd:=s7
  by_cases h16:16<d+1
  ·have HO:Hid (s6 3 aa (σ.must s z)=σ.opened s z d):=by show _=_;rw [<- OE,if_pos h16]
   clear OE
   first
    | (show Calls Tryz.prog 308 _ _ _;go_enter Tryz.func308,Tryz.ntmps308)
    | (show Calls Tryz.prog 351 _ _ _;go_enter Tryz.func351,Tryz.ntmps351)
    | (show Calls Tryz.prog 254 _ _ _;go_enter Tryz.func254,Tryz.ntmps254)
   go_wp2_with fail
   refine (gJ.out _ rfl).mono ?_
   rintro r w0 ⟨rfl,hb0⟩
   have qM:=hid (HH.out.below hb0)
   have pH:Hid (Kept b w w0):=Kept.below hb0
   clear hb0
   go_wp2_with fail
   refine (b8 qM.out z hf).mono ?_
   rintro r w1 ⟨rfl,hp1,hk1⟩
   have c2:=hp1.h2
   have f2:=hp1.fz 2
   have bT:=hid hp1
   have bD:=hid (pH.out.trans hk1)
   clear hp1 hk1
   go_wp2_with fail
   refine (wH (bT.out.deep (d':=d+1) _ rfl) 3 _ (by decide)).mono ?_
   rintro r w2 ⟨rfl,hp2,hk2⟩
   rw [HO.out] at hp2
   have HP2:Hid (PS b c cap len s (d+1) (σ.opened s z d) w2):=hp2
   have aY:Hid (Kept b w w2):=(bD.out.setCell 2 _).trans hk2
   clear hp2 hk2 c2 f2
   go_wp2_with fail
   refine (Mz.out _ aY.out HP2.out).mono ?_
   rintro r w3 ⟨v3,rfl,hp3,hk3,hi3,hr3⟩
   have c2:=hp3.h2
   have f2:=hp3.fz 2
   have cS:=hid hp3
   have bH:=hid (aY.out.trans hk3)
   have HI3:=hid hi3
   have HR3:=hid hr3
   have hz:=aY.out.size
   clear hp3 hk3 hi3 hr3
   go_wp2_with fail
   go_ret
   exact ⟨_,rfl,cS.out.deep (d':=d) _ (by omega),bH.out.setCell 2 _,HI3.out,λhl=>((HR3.out hl).kept ((Kept.refl b w3).setCell 2 _) (by omega) (aF _)).wide (by omega) (by simp [World.setCell])⟩
  ·have HO:Hid (σ.must s z=σ.opened s z d):=by show _=_;rw [<- OE,if_neg h16]
   clear OE
   first
    | (show Calls Tryz.prog 308 _ _ _;go_enter Tryz.func308,Tryz.ntmps308)
    | (show Calls Tryz.prog 351 _ _ _;go_enter Tryz.func351,Tryz.ntmps351)
    | (show Calls Tryz.prog 254 _ _ _;go_enter Tryz.func254,Tryz.ntmps254)
   go_wp2_with fail
   refine (gJ.out _ rfl).mono ?_
   rintro r w0 ⟨rfl,hb0⟩
   have qM:=hid (HH.out.below hb0)
   have pH:Hid (Kept b w w0):=Kept.below hb0
   clear hb0
   go_wp2_with fail
   refine (b8 qM.out z hf).mono ?_
   rintro r w1 ⟨rfl,hp1,hk1⟩
   have c2:=hp1.h2
   have f2:=hp1.fz 2
   rw [HO.out] at hp1
   have bT:=hid hp1
   have bD:=hid (pH.out.trans hk1)
   clear hp1 hk1
   go_wp2_with fail
   refine (Mz.out _ (bD.out.setCell 2 _) (bT.out.deep (d':=d+1) _ rfl)).mono ?_
   rintro r w3 ⟨v3,rfl,hp3,hk3,hi3,hr3⟩
   clear c2 f2
   have c2:=hp3.h2
   have f2:=hp3.fz 2
   have hz:w.heap.size<=w1.heap.size:=bD.out.size
   have cS:=hid hp3
   have bH:Hid (Kept b w w3):=(bD.out.setCell 2 _).trans hk3
   have HI3:=hid hi3
   have HR3:Hid (τ.aA=true->Rq w3 nd w1.heap.size w3.heap.size v3):=λhl=>by have:=hr3 hl;simpa [World.setCell] using this
   clear hp3 hk3 hi3 hr3
   go_wp2_with fail
   go_ret
   exact ⟨_,rfl,cS.out.deep (d':=d) _ (by omega),bH.out.setCell 2 _,HI3.out,λhl=>((HR3.out hl).kept ((Kept.refl b w3).setCell 2 _) (by omega) (aF _)).wide (by omega) (by simp [World.setCell])⟩
def Enc (fn e1 en op:Nat) (ft:TypeId) (Sh:Value->Prop):Prop:=(fn=175/\e1=350/\en=345/\op=308/\ft=308/\Sh=aQ)\/(fn=174/\e1=352/\en=346/\op=351/\ft=307/\Sh=qJ)\/(fn=83/\e1=255/\en=215/\op=254/\ft=180/\Sh=aQ)
theorem IQ {fn e1 en op:Nat} {ft:TypeId} {Sh:Value->Prop} (hv:Enc fn e1 en op ft Sh) {b c cap len:Nat} {s:Sp.Bs} {d:Nat} {σ:St} {w:World} (h:PS b c cap len s d σ w) (qi qp:Nat) (hi:w.cell? ⟨qi,0,none⟩=some (.func (.func fn) #[.pointer (some ⟨b,0,none⟩)] #[])) (hq:w.cell? ⟨qp,0,none⟩=some (.pointer (some ⟨b,0,none⟩))) (lq:qp<w.heap.size) (ne:qp≠b) (τ:St) (nd:Nd)
  (hin:Calls Tryz.prog fn #[.pointer (some ⟨b,0,none⟩)] w (aX b c cap len s d τ w Sh λw'' v=>Rq w'' nd w.heap.size w''.heap.size v)) :
  Calls Tryz.prog e1 #[.pointer (some ⟨qi,0,none⟩), .pointer (some ⟨qp,0,none⟩)] w (aX b c cap len s d (τ.must s [41]) w Sh λw'' v=>Rq w'' nd w.heap.size w''.heap.size v):=by
 have hbw:=h.lb
 have Mz:=jL hin
 have HQ:Hid (∀ w',Kept b w w'->w'.cell? ⟨qp,0,none⟩=some (.pointer (some ⟨b,0,none⟩))):=λw' k=>(k.cell (p:=⟨qp,0,none⟩) lq ne).trans hq
 clear hin h hq
 rcases hv with ⟨rfl,rfl,rfl,rfl,rfl,rfl⟩ | ⟨rfl,rfl,rfl,rfl,rfl,rfl⟩ | ⟨rfl,rfl,rfl,rfl,rfl,rfl⟩
 all_goals
  first
   | (show Calls Tryz.prog 350 _ _ _;go_enter Tryz.func350,Tryz.ntmps350)
   | (show Calls Tryz.prog 352 _ _ _;go_enter Tryz.func352,Tryz.ntmps352)
   | (show Calls Tryz.prog 255 _ _ _;go_enter Tryz.func255,Tryz.ntmps255)
  go_wp2_with fail
  refine (Mz.out _ rfl).mono ?_
  rintro r w1 ⟨v1,rfl,hp1,hk1,hi1,hr1⟩
  have hq1:=HQ.out w1 hk1
  have bT:=hid hp1
  have bD:=hid hk1
  have HI1:=hid hi1
  have HR1:=hid hr1
  clear hp1 hk1 hi1 hr1
  go_wp2_with fail
  refine (b8 bT.out [41] (by decide)).mono ?_
  rintro r w2 ⟨rfl,hp2,hk2⟩
  have HP2:=hid hp2
  have aY:=hid hk2
  clear hp2 hk2
  go_wp2_with fail
  go_ret
  exact ⟨_,rfl,HP2.out,bD.out.trans aY.out,HI1.out,λhl=>((HR1.out (bK hl)).kept aY.out hbw (aF _)).wide (aF _) aY.out.size⟩
theorem iW {fn e1 en op:Nat} {ft:TypeId} {Sh:Value->Prop} (hv:Enc fn e1 en op ft Sh) {b c cap len:Nat} {s:Sp.Bs} {d:Nat} {σ:St} {w:World} (h:PS b c cap len s d σ w) (hd:d<=1000000) (τ:St) (nd:Nd)
  (hin:∀ w',PS b c cap len s (d+1) (σ.opened s [40] d) w'->Calls Tryz.prog fn #[.pointer (some ⟨b,0,none⟩)] w' (aX b c cap len s (d+1) τ w' Sh λw'' v=>Rq w'' nd w'.heap.size w''.heap.size v)) :
  Calls Tryz.prog en #[.pointer (some ⟨b,0,none⟩), .func (.func fn) #[.pointer (some ⟨b,0,none⟩)] #[]] w (aX b c cap len s d (τ.must s [41]) w Sh λw'' v=>Rq w'' nd w.heap.size w''.heap.size v):=by
 have hbw:=h.lb
 have O:∀ w0,w0=((w.alloc (.cells #[.pointer (some ⟨b,0,none⟩)] 157)).alloc (.cells #[.func (.func fn) #[.pointer (some ⟨b,0,none⟩)] #[]] ft))->Calls Tryz.prog op #[.pointer (some ⟨b,0,none⟩), .string ⟨#[40]⟩, .func (.func e1) #[] #[.pointer (some ⟨w.heap.size+1,0,none⟩), .pointer (some ⟨w.heap.size,0,none⟩)]] w0 (aX b c cap len s d (τ.must s [41]) w0 Sh λw'' v=>Rq w'' nd w0.heap.size w''.heap.size v):=by
  intro w0 e0
  subst e0
  have hb:=h.lb
  refine qL (.inr ⟨w.heap.size+1,w.heap.size,by rcases hv with ⟨_,h1,_,h2,_,h3⟩ | ⟨_,h1,_,h2,_,h3⟩ | ⟨_,h1,_,h2,_,h3⟩ <;> simp [h1,h2,h3],rfl,rfl,rfl⟩) ((h.alloc _).alloc _) [40] (by decide) hd _ nd ?_
  intro w' k hp
  refine IQ hv hp _ _ ?_ ?_ ?_ (by omega) τ nd (hin w' hp)
  ·refine (k.cell (p:=⟨w.heap.size+1,0,none⟩) (by simp) (by simp;omega)).trans ?_
   have e:w.heap.size+1=(w.alloc (.cells #[.pointer (some ⟨b,0,none⟩)] 157)).heap.size:=by simp
   rw [e,oZ];rfl
  ·refine (k.cell (p:=⟨w.heap.size,0,none⟩) (by simp;omega) (by simp;omega)).trans ?_
   rw [World.cell?_alloc_lt _ _ _ (by simp),oZ];rfl
  ·exact bY (by simp;omega) k.size
 have HO:=hid O
 clear O hin h
 have hmf:=lN
 rcases hv with ⟨rfl,rfl,rfl,rfl,rfl,rfl⟩ | ⟨rfl,rfl,rfl,rfl,rfl,rfl⟩ | ⟨rfl,rfl,rfl,rfl,rfl,rfl⟩
 all_goals
  first
   | (show Calls Tryz.prog 345 _ _ _;go_enter Tryz.func345,Tryz.ntmps345)
   | (show Calls Tryz.prog 346 _ _ _;go_enter Tryz.func346,Tryz.ntmps346)
   | (show Calls Tryz.prog 215 _ _ _;go_enter Tryz.func215,Tryz.ntmps215)
  go_wp2_with fail
  refine (HO.out _ rfl).mono ?_
  rintro r w1 ⟨v1,rfl,hp1,hk1,hi1,hr1⟩
  have bT:=hid hp1
  have bD:Hid (Kept b w w1):=(((Kept.refl b w).alloc _).alloc _).trans hk1
  have HI1:=hid hi1
  have HR1:Hid ((τ.must s [41]).aA=true->Rq w1 nd w.heap.size w1.heap.size v1):=λhl=>(hr1 hl).wide (by simp;omega) (aF _)
  clear hp1 hk1 hi1 hr1
  go_wp2_with fail
  go_ret
  exact ⟨_,rfl,bT.out,bD.out,HI1.out,HR1.out⟩
end Go.Proofs.YtgnncnhkgmhngaaGreatDoor
