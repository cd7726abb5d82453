import Derived.Test.YtgnncnhkgmhngaaGreatDoorJ28
set_option maxHeartbeats 4000000
namespace Go.Proofs.YtgnncnhkgmhngaaGreatDoor
open Go.RowKit
attribute [local go_sem ↓] Go.wp_at_zero Go.wp_at_succ
theorem Bk.kept2 {b q:Nat} {w w' : World} {p:Nat} {vs:List Value} (h:Bk w p vs) (k:Kept2 b q w w') (ne:p≠b) (nq:p≠q):Bk w' p vs:=h.same k.size (k.block p h.lt ne nq)
theorem Bk.set1 {w:World} {q:Nat} {x:Value} (h:Bk w q [x]) (x' : Value):Bk (w.setCell ⟨q,0,none⟩ x') q [x']:=by
 have c0:=h.k0
 have lt:=h.lt
 have F:Hid (∀ j,w.frozen? ⟨q,j,none⟩=false):=h.f
 refine ⟨by simpa [World.setCell] using h.lt,?_,fun j=>?_⟩
 ·intro j hj
  match j,hj with
  | 0,_=>clear F h;go_simp
 ·have f:=F.out j
  clear F h
  go_simp
theorem Bk.putO {w:World} {q p:Nat} {vs:List Value} (h:Bk w p vs) (o:Nat) (u:Value) (ne:p≠q):Bk (w.setCell ⟨q,o,none⟩ u) p vs:=h.same (by simp [World.setCell]) (Below.heap_setCell _ _ _ _ ne)
theorem live_ctT {s:Sp.Bs} {σ:Sp.St} (h:(ctT s σ).isLive=true):σ.isLive=true:=by
 unfold ctT at h
 split at h
 ·exact Sp.live_step h
 ·exact (Sp.live_fail h).elim
theorem create1_any {b c cap len q qp k:Nat} {s:Sp.Bs} {d:Nat} {σ:Sp.St} {w:World} (h:PS b c cap len s d σ w) (hq:Bk w q [.int .i64 (k:Int)]) (hqp:Bk w qp [.pointer (some ⟨b,0,none⟩)]) (h1:q≠b) (h2:c<q) (h3:qp≠b) (h4:qp≠q) (hk:k<=6) :
  Calls Tryz.prog 124 #[.pointer (some ⟨q,0,none⟩), .pointer (some ⟨qp,0,none⟩)] w fun r w'=>∃ v,r = .returned v/\PS b c cap len s d (coT s k σ) w'/\Kept2 b q w w'/\Bk w' q [.int .i64 ((k+1:Nat):Int)]/\IsNc v/\((coT s k σ).isLive=true->v = .agg #[.string (bz ((coS s k σ).nm s).1), .int .i64 (((coS s k σ).nm s).2:Nat), .int .i64 (Sp.colTy s ((coS s k σ).nameT s))]):=by
 have hbw:=h.lb
 have hcw:=h.lc
 have hql:=hq.lt
 have hqpl:=hqp.lt
 have HP0:Hid (PS b c cap len s d σ ((w.setCell ⟨q,0,none⟩ (.int .i64 ((k:Int)+1))).alloc (.cells #[.string ⟨#[]⟩, .int .i64 0, .int .i64 0] 228))):=(h.put q 0 h1 h2 _).alloc _
 have HK0:Hid (Kept2 b q w ((w.setCell ⟨q,0,none⟩ (.int .i64 ((k:Int)+1))).alloc (.cells #[.string ⟨#[]⟩, .int .i64 0, .int .i64 0] 228))):=((Kept2.refl b q w).setCell 0 _).trans (Kept2.of ((Kept.refl b _).alloc _))
 have HB0:Hid (Bk ((w.setCell ⟨q,0,none⟩ (.int .i64 ((k:Int)+1))).alloc (.cells #[.string ⟨#[]⟩, .int .i64 0, .int .i64 0] 228)) w.heap.size [.string ⟨#[]⟩, .int .i64 0, .int .i64 0]):=by
  have:=Bk.new (w.setCell ⟨q,0,none⟩ (.int .i64 ((k:Int)+1))) #[.string ⟨#[]⟩, .int .i64 0, .int .i64 0] 228
  have e:(w.setCell ⟨q,0,none⟩ (.int .i64 ((k:Int)+1))).heap.size=w.heap.size:=by simp [World.setCell]
  rw [e] at this
  exact this
 have HQ0:Hid (Bk ((w.setCell ⟨q,0,none⟩ (.int .i64 ((k:Int)+1))).alloc (.cells #[.string ⟨#[]⟩, .int .i64 0, .int .i64 0] 228)) q [.int .i64 ((k:Int)+1)]):=(hq.set1 _).alloc _
 have HY0:Hid (Bk ((w.setCell ⟨q,0,none⟩ (.int .i64 ((k:Int)+1))).alloc (.cells #[.string ⟨#[]⟩, .int .i64 0, .int .i64 0] 228)) qp [.pointer (some ⟨b,0,none⟩)]):=(hqp.putO 0 _ h4).alloc _
 have cq:=hq.k0
 have fq:=hq.f 0
 have cp:=hqp.k0
 have e0:=HQ0.out.k0
 have e1:=HY0.out.k0
 clear h hq hqp
 by_cases h6:¬ k<6
 ·have HE:Hid (coS s k σ=σ.fail s 2/\coT s k σ=ctT s ((σ.fail s 2).nameT s)):=by
   obtain rfl:k=6:=by omega
   exact ⟨rfl,rfl⟩
  go_enter Tryz.func124,Tryz.ntmps124
  go_wp2_with fail
  refine (refuse_any HP0.out).mono ?_
  rintro r w1 ⟨rfl,hp1,hk1⟩
  have HP1:=hid hp1
  have HK1:Hid (Kept2 b q w w1):=HK0.out.trans (Kept2.of hk1)
  have HB1:Hid (Bk w1 w.heap.size [.string ⟨#[]⟩, .int .i64 0, .int .i64 0]):=HB0.out.kept hk1 (by omega)
  have HQ1:Hid (Bk w1 q [.int .i64 ((k:Int)+1)]):=HQ0.out.kept hk1 h1
  have HY1:Hid (Bk w1 qp [.pointer (some ⟨b,0,none⟩)]):=HY0.out.kept hk1 h3
  have y1:=HY1.out.k0
  clear hp1 hk1
  go_wp2_with fail
  go_region_held3 (fun w'=>w'.cell? ⟨qp,0,none⟩=some (.pointer (some ⟨b,0,none⟩))) (first | go_keep | exact y2 | exact y3 | go_simp) (first | (go_at_call 79;refine (name_any HP1.out.drew).mono ?_;rintro e w2 ⟨v2,rfl,hp2,hk2,⟨wd2,a2,rfl⟩,hr2⟩;have hk2' : Kept b w1 w2:=((Kept.refl b w1).drew).trans hk2;have hY2:=HY1.out.kept hk2' h3;have y2:=hY2.k0) | (go_at_call 125;refine (columnType_any hp2).mono ?_;rintro e w3 ⟨v3,rfl,hp3,hk3,⟨t3,rfl⟩,hr3⟩;have hY3:=hY2.kept hk3 h3;have y3:=hY3.c 0 (by simp);have hB3:=(HB1.out.kept hk2' (by omega)).kept hk3 (by omega);have c0:=hB3.c 0 (by decide);have c1:=hB3.c 1 (by decide);have c2:=hB3.c 2 (by decide);have f0:=hB3.f 0;have f1:=hB3.f 1;have f2:=hB3.f 2;have hne:w.heap.size≠qp:=(by omega);have hne' : qp≠w.heap.size:=(by omega);simp only [List.getElem_cons_zero,List.getElem_cons_succ] at y3 c0 c1 c2))
  have HP3:=hid hp3
  have HK3:Hid (Kept2 b q w w3):=HK1.out.trans (Kept2.of (hk2'.trans hk3))
  have HQ3:Hid (Bk w3 q [.int .i64 ((k:Int)+1)]):=HQ1.out.kept (hk2'.trans hk3) h1
  have HR2:Hid ((Sp.St.nameT s (σ.fail s 2)).isLive=true->wd2=bz (Sp.St.nm s (σ.fail s 2)).1/\a2=((Sp.St.nm s (σ.fail s 2)).2:Nat)):=fun hl=>agg2n (hr2 hl)
  have HR3:Hid ((ctT s (Sp.St.nameT s (σ.fail s 2))).isLive=true->t3=Sp.colTy s (Sp.St.nameT s (σ.fail s 2))):=fun hl=>by have:=hr3 hl;injection this
  clear hp2 hk2 hr2 hk2' hY2 hp3 hk3 hr3 hY3 hB3 y1 y2 y3
  go_wp2_with fail
  refine bodyPost_ret (v := .agg #[.string wd2, .int .i64 a2, .int .i64 t3]) (by simp [results,Tryz.results124,go_sem, *]) rfl ⟨_,rfl,?_,((HK3.out.setNew (by simp) _).setNew (by simp) _).setNew (by simp) _,?_,⟨_,_,_,rfl⟩,fun hl=>?_⟩
  ·rw [HE.out.2]
   exact ((HP3.out.put w.heap.size 0 (by omega) (by omega) _).put w.heap.size 1 (by omega) (by omega) _).put w.heap.size 2 (by omega) (by omega) _
  ·have:=((HQ3.out.putO (q:=w.heap.size) 0 (.string wd2) (by omega)).putO (q:=w.heap.size) 1 (.int .i64 a2) (by omega)).putO (q:=w.heap.size) 2 (.int .i64 t3) (by omega)
   simpa using this
  ·rw [HE.out.2] at hl
   rw [HE.out.1]
   obtain ⟨u1,u2⟩:=HR2.out (live_ctT hl)
   rw [u1,u2,HR3.out hl]
 ·have HE:Hid (coS s k σ=σ/\coT s k σ=ctT s (σ.nameT s)):=by
   have:(k == 6)=false:=by simp;omega
   exact ⟨by unfold coS;rw [this];rfl,by unfold coT coS;rw [this];rfl⟩
  go_enter Tryz.func124,Tryz.ntmps124
  go_wp2_with fail
  generalize hw1:((w.setCell ⟨q,0,none⟩ (.int .i64 ((k:Int)+1))).alloc (.cells #[.string ⟨#[]⟩, .int .i64 0, .int .i64 0] 228))=w1 at *
  have HP1:Hid (PS b c cap len s d σ w1):=HP0.out
  have HK1:Hid (Kept2 b q w w1):=HK0.out
  have HB1:Hid (Bk w1 w.heap.size [.string ⟨#[]⟩, .int .i64 0, .int .i64 0]):=HB0.out
  have HQ1:Hid (Bk w1 q [.int .i64 ((k:Int)+1)]):=HQ0.out
  have HY1:Hid (Bk w1 qp [.pointer (some ⟨b,0,none⟩)]):=HY0.out
  have y1:=HY1.out.k0
  clear hw1
  go_region_held3 (fun w'=>w'.cell? ⟨qp,0,none⟩=some (.pointer (some ⟨b,0,none⟩))) (first | go_keep | exact y2 | exact y3 | go_simp) (first | (go_at_call 79;refine (name_any HP1.out.drew).mono ?_;rintro e w2 ⟨v2,rfl,hp2,hk2,⟨wd2,a2,rfl⟩,hr2⟩;have hk2' : Kept b w1 w2:=((Kept.refl b w1).drew).trans hk2;have hY2:=HY1.out.kept hk2' h3;have y2:=hY2.k0) | (go_at_call 125;refine (columnType_any hp2).mono ?_;rintro e w3 ⟨v3,rfl,hp3,hk3,⟨t3,rfl⟩,hr3⟩;have hY3:=hY2.kept hk3 h3;have y3:=hY3.c 0 (by simp);have hB3:=(HB1.out.kept hk2' (by omega)).kept hk3 (by omega);have c0:=hB3.c 0 (by decide);have c1:=hB3.c 1 (by decide);have c2:=hB3.c 2 (by decide);have f0:=hB3.f 0;have f1:=hB3.f 1;have f2:=hB3.f 2;have hne:w.heap.size≠qp:=(by omega);have hne' : qp≠w.heap.size:=(by omega);simp only [List.getElem_cons_zero,List.getElem_cons_succ] at y3 c0 c1 c2))
  have HP3:=hid hp3
  have HK3:Hid (Kept2 b q w w3):=HK1.out.trans (Kept2.of (hk2'.trans hk3))
  have HQ3:Hid (Bk w3 q [.int .i64 ((k:Int)+1)]):=HQ1.out.kept (hk2'.trans hk3) h1
  have HR2:Hid ((Sp.St.nameT s σ).isLive=true->wd2=bz (Sp.St.nm s σ).1/\a2=((Sp.St.nm s σ).2:Nat)):=fun hl=>agg2n (hr2 hl)
  have HR3:Hid ((ctT s (Sp.St.nameT s σ)).isLive=true->t3=Sp.colTy s (Sp.St.nameT s σ)):=fun hl=>by have:=hr3 hl;injection this
  clear hp2 hk2 hr2 hk2' hY2 hp3 hk3 hr3 hY3 hB3 y1 y2 y3
  go_wp2_with fail
  refine bodyPost_ret (v := .agg #[.string wd2, .int .i64 a2, .int .i64 t3]) (by simp [results,Tryz.results124,go_sem, *]) rfl ⟨_,rfl,?_,((HK3.out.setNew (by simp) _).setNew (by simp) _).setNew (by simp) _,?_,⟨_,_,_,rfl⟩,fun hl=>?_⟩
  ·rw [HE.out.2]
   exact ((HP3.out.put w.heap.size 0 (by omega) (by omega) _).put w.heap.size 1 (by omega) (by omega) _).put w.heap.size 2 (by omega) (by omega) _
  ·have:=((HQ3.out.putO (q:=w.heap.size) 0 (.string wd2) (by omega)).putO (q:=w.heap.size) 1 (.int .i64 a2) (by omega)).putO (q:=w.heap.size) 2 (.int .i64 t3) (by omega)
   simpa using this
  ·rw [HE.out.2] at hl
   rw [HE.out.1]
   obtain ⟨u1,u2⟩:=HR2.out (live_ctT hl)
   rw [u1,u2,HR3.out hl]
end Go.Proofs.YtgnncnhkgmhngaaGreatDoor
namespace Go.Proofs.YtgnncnhkgmhngaaGreatDoor
open Go.RowKit
theorem Kept2.alloc {b q:Nat} {a w:World} (h:Kept2 b q a w) (o:Obj):Kept2 b q a (w.alloc o):=h.trans (Kept2.of ((Kept.refl b w).alloc o))
theorem Kept2.grown {b q:Nat} {a w w' : World} {g:Nat} (h:Kept2 b q a w) (k:w.grownBy w' (some g)) (hg:a.heap.size<=g):Kept2 b q a w':=
 ⟨k.os.trans h.os,k.tape.trans h.tape,k.output.trans h.output,Nat.le_trans h.size k.size,fun i hi hb hq=>(k.block i (Nat.lt_of_lt_of_le hi h.size) (by intro e;injection e with e;omega)).trans (h.block i hi hb hq)⟩
def coN (s:Sp.Bs) (k:Nat) (σ:Sp.St):Sp.Nm×Int:=((coS s k σ).nm s,Sp.colTy s ((coS s k σ).nameT s))
def colC (n:Sp.Nm×Int):List Value := [.string (bz n.1.1), .int .i64 (n.1.2:Nat), .int .i64 n.2]
def ClV (w:World) (ns:List (Sp.Nm×Int)) (lo hi:Nat) (v:Value):Prop:=
 ∃ g kc,v = .slice (some ⟨g,0,none⟩) ns.length kc/\lo<=g/\g<hi/\∀ j u,(ns.flatMap colC)[j]?=some u->w.cell? ⟨g,j,none⟩=some u
theorem ClV.frame {w w' : World} {ns:List (Sp.Nm×Int)} {lo hi:Nat} {v:Value} (h:ClV w ns lo hi v) (hk:∀ k,lo<=k->k<hi->w'.heap[k]?=w.heap[k]?):ClV w' ns lo hi v:=by
 obtain ⟨g,kc,e,h1,h2,h3⟩:=h
 exact ⟨g,kc,e,h1,h2,fun j u hj=>(World.cell?_of_block (w:=w) (a:=⟨g,j,none⟩) (hk g h1 h2)).trans (h3 j u hj)⟩
theorem rem_ctT (s:Sp.Bs) (σ:Sp.St):Sp.rem s (ctT s σ)<=Sp.rem s σ:=by
 unfold ctT
 split
 ·exact Sp.rem_step_le _ _
 ·rw [Sp.rem_fail];omega
theorem rem_coS (s:Sp.Bs) (k:Nat) (σ:Sp.St):Sp.rem s (coS s k σ)<=Sp.rem s σ:=by
 unfold coS
 split
 ·rw [Sp.rem_fail];omega
 ·exact Nat.le_refl _
theorem rem_coT (s:Sp.Bs) (k:Nat) (σ:Sp.St):Sp.rem s (coT s k σ)<=Sp.rem s σ:=Nat.le_trans (rem_ctT _ _) (Nat.le_trans (Sp.rem_nameT _ _) (rem_coS _ _ _))
theorem live_coT {s:Sp.Bs} {k:Nat} {σ:Sp.St} (h:(coT s k σ).isLive=true):k≠6:=by
 rintro rfl
 have h1:=Sp.live_nameT (live_ctT h)
 exact Sp.live_fail (σ:=σ) (s:=s) h1
def ncT (s:Sp.Bs) (m k:Nat) (σ:Sp.St):Sp.St:=if σ.is s [44] then Sp.colL s m k (σ.step s) else σ
def ncN (s:Sp.Bs) (m k:Nat) (σ:Sp.St):List (Sp.Nm×Int):=if σ.is s [44] then Sp.colTs s m k (σ.step s) else []
theorem col_eq (s:Sp.Bs) (m k:Nat) (σ:Sp.St):Sp.colL s (m+1) k σ=ncT s m (k+1) (coT s k σ):=by unfold Sp.colL;rfl
theorem colN_eq (s:Sp.Bs) (m k:Nat) (σ:Sp.St):Sp.colTs s (m+1) k σ=coN s k σ::ncN s m (k+1) (coT s k σ):=by unfold Sp.colTs;rfl
theorem infoNewCol:(Tryz.prog.info? 228).map (fun i=>(i.zero,i.size,i.bytes))=some (some (.agg #[.string ⟨#[]⟩, .int .i64 0, .int .i64 0]),3,32):=by kernel_rfl
theorem agg3s {x y:ByteArray} {a c q r:Int} (h:Value.agg #[.string x, .int .i64 a, .int .i64 q] = .agg #[.string y, .int .i64 c, .int .i64 r]):x=y/\a=c/\q=r:=by
 simp only [Value.agg.injEq] at h
 have e0:=congrArg (fun x:Array Value=>x[0]?) h
 have e1:=congrArg (fun x:Array Value=>x[1]?) h
 have e2:=congrArg (fun x:Array Value=>x[2]?) h
 simp at e0 e1 e2
 exact ⟨e0,e1,e2⟩
theorem listCol_any {b c cap len q qp:Nat} {s:Sp.Bs} {m:Nat} {σ:Sp.St} {w:World} (_hmn:m<=900000) (hmm:32*Sp.rem s σ<=m+1) (hp:PS b c cap len s 0 σ w) (hq:Bk w q [.int .i64 (0:Int)]) (hqp:Bk w qp [.pointer (some ⟨b,0,none⟩)]) (h1:q≠b) (h2:c<q) (h3:qp≠b) (h4:qp≠q) :
  Calls Tryz.prog 123 #[.pointer (some ⟨b,0,none⟩), .func (.func 124) #[] #[.pointer (some ⟨q,0,none⟩), .pointer (some ⟨qp,0,none⟩)]] w fun r w'=>∃ v,r = .returned v/\PS b c cap len s 0 (Sp.colL s (m+1) 0 σ) w'/\Kept2 b q w w'/\IsSl v/\((Sp.colL s (m+1) 0 σ).isLive=true->ClV w' (Sp.colTs s (m+1) 0 σ) w.heap.size w'.heap.size v):=by
 obtain ⟨i0,ji,jz0,jz1,jz2⟩:=info_parts infoNewCol
 have hr:=rem_coT s 0 σ
 have hbw:=hp.lb
 have hcw:=hp.lc
 have h5c:=hp.h5.1
 have hql:=hq.lt
 have hqpl:=hqp.lt
 have HP:=hid hp
 have HQ:Hid (Bk w q [.int .i64 ((0:Nat):Int)]):=hq
 have HY:=hid hqp
 clear hp hq hqp
 go_enter Tryz.func123,Tryz.ntmps123
 go_wp2_with fail
 refine (create1_any HP.out HQ.out HY.out h1 h2 h3 h4 (by omega)).mono ?_
 rintro r w1 ⟨v1,rfl,hp1,hk1,hq1,⟨x1,a1,t1,rfl⟩,hr1⟩
 have HP1:Hid (PS b c cap len s 0 (coT s 0 σ) (w1.alloc (.cells #[.string x1, .int .i64 a1, .int .i64 t1] 228))):=hp1.alloc _
 have HK1:Hid (Kept2 b q w (w1.alloc (.cells #[.string x1, .int .i64 a1, .int .i64 t1] 228))):=hk1.alloc _
 have HQ1:Hid (Bk (w1.alloc (.cells #[.string x1, .int .i64 a1, .int .i64 t1] 228)) q [.int .i64 ((0+1:Nat):Int)]):=hq1.alloc _
 have HY1:Hid (Bk (w1.alloc (.cells #[.string x1, .int .i64 a1, .int .i64 t1] 228)) qp [.pointer (some ⟨b,0,none⟩)]):=(HY.out.kept2 hk1 h3 h4).alloc _
 have hz1':=hk1.size
 have HO1:Hid ((w1.alloc (.cells #[.string x1, .int .i64 a1, .int .i64 t1] 228)).ownsRow w.heap.size 228 3 (.slice (some ⟨w1.heap.size,0,none⟩) 1 1) 1 [.string x1, .int .i64 a1, .int .i64 t1]):=owns_new w1 w.heap.size hz1' 228 3 #[.string x1, .int .i64 a1, .int .i64 t1] 1 rfl (by unfold maxLen;omega)
 have HR1:Hid ((coT s 0 σ).isLive=true -> [.string x1, .int .i64 a1, .int .i64 t1] = [coN s 0 σ].flatMap colC):=fun hl=>by
  obtain ⟨e0,e1,e2⟩:=agg3s (hr1 hl)
  rw [e0,e1,e2]
  rfl
 clear hp1 hk1 hq1 hr1 HP HQ HY
 go_wp2_with fail
 go_loopg [5] m (fun gm v wr=>gm<=m/\∃ (σ' : Sp.St) (ns:List (Sp.Nm×Int)) (g k kc:Nat),v = .slice (some ⟨g,0,none⟩) k kc/\k+gm<=m+1/\32*Sp.rem s σ'<=gm+1/\Hid (σ'.isLive=true->k<=6)/\w.heap.size<=g/\g<wr.heap.size/\Hid (k=ns.length)/\Hid (Sp.colL s (m+1) 0 σ=ncT s gm k σ')/\Hid (Sp.colTs s (m+1) 0 σ=ns++ncN s gm k σ')/\Hid (PS b c cap len s 0 σ' wr)/\Hid (Kept2 b q w wr)/\Hid (Bk wr q [.int .i64 (k:Int)])/\Hid (Bk wr qp [.pointer (some ⟨b,0,none⟩)])/\Hid (∃ ys,wr.ownsRow w.heap.size 228 3 (.slice (some ⟨g,0,none⟩) k kc) k ys/\(σ'.isLive=true->ys=ns.flatMap colC)))
 case atStart=>exact ⟨Nat.le_refl _,_, [coN s 0 σ],w1.heap.size,1,1,rfl,by omega,by omega,fun _=>by omega,hz1',by simp,rfl,col_eq s m 0 σ,colN_eq s m 0 σ,HP1.out,HK1.out,HQ1.out,HY1.out,⟨_,HO1.out,HR1.out⟩⟩
 case round=>
  obtain ⟨hgm,σ',ns,g,k,kc,rfl,hkg,hms,HK6,hgw,hgr,HKN,HR,HRT,HPr,HKr,HQr,HYr,HOr⟩:=hrel
  have hgq:g≠q:=by omega
  have hgqp:g≠qp:=by omega
  cases hs:σ'.is s [44]
  ·have HV:Hid (ncT s gk k σ'=σ'):=by show _=_;rw [ncT,hs];rfl
   have HVT:Hid (ncN s gk k σ' = []):=by show _=_;rw [ncN,hs];rfl
   have HT:Hid (σ'.take s [44]=σ'):=take_no hs
   go_wp2_with fail
   refine (accept1 HPr.out [44] (by decide)).mono ?_
   rintro r w2 ⟨rfl,hp2,hk2⟩
   rw [HT.out] at hp2
   rw [hs]
   have HP2:Hid (PS b c cap len s 0 σ' w2):=hp2
   have HK2:=hid hk2
   clear hp2 hk2
   go_wp2_with fail
   go_ret
   refine ⟨_,rfl,by rw [HR.out,HV.out];exact HP2.out,HKr.out.trans (Kept2.of HK2.out),⟨_,_,_,rfl⟩,fun hl=>?_⟩
   rw [HR.out,HV.out] at hl
   have hz2:=HK2.out.size
   obtain ⟨ys,O,ey⟩:=HOr.out
   have O2:=owns_same O (HK2.out.block g hgr (by omega))
   refine ⟨g,kc,?_,hgw,by omega,fun j u hj=>?_⟩
   ·have ek:(Sp.colTs s (m+1) 0 σ).length=k:=by rw [HRT.out,HVT.out,List.append_nil];exact HKN.out.symm
    rw [ek];rfl
   ·rw [HRT.out,HVT.out,List.append_nil,<- ey hl] at hj
    exact owns_cells O2 j u hj
  ·have hlt:=Sp.rem_step_lt hs
   obtain ⟨m',rfl⟩:∃ m',gk=m'+1:=⟨gk - 1,by omega⟩
   have HV:Hid (ncT s (m'+1) k σ'=ncT s m' (k+1) (coT s k (σ'.step s))):=by show _=_;rw [ncT,hs];exact col_eq s m' k _
   have HVT:Hid (ncN s (m'+1) k σ'=coN s k (σ'.step s)::ncN s m' (k+1) (coT s k (σ'.step s))):=by show _=_;rw [ncN,hs];exact colN_eq s m' k _
   have HT:Hid (σ'.take s [44]=σ'.step s):=take_yes hs
   have HL:Hid (σ'.isLive=true):=Sp.live_is hs
   have hk6:=HK6.out HL.out
   have hrc:=rem_coT s k (σ'.step s)
   go_wp2_with fail
   refine (accept1 HPr.out [44] (by decide)).mono ?_
   rintro r w2 ⟨rfl,hp2,hk2⟩
   rw [HT.out] at hp2
   rw [hs]
   have HP2:Hid (PS b c cap len s 0 (σ'.step s) w2):=hp2
   have HK2:=hid hk2
   have HQ2:Hid (Bk w2 q [.int .i64 (k:Int)]):=HQr.out.kept hk2 h1
   have HY2:Hid (Bk w2 qp [.pointer (some ⟨b,0,none⟩)]):=HYr.out.kept hk2 h3
   clear hp2 hk2
   go_wp2_with fail
   refine (create1_any HP2.out HQ2.out HY2.out h1 h2 h3 h4 hk6).mono ?_
   rintro r w3 ⟨v3,rfl,hp3,hk3,hq3,⟨x3,a3,t3,rfl⟩,hr3⟩
   have HP3:=hid hp3
   have HK3:=hid hk3
   have HQ3:Hid (Bk w3 q [.int .i64 ((k+1:Nat):Int)]):=hq3
   have HY3:Hid (Bk w3 qp [.pointer (some ⟨b,0,none⟩)]):=HY2.out.kept2 hk3 h3 h4
   have HR3:Hid ((coT s k (σ'.step s)).isLive=true -> [.string x3, .int .i64 a3, .int .i64 t3]=colC (coN s k (σ'.step s))):=fun hl=>by
    obtain ⟨e0,e1,e2⟩:=agg3s (hr3 hl)
    rw [e0,e1,e2]
    rfl
   have hcl3:Hid (∀ u∈([.string x3, .int .i64 a3, .int .i64 t3]:List Value),u.oneCell'=true):=(by intro u hu;simp at hu;rcases hu with rfl | rfl | rfl <;> rfl)
   have hz2:=HK2.out.size
   have hz3:=HK3.out.size
   have hzr:=HKr.out.size
   obtain ⟨ys,hO,hey⟩:=HOr.out
   have HEY:=hid hey
   have HO3:Hid (w3.ownsRow w.heap.size 228 3 (.slice (some ⟨g,0,none⟩) k kc) k ys):=owns_same hO (((Kept2.of HK2.out).trans HK3.out).block g hgr (by omega) hgq)
   have HO4:Hid ((w3.alloc (.cells #[.string x3, .int .i64 a3, .int .i64 t3] 228)).ownsRow w.heap.size 228 3 (.slice (some ⟨g,0,none⟩) k kc) k ys):=owns_same HO3.out (Below.heap_alloc _ _ _ (by omega))
   clear hp3 hk3 hq3 hr3 HP2 HPr hO hey HQ2 HY2 HQr HYr
   go_wp2_with (at_builtin;go_must (refine wpList_append_two _ rfl (.tmp 12) (.tmp 15) 225 rfl w.heap.size 228 i0 (.agg #[.string ⟨#[]⟩, .int .i64 0, .int .i64 0]) 3 32 Tryz.underlying225 ji jz0 jz1 jz2 rfl (by decide) g k kc ys rfl HO4.out ⟨w3.heap.size,0,none⟩ 1 [.string x3, .int .i64 a3, .int .i64 t3] rfl rfl ?c1 hcl3.out ?c3 ?c4 ?c5 ?_))
   case c1=>
    intro j u hj
    rw [Addr.add_lit,Nat.zero_add,World.cell?_alloc_new]
    simpa using hj
   case c3=>unfold maxLen;omega
   case c4=>omega
   case c5=>simp;omega
   intro g' kc' w5 hown hgrow hg'
   have HO5:Hid (w5.ownsRow w.heap.size 228 3 (.slice (some ⟨g',0,none⟩) (k+1) kc') (k+1) (ys ++ [.string x3, .int .i64 a3, .int .i64 t3])):=hown
   have HG5:=hid hgrow
   have hg5:=(owns_lt hown)
   clear hown hgrow hg'
   go_wp2_with fail
   go_roundg m'
   case measure=>omega
   case rel=>
    have hz5:w3.heap.size+1<=w5.heap.size:=by have:=HG5.out.size;simpa using this
    have hb5:∀ q,q<w3.heap.size->q≠g->w5.heap[q]?=w3.heap[q]?:=fun q hq hn=>(HG5.out.block q (by simp;omega) (fun e=>by injection e with e;exact hn e)).trans (Below.heap_alloc _ _ _ hq)
    refine ⟨by omega,_,ns ++ [coN s k (σ'.step s)],g',k+1,kc',rfl,by omega,by omega,fun hl=>by have:=live_coT hl;omega,hg5.1,hg5.2,by show _=_;rw [List.length_append,<- HKN.out];rfl,by show _=_;rw [HR.out,HV.out],by show _=_;rw [HRT.out,HVT.out,List.append_assoc];rfl,HP3.out.stay (by omega) (hb5 b (by omega) (by omega)) (hb5 c (by omega) (by omega)) (hb5 5 (by omega) (by omega)),(((HKr.out.trans (Kept2.of HK2.out)).trans HK3.out).alloc _).grown HG5.out hgw,HQ3.out.same (by omega) (hb5 q (by omega) (Ne.symm hgq)),HY3.out.same (by omega) (hb5 qp (by omega) (Ne.symm hgqp)),⟨_,HO5.out,fun hl=>?_⟩⟩
    rw [HEY.out HL.out,HR3.out hl,List.flatMap_append]
    simp
def CrV (w:World) (nm:Sp.Nm) (ns:List (Sp.Nm×Int)) (lo hi:Nat) (v:Value):Prop:=
 ∃ q sl,v = .pointer (some ⟨q,0,none⟩)/\lo<=q/\q<hi/\At w q [.string (bz nm.1), .int .i64 (nm.2:Nat),sl]/\ClV w ns lo hi sl
def IsP0 (v:Value):Prop:=∃ q,v = .pointer (some ⟨q,0,none⟩)
def crT (s:Sp.Bs) (m:Nat) (σ:Sp.St):Sp.St:=(Sp.colL s (m+1) 0 (((σ.must s [116,97,98,108,101]).nameT s).must s [40])).must s [41]
theorem ClV.wide {w:World} {ns:List (Sp.Nm×Int)} {lo hi lo' hi' : Nat} {v:Value} (h:ClV w ns lo hi v) (h1:lo'<=lo) (h2:hi<=hi'):ClV w ns lo' hi' v:=by
 obtain ⟨g,kc,e,e1,e2,e3⟩:=h
 exact ⟨g,kc,e,by omega,by omega,e3⟩
theorem live_colL {s:Sp.Bs} : ∀ {m k:Nat} {σ:Sp.St},(Sp.colL s m k σ).isLive=true->σ.isLive=true
 | 0,_,_,h=>h
 | m+1,k,σ,h=>by
  rw [col_eq] at h
  have g:(coT s k σ).isLive=true:=by
   unfold ncT at h
   split at h
   ·exact Sp.live_step (live_colL h)
   ·exact h
  have g2:=Sp.live_nameT (live_ctT g)
  unfold coS at g2
  split at g2
  ·exact (Sp.live_fail g2).elim
  ·exact g2
theorem create_any {b c cap len:Nat} {s:Sp.Bs} {m:Nat} {σ:Sp.St} {w:World} (hmn:m<=900000) (hmm:32*Sp.rem s σ<=m+1) (hp:PS b c cap len s 0 σ w) :
  Calls Tryz.prog 77 #[.pointer (some ⟨b,0,none⟩)] w (PostV b c cap len s 0 (crT s m σ) w IsP0 fun w' v=>CrV w' ((σ.must s [116,97,98,108,101]).nm s) (Sp.colTs s (m+1) 0 (((σ.must s [116,97,98,108,101]).nameT s).must s [40])) w.heap.size w'.heap.size v):=by
 have hbw:=hp.lb
 have hcw:=hp.lc
 have hr1:=Sp.rem_must s [116,97,98,108,101] σ
 have hr2:=Sp.rem_nameT s (σ.must s [116,97,98,108,101])
 have hr3:=Sp.rem_must s [40] ((σ.must s [116,97,98,108,101]).nameT s)
 have HP:Hid (PS b c cap len s 0 σ (w.alloc (.cells #[.pointer (some ⟨b,0,none⟩)] 157))):=hp.alloc _
 have HK:Hid (Kept b w (w.alloc (.cells #[.pointer (some ⟨b,0,none⟩)] 157))):=(Kept.refl b w).alloc _
 have HY:Hid (Bk (w.alloc (.cells #[.pointer (some ⟨b,0,none⟩)] 157)) w.heap.size [.pointer (some ⟨b,0,none⟩)]):=Bk.new _ _ _
 clear hp
 go_enter Tryz.func77,Tryz.ntmps77
 go_wp2_with fail
 refine (expectq HP.out [116,97,98,108,101] (by decide) _ (by simp)).mono ?_
 generalize w.alloc (.cells #[.pointer (some ⟨b,0,none⟩)] 157)=w0 at *
 rintro r w1 ⟨rfl,hp1,hk1⟩
 have HP1:=hid hp1
 have HK1:=hid (HK.out.trans hk1)
 have hY1:=HY.out.kept hk1 (by omega)
 have HY1:=hid hY1
 have y1:=hY1.k0
 clear hp1 hk1 hY1 HP HK HY
 go_wp2_with fail
 refine (name_any HP1.out).mono ?_
 rintro r w2 ⟨v2,rfl,hp2,hk2,⟨wd2,a2,rfl⟩,hq2⟩
 have HP2:Hid (PS b c cap len s 0 ((σ.must s [116,97,98,108,101]).nameT s) (w2.alloc (.cells #[.string wd2, .int .i64 a2] 165))):=hp2.alloc _
 have HK2:Hid (Kept b w (w2.alloc (.cells #[.string wd2, .int .i64 a2] 165))):=(HK1.out.trans hk2).alloc _
 have HY2:Hid (Bk (w2.alloc (.cells #[.string wd2, .int .i64 a2] 165)) w.heap.size [.pointer (some ⟨b,0,none⟩)]):=(HY1.out.kept hk2 (by omega)).alloc _
 have HX2:Hid (Bk (w2.alloc (.cells #[.string wd2, .int .i64 a2] 165)) w2.heap.size [.string wd2, .int .i64 a2]):=Bk.new _ _ _
 have HR2:Hid (((σ.must s [116,97,98,108,101]).nameT s).isLive=true->wd2=bz ((σ.must s [116,97,98,108,101]).nm s).1/\a2=(((σ.must s [116,97,98,108,101]).nm s).2:Nat)):=fun hl=>agg2n (hq2 hl)
 have hY2:=(HY1.out.kept hk2 (by omega))
 have y2:=hY2.k0
 have hz2:w.heap.size<w2.heap.size:=hY2.lt
 clear hp2 hk2 hq2 hY2 HP1 HK1 HY1 y1
 go_wp2_with fail
 refine (expectq HP2.out [40] (by decide) _ (by simp)).mono ?_
 generalize w2.alloc (.cells #[.string wd2, .int .i64 a2] 165)=w2' at *
 rintro r w3 ⟨rfl,hp3,hk3⟩
 have HX3:Hid (Bk w3 w2.heap.size [.string wd2, .int .i64 a2]):=HX2.out.kept hk3 (by omega)
 have HY3:Hid (Bk w3 w.heap.size [.pointer (some ⟨b,0,none⟩)]):=HY2.out.kept hk3 (by omega)
 have hx3:=HX3.out.lt
 have HP3:Hid (PS b c cap len s 0 (((σ.must s [116,97,98,108,101]).nameT s).must s [40]) (w3.alloc (.cells #[.int .i64 0] 3))):=hp3.alloc _
 have HK3:Hid (Kept b w (w3.alloc (.cells #[.int .i64 0] 3))):=(HK2.out.trans hk3).alloc _
 have HQ3:Hid (Bk (w3.alloc (.cells #[.int .i64 0] 3)) w3.heap.size [.int .i64 (0:Int)]):=Bk.new _ _ _
 have HY3' : Hid (Bk (w3.alloc (.cells #[.int .i64 0] 3)) w.heap.size [.pointer (some ⟨b,0,none⟩)]):=HY3.out.alloc _
 have HX3' : Hid (Bk (w3.alloc (.cells #[.int .i64 0] 3)) w2.heap.size [.string wd2, .int .i64 a2]):=HX3.out.alloc _
 have y3:=HY3'.out.k0
 clear hp3 hk3 HP2 HK2 HY2 HX2 y2
 go_wp2_with fail
 refine (listCol_any hmn (by omega) HP3.out HQ3.out HY3'.out (by omega) (by omega) (by omega) (by omega)).mono ?_
 generalize hw3:w3.alloc (.cells #[.int .i64 0] 3)=w3' at *
 have hz3:w3.heap.size+1=w3'.heap.size:=by rw [<- hw3];simp
 clear hw3
 rintro r w4 ⟨v4,rfl,hp4,hk4,⟨sa,sn,sc,rfl⟩,hq4⟩
 have HP4:=hid hp4
 have HK4:Hid (Kept2 b w3.heap.size w w4):=(Kept2.of HK3.out).trans hk4
 have HX4:Hid (Bk w4 w2.heap.size [.string wd2, .int .i64 a2]):=HX3'.out.kept2 hk4 (by omega) (by omega)
 have HY4:Hid (Bk w4 w.heap.size [.pointer (some ⟨b,0,none⟩)]):=HY3'.out.kept2 hk4 (by omega) (by omega)
 have HR4:=hid hq4
 have hz4:=hk4.size
 have y4:=HY4.out.k0
 clear hp4 hk4 hq4 HP3 HK3 HQ3 HY3 HX3 HY3' HX3' y3
 go_wp2_with fail
 refine (expect_any HP4.out [41] (by decide)).mono ?_
 rintro r w5 ⟨rfl,hp5,hk5⟩
 have HP5:=hid hp5
 have HK5:=hid hk5
 have hX5:=HX4.out.kept hk5 (by omega)
 have x0:=hX5.k0
 have x1:=hX5.k1
 have hz5:=hk5.size
 clear hp5 hk5 hX5 HP4 HX4 HY4 y4
 go_wp2_with fail
 go_ret
 refine ⟨_,rfl,HP5.out.alloc _,((HK4.out.trans (Kept2.of HK5.out)).fresh (by omega)).alloc _,⟨_,rfl⟩,fun hl=>?_⟩
 have hl4:=Sp.live_must hl
 obtain ⟨e0,e1⟩:=HR2.out (Sp.live_must (live_colL hl4))
 refine ⟨_, .slice sa sn sc,rfl,by omega,by simp,?_,?_⟩
 ·rw [<- e0,<- e1]
  exact (Bk.new w5 #[.string wd2, .int .i64 a2, .slice sa sn sc] _).at_
 ·have q:=(HR4.out hl4).frame (w':=w5.alloc (.cells #[.string wd2, .int .i64 a2, .slice sa sn sc] 231)) fun k h1 h2=>(Below.heap_alloc _ _ _ (by omega)).trans (HK5.out.block k (by omega) (by omega))
  exact q.wide (by omega) (by simp;omega)
end Go.Proofs.YtgnncnhkgmhngaaGreatDoor
