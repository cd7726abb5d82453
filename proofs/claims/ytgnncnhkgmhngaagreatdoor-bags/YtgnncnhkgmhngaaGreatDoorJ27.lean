import Derived.Test.YtgnncnhkgmhngaaGreatDoorJ26
set_option maxHeartbeats 4000000
namespace Go.Proofs.YtgnncnhkgmhngaaGreatDoor
open Sp
open Go.RowKit
attribute [local go_sem ↓] Go.wp_at_zero Go.wp_at_succ
theorem Bk.kept2 {b q:Nat} {w w' : World} {p:Nat} {vs:List Value} (h:Bk w p vs) (k:bQ b q w w') (ne:p≠b) (nq:p≠q):Bk w' p vs:=h.same k.size (k.block p h.lt ne nq)
theorem Bk.set1 {w:World} {q:Nat} {x:Value} (h:Bk w q [x]) (x' : Value):Bk (w.setCell ⟨q,0,none⟩ x') q [x']:=by
 have c0:=h.k0
 have lt:=h.lt
 have F:Hid (∀ j,w.frozen? ⟨q,j,none⟩=false):=h.f
 refine ⟨by simpa [World.setCell] using h.lt,?_,λj=>?_⟩
 ·intro j hj
  match j,hj with
  | 0,_=>clear F h;go_simp
 ·have f:=F.out j
  clear F h
  go_simp
theorem Bk.DU {w:World} {q p:Nat} {vs:List Value} (h:Bk w p vs) (o:Nat) (u:Value) (ne:p≠q):Bk (w.setCell ⟨q,o,none⟩ u) p vs:=h.same (by simp [World.setCell]) (dQ _ _ _ _ ne)
theorem pR {s:Sp.Bs} {σ:St} (h:(AA s σ).aA=true):σ.aA=true:=by
 unfold AA at h
 split at h
 ·exact cP h
 ·exact (eV h).elim
theorem rO {b c cap len q qp k:Nat} {s:Sp.Bs} {d:Nat} {σ:St} {w:World} (h:PS b c cap len s d σ w) (hq:Bk w q [.int .i64 (k:Int)]) (M4:Bk w qp [.pointer (some ⟨b,0,none⟩)]) (h1:q≠b) (h2:c<q) (h3:qp≠b) (h4:qp≠q) (hk:k<=6) :
  Calls Tryz.prog 124 #[.pointer (some ⟨q,0,none⟩), .pointer (some ⟨qp,0,none⟩)] w λr w'=>∃ v,r = .returned v/\PS b c cap len s d (DT s k σ) w'/\bQ b q w w'/\Bk w' q [.int .i64 ((k+1:Nat):Int)]/\TR v/\((DT s k σ).aA=true->v = .agg #[.string (bz ((GE s k σ).nm s).1), .int .i64 (((GE s k σ).nm s).2:Nat), .int .i64 (kS s ((GE s k σ).aC s))]):=by
 have hbw:=h.lb
 have hcw:=h.lc
 have NK:=hq.lt
 have TS:=M4.lt
 have qM:Hid (PS b c cap len s d σ ((w.setCell ⟨q,0,none⟩ (.int .i64 ((k:Int)+1))).alloc (.cells #[.string ⟨#[]⟩, .int .i64 0, .int .i64 0] 228))):=(h.put q 0 h1 h2 _).alloc _
 have pH:Hid (bQ b q w ((w.setCell ⟨q,0,none⟩ (.int .i64 ((k:Int)+1))).alloc (.cells #[.string ⟨#[]⟩, .int .i64 0, .int .i64 0] 228))):=((bQ.refl b q w).setCell 0 _).trans (bQ.of ((Kept.refl b _).alloc _))
 have HB0:Hid (Bk ((w.setCell ⟨q,0,none⟩ (.int .i64 ((k:Int)+1))).alloc (.cells #[.string ⟨#[]⟩, .int .i64 0, .int .i64 0] 228)) w.heap.size [.string ⟨#[]⟩, .int .i64 0, .int .i64 0]):=by
  have:=Bk.new (w.setCell ⟨q,0,none⟩ (.int .i64 ((k:Int)+1))) #[.string ⟨#[]⟩, .int .i64 0, .int .i64 0] 228
  have e:(w.setCell ⟨q,0,none⟩ (.int .i64 ((k:Int)+1))).heap.size=w.heap.size:=by simp [World.setCell]
  rw [e] at this
  exact this
 have TT:Hid (Bk ((w.setCell ⟨q,0,none⟩ (.int .i64 ((k:Int)+1))).alloc (.cells #[.string ⟨#[]⟩, .int .i64 0, .int .i64 0] 228)) q [.int .i64 ((k:Int)+1)]):=(hq.set1 _).alloc _
 have TX:Hid (Bk ((w.setCell ⟨q,0,none⟩ (.int .i64 ((k:Int)+1))).alloc (.cells #[.string ⟨#[]⟩, .int .i64 0, .int .i64 0] 228)) qp [.pointer (some ⟨b,0,none⟩)]):=(M4.DU 0 _ h4).alloc _
 have cq:=hq.k0
 have fq:=hq.f 0
 have cp:=M4.k0
 have e0:=TT.out.k0
 have e1:=TX.out.k0
 clear h hq M4
 by_cases h6:¬ k<6
 ·have HE:Hid (GE s k σ=σ.fail s 2/\DT s k σ=AA s ((σ.fail s 2).aC s)):=by
   obtain rfl:k=6:=by omega
   exact ⟨rfl,rfl⟩
  go_enter Tryz.func124,Tryz.ntmps124
  go_wp2_with fail
  refine (fV qM.out).mono ?_
  rintro r w1 ⟨rfl,hp1,hk1⟩
  have bT:=hid hp1
  have bD:Hid (bQ b q w w1):=pH.out.trans (bQ.of hk1)
  have HB1:Hid (Bk w1 w.heap.size [.string ⟨#[]⟩, .int .i64 0, .int .i64 0]):=HB0.out.kept hk1 (by omega)
  have K7:Hid (Bk w1 q [.int .i64 ((k:Int)+1)]):=TT.out.kept hk1 h1
  have Jl:Hid (Bk w1 qp [.pointer (some ⟨b,0,none⟩)]):=TX.out.kept hk1 h3
  have y1:=Jl.out.k0
  clear hp1 hk1
  go_wp2_with fail
  go_region_held3 (λw'=>w'.cell? ⟨qp,0,none⟩=some (.pointer (some ⟨b,0,none⟩))) (first | go_keep | exact y2 | exact y3 | go_simp) (first | (go_at_call 79;refine (name_any bT.out.drew).mono ?_;rintro e w2 ⟨v2,rfl,hp2,hk2,⟨wd2,a2,rfl⟩,hr2⟩;have tX : Kept b w1 w2:=((Kept.refl b w1).drew).trans hk2;have hY2:=Jl.out.kept tX h3;have y2:=hY2.k0) | (go_at_call 125;refine (mL hp2).mono ?_;rintro e w3 ⟨v3,rfl,hp3,hk3,⟨t3,rfl⟩,hr3⟩;have Qv:=hY2.kept hk3 h3;have y3:=Qv.c 0 (by simp);have hB3:=(HB1.out.kept tX (by omega)).kept hk3 (by omega);have c0:=hB3.c 0 (by decide);have c1:=hB3.c 1 (by decide);have c2:=hB3.c 2 (by decide);have f0:=hB3.f 0;have f1:=hB3.f 1;have f2:=hB3.f 2;have hne:w.heap.size≠qp:=(by omega);have hne' : qp≠w.heap.size:=(by omega);simp only [List.getElem_cons_zero,List.getElem_cons_succ] at y3 c0 c1 c2))
  have cS:=hid hp3
  have bH:Hid (bQ b q w w3):=bD.out.trans (bQ.of (tX.trans hk3))
  have M5:Hid (Bk w3 q [.int .i64 ((k:Int)+1)]):=K7.out.kept (tX.trans hk3) h1
  have HR2:Hid ((St.aC s (σ.fail s 2)).aA=true->wd2=bz (St.nm s (σ.fail s 2)).1/\a2=((St.nm s (σ.fail s 2)).2:Nat)):=λhl=>mC (hr2 hl)
  have HR3:Hid ((AA s (St.aC s (σ.fail s 2))).aA=true->t3=kS s (St.aC s (σ.fail s 2))):=λhl=>by have:=hr3 hl;injection this
  clear hp2 hk2 hr2 tX hY2 hp3 hk3 hr3 Qv hB3 y1 y2 y3
  go_wp2_with fail
  refine cL (v := .agg #[.string wd2, .int .i64 a2, .int .i64 t3]) (by simp [results,Tryz.results124,go_sem, *]) rfl ⟨_,rfl,?_,((bH.out.aJ (by simp) _).aJ (by simp) _).aJ (by simp) _,?_,⟨_,_,_,rfl⟩,λhl=>?_⟩
  ·rw [HE.out.2]
   exact ((cS.out.put w.heap.size 0 (by omega) (by omega) _).put w.heap.size 1 (by omega) (by omega) _).put w.heap.size 2 (by omega) (by omega) _
  ·have:=((M5.out.DU (q:=w.heap.size) 0 (.string wd2) (by omega)).DU (q:=w.heap.size) 1 (.int .i64 a2) (by omega)).DU (q:=w.heap.size) 2 (.int .i64 t3) (by omega)
   simpa using this
  ·rw [HE.out.2] at hl
   rw [HE.out.1]
   obtain ⟨u1,u2⟩:=HR2.out (pR hl)
   rw [u1,u2,HR3.out hl]
 ·have HE:Hid (GE s k σ=σ/\DT s k σ=AA s (σ.aC s)):=by
   have:(k == 6)=false:=by simp;omega
   exact ⟨by unfold GE;rw [this];rfl,by unfold DT GE;rw [this];rfl⟩
  go_enter Tryz.func124,Tryz.ntmps124
  go_wp2_with fail
  generalize hw1:((w.setCell ⟨q,0,none⟩ (.int .i64 ((k:Int)+1))).alloc (.cells #[.string ⟨#[]⟩, .int .i64 0, .int .i64 0] 228))=w1 at *
  have bT:Hid (PS b c cap len s d σ w1):=qM.out
  have bD:Hid (bQ b q w w1):=pH.out
  have HB1:Hid (Bk w1 w.heap.size [.string ⟨#[]⟩, .int .i64 0, .int .i64 0]):=HB0.out
  have K7:Hid (Bk w1 q [.int .i64 ((k:Int)+1)]):=TT.out
  have Jl:Hid (Bk w1 qp [.pointer (some ⟨b,0,none⟩)]):=TX.out
  have y1:=Jl.out.k0
  clear hw1
  go_region_held3 (λw'=>w'.cell? ⟨qp,0,none⟩=some (.pointer (some ⟨b,0,none⟩))) (first | go_keep | exact y2 | exact y3 | go_simp) (first | (go_at_call 79;refine (name_any bT.out.drew).mono ?_;rintro e w2 ⟨v2,rfl,hp2,hk2,⟨wd2,a2,rfl⟩,hr2⟩;have tX : Kept b w1 w2:=((Kept.refl b w1).drew).trans hk2;have hY2:=Jl.out.kept tX h3;have y2:=hY2.k0) | (go_at_call 125;refine (mL hp2).mono ?_;rintro e w3 ⟨v3,rfl,hp3,hk3,⟨t3,rfl⟩,hr3⟩;have Qv:=hY2.kept hk3 h3;have y3:=Qv.c 0 (by simp);have hB3:=(HB1.out.kept tX (by omega)).kept hk3 (by omega);have c0:=hB3.c 0 (by decide);have c1:=hB3.c 1 (by decide);have c2:=hB3.c 2 (by decide);have f0:=hB3.f 0;have f1:=hB3.f 1;have f2:=hB3.f 2;have hne:w.heap.size≠qp:=(by omega);have hne' : qp≠w.heap.size:=(by omega);simp only [List.getElem_cons_zero,List.getElem_cons_succ] at y3 c0 c1 c2))
  have cS:=hid hp3
  have bH:Hid (bQ b q w w3):=bD.out.trans (bQ.of (tX.trans hk3))
  have M5:Hid (Bk w3 q [.int .i64 ((k:Int)+1)]):=K7.out.kept (tX.trans hk3) h1
  have HR2:Hid ((St.aC s σ).aA=true->wd2=bz (St.nm s σ).1/\a2=((St.nm s σ).2:Nat)):=λhl=>mC (hr2 hl)
  have HR3:Hid ((AA s (St.aC s σ)).aA=true->t3=kS s (St.aC s σ)):=λhl=>by have:=hr3 hl;injection this
  clear hp2 hk2 hr2 tX hY2 hp3 hk3 hr3 Qv hB3 y1 y2 y3
  go_wp2_with fail
  refine cL (v := .agg #[.string wd2, .int .i64 a2, .int .i64 t3]) (by simp [results,Tryz.results124,go_sem, *]) rfl ⟨_,rfl,?_,((bH.out.aJ (by simp) _).aJ (by simp) _).aJ (by simp) _,?_,⟨_,_,_,rfl⟩,λhl=>?_⟩
  ·rw [HE.out.2]
   exact ((cS.out.put w.heap.size 0 (by omega) (by omega) _).put w.heap.size 1 (by omega) (by omega) _).put w.heap.size 2 (by omega) (by omega) _
  ·have:=((M5.out.DU (q:=w.heap.size) 0 (.string wd2) (by omega)).DU (q:=w.heap.size) 1 (.int .i64 a2) (by omega)).DU (q:=w.heap.size) 2 (.int .i64 t3) (by omega)
   simpa using this
  ·rw [HE.out.2] at hl
   rw [HE.out.1]
   obtain ⟨u1,u2⟩:=HR2.out (pR hl)
   rw [u1,u2,HR3.out hl]
end Go.Proofs.YtgnncnhkgmhngaaGreatDoor
namespace Go.Proofs.YtgnncnhkgmhngaaGreatDoor
open Sp
open Go.RowKit
theorem bQ.alloc {b q:Nat} {a w:World} (h:bQ b q a w) (o:Obj):bQ b q a (w.alloc o):=h.trans (bQ.of ((Kept.refl b w).alloc o))
theorem bQ.grown {b q:Nat} {a w w' : World} {g:Nat} (h:bQ b q a w) (k:w.grownBy w' (some g)) (hg:a.heap.size<=g):bQ b q a w':=
 ⟨k.os.trans h.os,k.tape.trans h.tape,k.output.trans h.output,cE h.size k.size,λi hi hb hq=>(k.block i (bY hi h.size) (by intro e;injection e with e;omega)).trans (h.block i hi hb hq)⟩
def Pk (s:Sp.Bs) (k:Nat) (σ:St):Nm×Int:=((GE s k σ).nm s,kS s ((GE s k σ).aC s))
def mM (n:Nm×Int):List Value := [.string (bz n.1.1), .int .i64 (n.1.2:Nat), .int .i64 n.2]
def Jm (w:World) (ns:List (Nm×Int)) (lo hi:Nat) (v:Value):Prop:=
 ∃ g kc,v = .slice (some ⟨g,0,none⟩) ns.length kc/\lo<=g/\g<hi/\∀ j u,(ns.flatMap mM)[j]?=some u->w.cell? ⟨g,j,none⟩=some u
theorem Jm.frame {w w' : World} {ns:List (Nm×Int)} {lo hi:Nat} {v:Value} (h:Jm w ns lo hi v) (hk:∀ k,lo<=k->k<hi->w'.heap[k]?=w.heap[k]?):Jm w' ns lo hi v:=by
 obtain ⟨g,kc,e,h1,h2,h3⟩:=h
 exact ⟨g,kc,e,h1,h2,λj u hj=>(fB (w:=w) (a:=⟨g,j,none⟩) (hk g h1 h2)).trans (h3 j u hj)⟩
theorem Lm (s:Sp.Bs) (σ:St):rem s (AA s σ)<=rem s σ:=by
 unfold AA
 split
 ·exact cC _ _
 ·rw [fF];omega
theorem Lo (s:Sp.Bs) (k:Nat) (σ:St):rem s (GE s k σ)<=rem s σ:=by
 unfold GE
 split
 ·rw [fF];omega
 ·exact aF _
theorem Ff (s:Sp.Bs) (k:Nat) (σ:St):rem s (DT s k σ)<=rem s σ:=cE (Lm _ _) (cE (dL _ _) (Lo _ _ _))
theorem Jn {s:Sp.Bs} {k:Nat} {σ:St} (h:(DT s k σ).aA=true):k≠6:=by
 rintro rfl
 have h1:=fU (pR h)
 exact eV (σ:=σ) (s:=s) h1
def M6 (s:Sp.Bs) (m k:Nat) (σ:St):St:=if σ.is s [44] then uY s m k (σ.step s) else σ
def N5 (s:Sp.Bs) (m k:Nat) (σ:St):List (Nm×Int):=if σ.is s [44] then nV s m k (σ.step s) else []
theorem DV (s:Sp.Bs) (m k:Nat) (σ:St):uY s (m+1) k σ=M6 s m (k+1) (DT s k σ):=by unfold uY;rfl
theorem Fg (s:Sp.Bs) (m k:Nat) (σ:St):nV s (m+1) k σ=Pk s k σ::N5 s m (k+1) (DT s k σ):=by unfold nV;rfl
theorem DW:(Tryz.prog.info? 228).map (λi=>(i.zero,i.size,i.bytes))=some (some (.agg #[.string ⟨#[]⟩, .int .i64 0, .int .i64 0]),3,32):=by kernel_rfl
theorem M7 {x y:ByteArray} {a c q r:Int} (h:Value.agg #[.string x, .int .i64 a, .int .i64 q] = .agg #[.string y, .int .i64 c, .int .i64 r]):x=y/\a=c/\q=r:=by
 simp only [Value.agg.injEq] at h
 have e0:=congrArg (λx:Array Value=>x[0]?) h
 have e1:=congrArg (λx:Array Value=>x[1]?) h
 have e2:=congrArg (λx:Array Value=>x[2]?) h
 simp at e0 e1 e2
 exact ⟨e0,e1,e2⟩
theorem BF {b c cap len q qp:Nat} {s:Sp.Bs} {m:Nat} {σ:St} {w:World} (_hmn:m<=900000) (hmm:32*rem s σ<=m+1) (hp:PS b c cap len s 0 σ w) (hq:Bk w q [.int .i64 (0:Int)]) (M4:Bk w qp [.pointer (some ⟨b,0,none⟩)]) (h1:q≠b) (h2:c<q) (h3:qp≠b) (h4:qp≠q) :
  Calls Tryz.prog 123 #[.pointer (some ⟨b,0,none⟩), .func (.func 124) #[] #[.pointer (some ⟨q,0,none⟩), .pointer (some ⟨qp,0,none⟩)]] w λr w'=>∃ v,r = .returned v/\PS b c cap len s 0 (uY s (m+1) 0 σ) w'/\bQ b q w w'/\qJ v/\((uY s (m+1) 0 σ).aA=true->Jm w' (nV s (m+1) 0 σ) w.heap.size w'.heap.size v):=by
 obtain ⟨i0,ji,fR,jz1,fS⟩:=info_parts DW
 have hr:=Ff s 0 σ
 have hbw:=hp.lb
 have hcw:=hp.lc
 have PY:=hp.h5.1
 have NK:=hq.lt
 have TS:=M4.lt
 have HP:=hid hp
 have HQ:Hid (Bk w q [.int .i64 ((0:Nat):Int)]):=hq
 have HY:=hid M4
 clear hp hq M4
 go_enter Tryz.func123,Tryz.ntmps123
 go_wp2_with fail
 refine (rO HP.out HQ.out HY.out h1 h2 h3 h4 (by omega)).mono ?_
 rintro r w1 ⟨v1,rfl,hp1,hk1,hq1,⟨x1,a1,t1,rfl⟩,hr1⟩
 have bT:Hid (PS b c cap len s 0 (DT s 0 σ) (w1.alloc (.cells #[.string x1, .int .i64 a1, .int .i64 t1] 228))):=hp1.alloc _
 have bD:Hid (bQ b q w (w1.alloc (.cells #[.string x1, .int .i64 a1, .int .i64 t1] 228))):=hk1.alloc _
 have K7:Hid (Bk (w1.alloc (.cells #[.string x1, .int .i64 a1, .int .i64 t1] 228)) q [.int .i64 ((0+1:Nat):Int)]):=hq1.alloc _
 have Jl:Hid (Bk (w1.alloc (.cells #[.string x1, .int .i64 a1, .int .i64 t1] 228)) qp [.pointer (some ⟨b,0,none⟩)]):=(HY.out.kept2 hk1 h3 h4).alloc _
 have hz1':=hk1.size
 have H9:Hid ((w1.alloc (.cells #[.string x1, .int .i64 a1, .int .i64 t1] 228)).ownsRow w.heap.size 228 3 (.slice (some ⟨w1.heap.size,0,none⟩) 1 1) 1 [.string x1, .int .i64 a1, .int .i64 t1]):=jR w1 w.heap.size hz1' 228 3 #[.string x1, .int .i64 a1, .int .i64 t1] 1 rfl (by unfold maxLen;omega)
 have HR1:Hid ((DT s 0 σ).aA=true -> [.string x1, .int .i64 a1, .int .i64 t1] = [Pk s 0 σ].flatMap mM):=λhl=>by
  obtain ⟨e0,e1,e2⟩:=M7 (hr1 hl)
  rw [e0,e1,e2]
  rfl
 clear hp1 hk1 hq1 hr1 HP HQ HY
 go_wp2_with fail
 go_loopg [5] m (λgm v wr=>gm<=m/\∃ (σ' : St) (ns:List (Nm×Int)) (g k kc:Nat),v = .slice (some ⟨g,0,none⟩) k kc/\k+gm<=m+1/\32*rem s σ'<=gm+1/\Hid (σ'.aA=true->k<=6)/\w.heap.size<=g/\g<wr.heap.size/\Hid (k=ns.length)/\Hid (uY s (m+1) 0 σ=M6 s gm k σ')/\Hid (nV s (m+1) 0 σ=ns++N5 s gm k σ')/\Hid (PS b c cap len s 0 σ' wr)/\Hid (bQ b q w wr)/\Hid (Bk wr q [.int .i64 (k:Int)])/\Hid (Bk wr qp [.pointer (some ⟨b,0,none⟩)])/\Hid (∃ ys,wr.ownsRow w.heap.size 228 3 (.slice (some ⟨g,0,none⟩) k kc) k ys/\(σ'.aA=true->ys=ns.flatMap mM)))
 case atStart=>exact ⟨aF _,_, [Pk s 0 σ],w1.heap.size,1,1,rfl,by omega,by omega,λ_=>by omega,hz1',by simp,rfl,DV s m 0 σ,Fg s m 0 σ,bT.out,bD.out,K7.out,Jl.out,⟨_,H9.out,HR1.out⟩⟩
 case round=>
  obtain ⟨hgm,σ',ns,g,k,kc,rfl,hkg,hms,iX,hgw,hgr,A9,HR,o6,j9,fY,VF,VG,HOr⟩:=hrel
  have hgq:g≠q:=by omega
  have TY:g≠qp:=by omega
  cases hs:σ'.is s [44]
  ·have HV:Hid (M6 s gk k σ'=σ'):=by show _=_;rw [M6,hs];rfl
   have cA:Hid (N5 s gk k σ' = []):=by show _=_;rw [N5,hs];rfl
   have HT:Hid (σ'.take s [44]=σ'):=bE hs
   go_wp2_with fail
   refine (aW j9.out [44] (by decide)).mono ?_
   rintro r w2 ⟨rfl,hp2,hk2⟩
   rw [HT.out] at hp2
   rw [hs]
   have HP2:Hid (PS b c cap len s 0 σ' w2):=hp2
   have aY:=hid hk2
   clear hp2 hk2
   go_wp2_with fail
   go_ret
   refine ⟨_,rfl,by rw [HR.out,HV.out];exact HP2.out,fY.out.trans (bQ.of aY.out),⟨_,_,_,rfl⟩,λhl=>?_⟩
   rw [HR.out,HV.out] at hl
   have hz2:=aY.out.size
   obtain ⟨ys,O,ey⟩:=HOr.out
   have O2:=aV O (aY.out.block g hgr (by omega))
   refine ⟨g,kc,?_,hgw,by omega,λj u hj=>?_⟩
   ·have ek:(nV s (m+1) 0 σ).length=k:=by rw [o6.out,cA.out,List.append_nil];exact A9.out.symm
    rw [ek];rfl
   ·rw [o6.out,cA.out,List.append_nil,<- ey hl] at hj
    exact bO O2 j u hj
  ·have hlt:=aM hs
   obtain ⟨m',rfl⟩:∃ m',gk=m'+1:=⟨gk - 1,by omega⟩
   have HV:Hid (M6 s (m'+1) k σ'=M6 s m' (k+1) (DT s k (σ'.step s))):=by show _=_;rw [M6,hs];exact DV s m' k _
   have cA:Hid (N5 s (m'+1) k σ'=Pk s k (σ'.step s)::N5 s m' (k+1) (DT s k (σ'.step s))):=by show _=_;rw [N5,hs];exact Fg s m' k _
   have HT:Hid (σ'.take s [44]=σ'.step s):=aZ hs
   have HL:Hid (σ'.aA=true):=cK hs
   have hk6:=iX.out HL.out
   have hrc:=Ff s k (σ'.step s)
   go_wp2_with fail
   refine (aW j9.out [44] (by decide)).mono ?_
   rintro r w2 ⟨rfl,hp2,hk2⟩
   rw [HT.out] at hp2
   rw [hs]
   have HP2:Hid (PS b c cap len s 0 (σ'.step s) w2):=hp2
   have aY:=hid hk2
   have KD:Hid (Bk w2 q [.int .i64 (k:Int)]):=VF.out.kept hk2 h1
   have Ia:Hid (Bk w2 qp [.pointer (some ⟨b,0,none⟩)]):=VG.out.kept hk2 h3
   clear hp2 hk2
   go_wp2_with fail
   refine (rO HP2.out KD.out Ia.out h1 h2 h3 h4 hk6).mono ?_
   rintro r w3 ⟨v3,rfl,hp3,hk3,hq3,⟨x3,a3,t3,rfl⟩,hr3⟩
   have cS:=hid hp3
   have bH:=hid hk3
   have M5:Hid (Bk w3 q [.int .i64 ((k+1:Nat):Int)]):=hq3
   have Sn:Hid (Bk w3 qp [.pointer (some ⟨b,0,none⟩)]):=Ia.out.kept2 hk3 h3 h4
   have HR3:Hid ((DT s k (σ'.step s)).aA=true -> [.string x3, .int .i64 a3, .int .i64 t3]=mM (Pk s k (σ'.step s))):=λhl=>by
    obtain ⟨e0,e1,e2⟩:=M7 (hr3 hl)
    rw [e0,e1,e2]
    rfl
   have Jk:Hid (∀ u∈([.string x3, .int .i64 a3, .int .i64 t3]:List Value),u.oneCell'=true):=(by intro u hu;simp at hu;rcases hu with rfl | rfl | rfl <;> rfl)
   have hz2:=aY.out.size
   have hz3:=bH.out.size
   have MD:=fY.out.size
   obtain ⟨ys,hO,M3⟩:=HOr.out
   have Qu:=hid M3
   have jG:Hid (w3.ownsRow w.heap.size 228 3 (.slice (some ⟨g,0,none⟩) k kc) k ys):=aV hO (((bQ.of aY.out).trans bH.out).block g hgr (by omega) hgq)
   have vJ:Hid ((w3.alloc (.cells #[.string x3, .int .i64 a3, .int .i64 t3] 228)).ownsRow w.heap.size 228 3 (.slice (some ⟨g,0,none⟩) k kc) k ys):=aV jG.out (kX _ _ _ (by omega))
   clear hp3 hk3 hq3 hr3 HP2 j9 hO M3 KD Ia VF VG
   go_wp2_with (at_builtin;go_must (refine c6 _ rfl (.tmp 12) (.tmp 15) 225 rfl w.heap.size 228 i0 (.agg #[.string ⟨#[]⟩, .int .i64 0, .int .i64 0]) 3 32 Tryz.underlying225 ji fR jz1 fS rfl (by decide) g k kc ys rfl vJ.out ⟨w3.heap.size,0,none⟩ 1 [.string x3, .int .i64 a3, .int .i64 t3] rfl rfl ?c1 Jk.out ?c3 ?c4 ?c5 ?_))
   case c1=>
    intro j u hj
    rw [Addr.add_lit,Nat.zero_add,oZ]
    simpa using hj
   case c3=>unfold maxLen;omega
   case c4=>omega
   case c5=>simp;omega
   intro g' gE w5 hown hgrow hg'
   have CU:Hid (w5.ownsRow w.heap.size 228 3 (.slice (some ⟨g',0,none⟩) (k+1) gE) (k+1) (ys ++ [.string x3, .int .i64 a3, .int .i64 t3])):=hown
   have tM:=hid hgrow
   have hg5:=(gC hown)
   clear hown hgrow hg'
   go_wp2_with fail
   go_roundg m'
   case measure=>omega
   case rel=>
    have rM:w3.heap.size+1<=w5.heap.size:=by have:=tM.out.size;simpa using this
    have hb5:∀ q,q<w3.heap.size->q≠g->w5.heap[q]?=w3.heap[q]?:=λq hq hn=>(tM.out.block q (by simp;omega) (λe=>by injection e with e;exact hn e)).trans (kX _ _ _ hq)
    refine ⟨by omega,_,ns ++ [Pk s k (σ'.step s)],g',k+1,gE,rfl,by omega,by omega,λhl=>by have:=Jn hl;omega,hg5.1,hg5.2,by show _=_;rw [List.length_append,<- A9.out];rfl,by show _=_;rw [HR.out,HV.out],by show _=_;rw [o6.out,cA.out,List.append_assoc];rfl,cS.out.stay (by omega) (hb5 b (by omega) (by omega)) (hb5 c (by omega) (by omega)) (hb5 5 (by omega) (by omega)),(((fY.out.trans (bQ.of aY.out)).trans bH.out).alloc _).grown tM.out hgw,M5.out.same (by omega) (hb5 q (by omega) (Ne.symm hgq)),Sn.out.same (by omega) (hb5 qp (by omega) (Ne.symm TY)),⟨_,CU.out,λhl=>?_⟩⟩
    rw [Qu.out HL.out,HR3.out hl,List.flatMap_append]
    simp
def Jo (w:World) (nm:Nm) (ns:List (Nm×Int)) (lo hi:Nat) (v:Value):Prop:=
 ∃ q sl,v = .pointer (some ⟨q,0,none⟩)/\lo<=q/\q<hi/\At w q [.string (bz nm.1), .int .i64 (nm.2:Nat),sl]/\Jm w ns lo hi sl
def Lp (v:Value):Prop:=∃ q,v = .pointer (some ⟨q,0,none⟩)
def VH (s:Sp.Bs) (m:Nat) (σ:St):St:=(uY s (m+1) 0 (((σ.must s [116,97,98,108,101]).aC s).must s [40])).must s [41]
theorem Jm.wide {w:World} {ns:List (Nm×Int)} {lo hi lo' hi' : Nat} {v:Value} (h:Jm w ns lo hi v) (h1:lo'<=lo) (h2:hi<=hi'):Jm w ns lo' hi' v:=by
 obtain ⟨g,kc,e,e1,e2,e3⟩:=h
 exact ⟨g,kc,e,by omega,by omega,e3⟩
theorem xE {s:Sp.Bs} : ∀ {m k:Nat} {σ:St},(uY s m k σ).aA=true->σ.aA=true
 | 0,_,_,h=>h
 | m+1,k,σ,h=>by
  rw [DV] at h
  have g:(DT s k σ).aA=true:=by
   unfold M6 at h
   split at h
   ·exact cP (xE h)
   ·exact h
  have g2:=fU (pR g)
  unfold GE at g2
  split at g2
  ·exact (eV g2).elim
  ·exact g2
theorem DX {b c cap len:Nat} {s:Sp.Bs} {m:Nat} {σ:St} {w:World} (hmn:m<=900000) (hmm:32*rem s σ<=m+1) (hp:PS b c cap len s 0 σ w) :
  Calls Tryz.prog 77 #[.pointer (some ⟨b,0,none⟩)] w (aX b c cap len s 0 (VH s m σ) w Lp λw' v=>Jo w' ((σ.must s [116,97,98,108,101]).nm s) (nV s (m+1) 0 (((σ.must s [116,97,98,108,101]).aC s).must s [40])) w.heap.size w'.heap.size v):=by
 have hbw:=hp.lb
 have hcw:=hp.lc
 have hr1:=bZ s [116,97,98,108,101] σ
 have hr2:=dL s (σ.must s [116,97,98,108,101])
 have hr3:=bZ s [40] ((σ.must s [116,97,98,108,101]).aC s)
 have HP:Hid (PS b c cap len s 0 σ (w.alloc (.cells #[.pointer (some ⟨b,0,none⟩)] 157))):=hp.alloc _
 have HK:Hid (Kept b w (w.alloc (.cells #[.pointer (some ⟨b,0,none⟩)] 157))):=(Kept.refl b w).alloc _
 have HY:Hid (Bk (w.alloc (.cells #[.pointer (some ⟨b,0,none⟩)] 157)) w.heap.size [.pointer (some ⟨b,0,none⟩)]):=Bk.new _ _ _
 clear hp
 go_enter Tryz.func77,Tryz.ntmps77
 go_wp2_with fail
 refine (kK HP.out [116,97,98,108,101] (by decide) _ (by simp)).mono ?_
 generalize w.alloc (.cells #[.pointer (some ⟨b,0,none⟩)] 157)=w0 at *
 rintro r w1 ⟨rfl,hp1,hk1⟩
 have bT:=hid hp1
 have bD:=hid (HK.out.trans hk1)
 have TZ:=HY.out.kept hk1 (by omega)
 have Jl:=hid TZ
 have y1:=TZ.k0
 clear hp1 hk1 TZ HP HK HY
 go_wp2_with fail
 refine (name_any bT.out).mono ?_
 rintro r w2 ⟨v2,rfl,hp2,hk2,⟨wd2,a2,rfl⟩,hq2⟩
 have HP2:Hid (PS b c cap len s 0 ((σ.must s [116,97,98,108,101]).aC s) (w2.alloc (.cells #[.string wd2, .int .i64 a2] 165))):=hp2.alloc _
 have aY:Hid (Kept b w (w2.alloc (.cells #[.string wd2, .int .i64 a2] 165))):=(bD.out.trans hk2).alloc _
 have Ia:Hid (Bk (w2.alloc (.cells #[.string wd2, .int .i64 a2] 165)) w.heap.size [.pointer (some ⟨b,0,none⟩)]):=(Jl.out.kept hk2 (by omega)).alloc _
 have iN:Hid (Bk (w2.alloc (.cells #[.string wd2, .int .i64 a2] 165)) w2.heap.size [.string wd2, .int .i64 a2]):=Bk.new _ _ _
 have HR2:Hid (((σ.must s [116,97,98,108,101]).aC s).aA=true->wd2=bz ((σ.must s [116,97,98,108,101]).nm s).1/\a2=(((σ.must s [116,97,98,108,101]).nm s).2:Nat)):=λhl=>mC (hq2 hl)
 have hY2:=(Jl.out.kept hk2 (by omega))
 have y2:=hY2.k0
 have hz2:w.heap.size<w2.heap.size:=hY2.lt
 clear hp2 hk2 hq2 hY2 bT bD Jl y1
 go_wp2_with fail
 refine (kK HP2.out [40] (by decide) _ (by simp)).mono ?_
 generalize w2.alloc (.cells #[.string wd2, .int .i64 a2] 165)=w2' at *
 rintro r w3 ⟨rfl,hp3,hk3⟩
 have vI:Hid (Bk w3 w2.heap.size [.string wd2, .int .i64 a2]):=iN.out.kept hk3 (by omega)
 have Sn:Hid (Bk w3 w.heap.size [.pointer (some ⟨b,0,none⟩)]):=Ia.out.kept hk3 (by omega)
 have hx3:=vI.out.lt
 have cS:Hid (PS b c cap len s 0 (((σ.must s [116,97,98,108,101]).aC s).must s [40]) (w3.alloc (.cells #[.int .i64 0] 3))):=hp3.alloc _
 have bH:Hid (Kept b w (w3.alloc (.cells #[.int .i64 0] 3))):=(aY.out.trans hk3).alloc _
 have M5:Hid (Bk (w3.alloc (.cells #[.int .i64 0] 3)) w3.heap.size [.int .i64 (0:Int)]):=Bk.new _ _ _
 have Lq : Hid (Bk (w3.alloc (.cells #[.int .i64 0] 3)) w.heap.size [.pointer (some ⟨b,0,none⟩)]):=Sn.out.alloc _
 have Qw : Hid (Bk (w3.alloc (.cells #[.int .i64 0] 3)) w2.heap.size [.string wd2, .int .i64 a2]):=vI.out.alloc _
 have y3:=Lq.out.k0
 clear hp3 hk3 HP2 aY Ia iN y2
 go_wp2_with fail
 refine (BF hmn (by omega) cS.out M5.out Lq.out (by omega) (by omega) (by omega) (by omega)).mono ?_
 generalize hw3:w3.alloc (.cells #[.int .i64 0] 3)=w3' at *
 have hz3:w3.heap.size+1=w3'.heap.size:=by rw [<- hw3];simp
 clear hw3
 rintro r w4 ⟨v4,rfl,gD,hk4,⟨sa,sn,sc,rfl⟩,hq4⟩
 have gY:=hid gD
 have eC:Hid (bQ b w3.heap.size w w4):=(bQ.of bH.out).trans hk4
 have lE:Hid (Bk w4 w2.heap.size [.string wd2, .int .i64 a2]):=Qw.out.kept2 hk4 (by omega) (by omega)
 have Pc:Hid (Bk w4 w.heap.size [.pointer (some ⟨b,0,none⟩)]):=Lq.out.kept2 hk4 (by omega) (by omega)
 have HR4:=hid hq4
 have y8:=hk4.size
 have y4:=Pc.out.k0
 clear gD hk4 hq4 cS bH M5 Sn vI Lq Qw y3
 go_wp2_with fail
 refine (b8 gY.out [41] (by decide)).mono ?_
 rintro r w5 ⟨rfl,nT,hk5⟩
 have iV:=hid nT
 have iD:=hid hk5
 have KZ:=lE.out.kept hk5 (by omega)
 have x0:=KZ.k0
 have x1:=KZ.k1
 have rM:=hk5.size
 clear nT hk5 KZ gY lE Pc y4
 go_wp2_with fail
 go_ret
 refine ⟨_,rfl,iV.out.alloc _,((eC.out.trans (bQ.of iD.out)).fresh (by omega)).alloc _,⟨_,rfl⟩,λhl=>?_⟩
 have hl4:=bK hl
 obtain ⟨e0,e1⟩:=HR2.out (bK (xE hl4))
 refine ⟨_, .slice sa sn sc,rfl,by omega,by simp,?_,?_⟩
 ·rw [<- e0,<- e1]
  exact (Bk.new w5 #[.string wd2, .int .i64 a2, .slice sa sn sc] _).at_
 ·have q:=(HR4.out hl4).frame (w':=w5.alloc (.cells #[.string wd2, .int .i64 a2, .slice sa sn sc] 231)) λk h1 h2=>(kX _ _ _ (by omega)).trans (iD.out.block k (by omega) (by omega))
  exact q.wide (by omega) (by simp;omega)
end Go.Proofs.YtgnncnhkgmhngaaGreatDoor
