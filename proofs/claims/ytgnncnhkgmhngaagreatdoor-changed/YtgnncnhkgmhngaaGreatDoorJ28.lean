import Derived.Test.YtgnncnhkgmhngaaGreatDoorJ27
set_option maxHeartbeats 4000000
namespace Go.Proofs.YtgnncnhkgmhngaaGreatDoor
open Sp
open Tryz
open Go.RowKit
attribute [local go_sem ↓] Go.wp_at_zero Go.wp_at_succ
theorem Bk.kept2 {b q:Nat} {w w' : World} {p:Nat} {vs:List Value} (h:Bk w p vs) (k:bQ b q w w') (ne:p≠b) (nq:p≠q):Bk w' p vs:=h.same k.size (k.block p h.lt ne nq)
theorem Bk.set1 {w:World} {q:Nat} {x:Value} (h:Bk w q [x]) (x' : Value):Bk (w.setCell ⟨q,0,none⟩ x') q [x']:=by
 have c0:=h.k0
 have lt:=h.lt
 have F:Hid (∀ j,w.frozen? ⟨q,j,none⟩=false):=h.f
 refine ⟨by simpa [World.setCell] using h.lt,?_,λj=>?_⟩
 ·intro j hj
  match j,hj with
  | 0,_=>clear F h;go_simp
 ·have f:=F.out j
  clear F h
  go_simp
theorem Bk.EI {w:World} {q p:Nat} {vs:List Value} (h:Bk w p vs) (o:Nat) (u:Value) (ne:p≠q):Bk (w.setCell ⟨q,o,none⟩ u) p vs:=h.same (by simp [World.setCell]) (c6 _ _ _ _ ne)
theorem qG {s:Sp.Bs} {σ:St} (h:(Bf s σ).aA=true):σ.aA=true:=by
 unfold Bf at h
 split at h
 ·exact cU h
 ·exact (fG h).elim
theorem sI {b c cap len q qp k:Nat} {s:Sp.Bs} {d:Nat} {σ:St} {w:World} (h:PS b c cap len s d σ w) (hq:Bk w q [.int .i64 (k:Int)]) (OV:Bk w qp [.pointer (some ⟨b,0,none⟩)]) (h1:q≠b) (h2:c<q) (h3:qp≠b) (h4:qp≠q) (hk:k<=6) :
  Calls prog 124 #[.pointer (some ⟨q,0,none⟩), .pointer (some ⟨qp,0,none⟩)] w λr w'=>∃ v,r = .returned v/\PS b c cap len s d (EH s k σ) w'/\bQ b q w w'/\Bk w' q [.int .i64 ((k+1:Nat):Int)]/\VH v/\((EH s k σ).aA=true->v = .agg #[.string (bz ((Ib s k σ).nm s).1), .int .i64 (((Ib s k σ).nm s).2:Nat), .int .i64 (lI s ((Ib s k σ).aD s))]):=by
 have hbw:=h.lb
 have hcw:=h.lc
 have Up:=hq.lt
 have VI:=OV.lt
 have rI:Hid (PS b c cap len s d σ ((w.setCell ⟨q,0,none⟩ (.int .i64 ((k:Int)+1))).alloc (.cells #[.string ⟨#[]⟩, .int .i64 0, .int .i64 0] 228))):=(h.put q 0 h1 h2 _).alloc _
 have pY:Hid (bQ b q w ((w.setCell ⟨q,0,none⟩ (.int .i64 ((k:Int)+1))).alloc (.cells #[.string ⟨#[]⟩, .int .i64 0, .int .i64 0] 228))):=((bQ.refl b q w).setCell 0 _).trans (bQ.of ((Kept.refl b _).alloc _))
 have HB0:Hid (Bk ((w.setCell ⟨q,0,none⟩ (.int .i64 ((k:Int)+1))).alloc (.cells #[.string ⟨#[]⟩, .int .i64 0, .int .i64 0] 228)) w.heap.size [.string ⟨#[]⟩, .int .i64 0, .int .i64 0]):=by
  have:=Bk.new (w.setCell ⟨q,0,none⟩ (.int .i64 ((k:Int)+1))) #[.string ⟨#[]⟩, .int .i64 0, .int .i64 0] 228
  have e:(w.setCell ⟨q,0,none⟩ (.int .i64 ((k:Int)+1))).heap.size=w.heap.size:=by simp [World.setCell]
  rw [e] at this
  exact this
 have VJ:Hid (Bk ((w.setCell ⟨q,0,none⟩ (.int .i64 ((k:Int)+1))).alloc (.cells #[.string ⟨#[]⟩, .int .i64 0, .int .i64 0] 228)) q [.int .i64 ((k:Int)+1)]):=(hq.set1 _).alloc _
 have VK:Hid (Bk ((w.setCell ⟨q,0,none⟩ (.int .i64 ((k:Int)+1))).alloc (.cells #[.string ⟨#[]⟩, .int .i64 0, .int .i64 0] 228)) qp [.pointer (some ⟨b,0,none⟩)]):=(OV.EI 0 _ h4).alloc _
 have cq:=hq.k0
 have fq:=hq.f 0
 have cp:=OV.k0
 have e0:=VJ.out.k0
 have e1:=VK.out.k0
 clear h hq OV
 by_cases h6:¬ k<6
 ·have HE:Hid (Ib s k σ=σ.fail s 2/\EH s k σ=Bf s ((σ.fail s 2).aD s)):=by
   obtain rfl:k=6:=by omega
   exact ⟨rfl,rfl⟩
  go_enter func124,ntmps124
  go_wp2_with fail
  refine (gE rI.out).mono ?_
  rintro r w1 ⟨rfl,hp1,hk1⟩
  have bP:=hid hp1
  have bD:Hid (bQ b q w w1):=pY.out.trans (bQ.of hk1)
  have HB1:Hid (Bk w1 w.heap.size [.string ⟨#[]⟩, .int .i64 0, .int .i64 0]):=HB0.out.kept hk1 (by omega)
  have Ky:Hid (Bk w1 q [.int .i64 ((k:Int)+1)]):=VJ.out.kept hk1 h1
  have Kz:Hid (Bk w1 qp [.pointer (some ⟨b,0,none⟩)]):=VK.out.kept hk1 h3
  have y1:=Kz.out.k0
  clear hp1 hk1
  go_wp2_with fail
  go_region_held3 (λw'=>w'.cell? ⟨qp,0,none⟩=some (.pointer (some ⟨b,0,none⟩))) (first | go_keep | exact y2 | exact y3 | go_simp) (first | (go_at_call 79;refine (name_any bP.out.drew).mono ?_;rintro e w2 ⟨v2,rfl,hp2,hk2,⟨wd2,a2,rfl⟩,hr2⟩;have vE : Kept b w1 w2:=((Kept.refl b w1).drew).trans hk2;have hY2:=Kz.out.kept vE h3;have y2:=hY2.k0) | (go_at_call 125;refine (nH hp2).mono ?_;rintro e w3 ⟨v3,rfl,hp3,hk3,⟨t3,rfl⟩,hr3⟩;have SO:=hY2.kept hk3 h3;have y3:=SO.c 0 (by simp);have hB3:=(HB1.out.kept vE (by omega)).kept hk3 (by omega);have c0:=hB3.c 0 (by decide);have c1:=hB3.c 1 (by decide);have c2:=hB3.c 2 (by decide);have f0:=hB3.f 0;have f1:=hB3.f 1;have f2:=hB3.f 2;have hne:w.heap.size≠qp:=(by omega);have hne' : qp≠w.heap.size:=(by omega);simp only [List.getElem_cons_zero,List.getElem_cons_succ] at y3 c0 c1 c2))
  have dJ:=hid hp3
  have bL:Hid (bQ b q w w3):=bD.out.trans (bQ.of (vE.trans hk3))
  have Gk:Hid (Bk w3 q [.int .i64 ((k:Int)+1)]):=Ky.out.kept (vE.trans hk3) h1
  have HR2:Hid ((St.aD s (σ.fail s 2)).aA=true->wd2=bz (St.nm s (σ.fail s 2)).1/\a2=((St.nm s (σ.fail s 2)).2:Nat)):=λhl=>mY (hr2 hl)
  have HR3:Hid ((Bf s (St.aD s (σ.fail s 2))).aA=true->t3=lI s (St.aD s (σ.fail s 2))):=λhl=>by have:=hr3 hl;injection this
  clear hp2 hk2 hr2 vE hY2 hp3 hk3 hr3 SO hB3 y1 y2 y3
  go_wp2_with fail
  refine cV (v := .agg #[.string wd2, .int .i64 a2, .int .i64 t3]) (by simp [results,results124,go_sem, *]) rfl ⟨_,rfl,?_,((bL.out.aI (by simp) _).aI (by simp) _).aI (by simp) _,?_,⟨_,_,_,rfl⟩,λhl=>?_⟩
  ·rw [HE.out.2]
   exact ((dJ.out.put w.heap.size 0 (by omega) (by omega) _).put w.heap.size 1 (by omega) (by omega) _).put w.heap.size 2 (by omega) (by omega) _
  ·have:=((Gk.out.EI (q:=w.heap.size) 0 (.string wd2) (by omega)).EI (q:=w.heap.size) 1 (.int .i64 a2) (by omega)).EI (q:=w.heap.size) 2 (.int .i64 t3) (by omega)
   simpa using this
  ·rw [HE.out.2] at hl
   rw [HE.out.1]
   obtain ⟨u1,u2⟩:=HR2.out (qG hl)
   rw [u1,u2,HR3.out hl]
 ·have HE:Hid (Ib s k σ=σ/\EH s k σ=Bf s (σ.aD s)):=by
   have:(k == 6)=false:=by simp;omega
   exact ⟨by unfold Ib;rw [this];rfl,by unfold EH Ib;rw [this];rfl⟩
  go_enter func124,ntmps124
  go_wp2_with fail
  generalize hw1:((w.setCell ⟨q,0,none⟩ (.int .i64 ((k:Int)+1))).alloc (.cells #[.string ⟨#[]⟩, .int .i64 0, .int .i64 0] 228))=w1 at *
  have bP:Hid (PS b c cap len s d σ w1):=rI.out
  have bD:Hid (bQ b q w w1):=pY.out
  have HB1:Hid (Bk w1 w.heap.size [.string ⟨#[]⟩, .int .i64 0, .int .i64 0]):=HB0.out
  have Ky:Hid (Bk w1 q [.int .i64 ((k:Int)+1)]):=VJ.out
  have Kz:Hid (Bk w1 qp [.pointer (some ⟨b,0,none⟩)]):=VK.out
  have y1:=Kz.out.k0
  clear hw1
  go_region_held3 (λw'=>w'.cell? ⟨qp,0,none⟩=some (.pointer (some ⟨b,0,none⟩))) (first | go_keep | exact y2 | exact y3 | go_simp) (first | (go_at_call 79;refine (name_any bP.out.drew).mono ?_;rintro e w2 ⟨v2,rfl,hp2,hk2,⟨wd2,a2,rfl⟩,hr2⟩;have vE : Kept b w1 w2:=((Kept.refl b w1).drew).trans hk2;have hY2:=Kz.out.kept vE h3;have y2:=hY2.k0) | (go_at_call 125;refine (nH hp2).mono ?_;rintro e w3 ⟨v3,rfl,hp3,hk3,⟨t3,rfl⟩,hr3⟩;have SO:=hY2.kept hk3 h3;have y3:=SO.c 0 (by simp);have hB3:=(HB1.out.kept vE (by omega)).kept hk3 (by omega);have c0:=hB3.c 0 (by decide);have c1:=hB3.c 1 (by decide);have c2:=hB3.c 2 (by decide);have f0:=hB3.f 0;have f1:=hB3.f 1;have f2:=hB3.f 2;have hne:w.heap.size≠qp:=(by omega);have hne' : qp≠w.heap.size:=(by omega);simp only [List.getElem_cons_zero,List.getElem_cons_succ] at y3 c0 c1 c2))
  have dJ:=hid hp3
  have bL:Hid (bQ b q w w3):=bD.out.trans (bQ.of (vE.trans hk3))
  have Gk:Hid (Bk w3 q [.int .i64 ((k:Int)+1)]):=Ky.out.kept (vE.trans hk3) h1
  have HR2:Hid ((St.aD s σ).aA=true->wd2=bz (St.nm s σ).1/\a2=((St.nm s σ).2:Nat)):=λhl=>mY (hr2 hl)
  have HR3:Hid ((Bf s (St.aD s σ)).aA=true->t3=lI s (St.aD s σ)):=λhl=>by have:=hr3 hl;injection this
  clear hp2 hk2 hr2 vE hY2 hp3 hk3 hr3 SO hB3 y1 y2 y3
  go_wp2_with fail
  refine cV (v := .agg #[.string wd2, .int .i64 a2, .int .i64 t3]) (by simp [results,results124,go_sem, *]) rfl ⟨_,rfl,?_,((bL.out.aI (by simp) _).aI (by simp) _).aI (by simp) _,?_,⟨_,_,_,rfl⟩,λhl=>?_⟩
  ·rw [HE.out.2]
   exact ((dJ.out.put w.heap.size 0 (by omega) (by omega) _).put w.heap.size 1 (by omega) (by omega) _).put w.heap.size 2 (by omega) (by omega) _
  ·have:=((Gk.out.EI (q:=w.heap.size) 0 (.string wd2) (by omega)).EI (q:=w.heap.size) 1 (.int .i64 a2) (by omega)).EI (q:=w.heap.size) 2 (.int .i64 t3) (by omega)
   simpa using this
  ·rw [HE.out.2] at hl
   rw [HE.out.1]
   obtain ⟨u1,u2⟩:=HR2.out (qG hl)
   rw [u1,u2,HR3.out hl]
end Go.Proofs.YtgnncnhkgmhngaaGreatDoor
namespace Go.Proofs.YtgnncnhkgmhngaaGreatDoor
open Sp
open Tryz
open Go.RowKit
theorem bQ.alloc {b q:Nat} {a w:World} (h:bQ b q a w) (o:Obj):bQ b q a (w.alloc o):=h.trans (bQ.of ((Kept.refl b w).alloc o))
theorem bQ.grown {b q:Nat} {a w w' : World} {g:Nat} (h:bQ b q a w) (k:w.grownBy w' (some g)) (hg:a.heap.size<=g):bQ b q a w':=
 ⟨k.os.trans h.os,k.tape.trans h.tape,k.output.trans h.output,cF h.size k.size,λi hi hb hq=>(k.block i (b6 hi h.size) (by intro e;injection e with e;omega)).trans (h.block i hi hb hq)⟩
def Rk (s:Sp.Bs) (k:Nat) (σ:St):Nm×Int:=((Ib s k σ).nm s,lI s ((Ib s k σ).aD s))
def nI (n:Nm×Int):List Value := [.string (bz n.1.1), .int .i64 (n.1.2:Nat), .int .i64 n.2]
def KB (w:World) (ns:List (Nm×Int)) (lo hi:Nat) (v:Value):Prop:=
 ∃ g kc,v = .slice (some ⟨g,0,none⟩) ns.length kc/\lo<=g/\g<hi/\∀ j u,(ns.flatMap nI)[j]?=some u->w.cell? ⟨g,j,none⟩=some u
theorem KB.frame {w w' : World} {ns:List (Nm×Int)} {lo hi:Nat} {v:Value} (h:KB w ns lo hi v) (hk:∀ k,lo<=k->k<hi->w'.heap[k]?=w.heap[k]?):KB w' ns lo hi v:=by
 obtain ⟨g,kc,e,h1,h2,h3⟩:=h
 exact ⟨g,kc,e,h1,h2,λj u hj=>(dV (w:=w) (a:=⟨g,j,none⟩) (hk g h1 h2)).trans (h3 j u hj)⟩
theorem M3 (s:Sp.Bs) (σ:St):rem s (Bf s σ)<=rem s σ:=by
 unfold Bf
 split
 ·exact cN _ _
 ·rw [fP];omega
theorem M4 (s:Sp.Bs) (k:Nat) (σ:St):rem s (Ib s k σ)<=rem s σ:=by
 unfold Ib
 split
 ·rw [fP];omega
 ·exact aF _
theorem Gl (s:Sp.Bs) (k:Nat) (σ:St):rem s (EH s k σ)<=rem s σ:=cF (M3 _ _) (cF (dT _ _) (M4 _ _ _))
theorem KC {s:Sp.Bs} {k:Nat} {σ:St} (h:(EH s k σ).aA=true):k≠6:=by
 rintro rfl
 have h1:=gD (qG h)
 exact fG (σ:=σ) (s:=s) h1
def OW (s:Sp.Bs) (m k:Nat) (σ:St):St:=if σ.is s [44] then wG s m k (σ.step s) else σ
def P4 (s:Sp.Bs) (m k:Nat) (σ:St):List (Nm×Int):=if σ.is s [44] then oN s m k (σ.step s) else []
theorem EJ (s:Sp.Bs) (m k:Nat) (σ:St):wG s (m+1) k σ=OW s m (k+1) (EH s k σ):=by unfold wG;rfl
theorem Gm (s:Sp.Bs) (m k:Nat) (σ:St):oN s (m+1) k σ=Rk s k σ::P4 s m (k+1) (EH s k σ):=by unfold oN;rfl
theorem EK:(prog.info? 228).map (λi=>(i.zero,i.size,i.bytes))=some (some (.agg #[.string ⟨#[]⟩, .int .i64 0, .int .i64 0]),3,32):=by kernel_rfl
theorem OX {x y:ByteArray} {a c q r:Int} (h:Value.agg #[.string x, .int .i64 a, .int .i64 q] = .agg #[.string y, .int .i64 c, .int .i64 r]):x=y/\a=c/\q=r:=by
 simp only [Value.agg.injEq] at h
 have e0:=congrArg (λx:Array Value=>x[0]?) h
 have e1:=congrArg (λx:Array Value=>x[1]?) h
 have e2:=congrArg (λx:Array Value=>x[2]?) h
 simp at e0 e1 e2
 exact ⟨e0,e1,e2⟩
theorem Ch {b c cap len q qp:Nat} {s:Sp.Bs} {m:Nat} {σ:St} {w:World} (_hmn:m<=900000) (hmm:32*rem s σ<=m+1) (hp:PS b c cap len s 0 σ w) (hq:Bk w q [.int .i64 (0:Int)]) (OV:Bk w qp [.pointer (some ⟨b,0,none⟩)]) (h1:q≠b) (h2:c<q) (h3:qp≠b) (h4:qp≠q) :
  Calls prog 123 #[.pointer (some ⟨b,0,none⟩), .func (.func 124) #[] #[.pointer (some ⟨q,0,none⟩), .pointer (some ⟨qp,0,none⟩)]] w λr w'=>∃ v,r = .returned v/\PS b c cap len s 0 (wG s (m+1) 0 σ) w'/\bQ b q w w'/\rD v/\((wG s (m+1) 0 σ).aA=true->KB w' (oN s (m+1) 0 σ) w.heap.size w'.heap.size v):=by
 obtain ⟨i0,ji,fU,jz1,fV⟩:=info_parts EK
 have hr:=Gl s 0 σ
 have hbw:=hp.lb
 have hcw:=hp.lc
 have R4:=hp.h5.1
 have Up:=hq.lt
 have VI:=OV.lt
 have HP:=hid hp
 have HQ:Hid (Bk w q [.int .i64 ((0:Nat):Int)]):=hq
 have HY:=hid OV
 clear hp hq OV
 go_enter func123,ntmps123
 go_wp2_with fail
 refine (sI HP.out HQ.out HY.out h1 h2 h3 h4 (by omega)).mono ?_
 rintro r w1 ⟨v1,rfl,hp1,hk1,hq1,⟨x1,a1,t1,rfl⟩,hr1⟩
 have bP:Hid (PS b c cap len s 0 (EH s 0 σ) (w1.alloc (.cells #[.string x1, .int .i64 a1, .int .i64 t1] 228))):=hp1.alloc _
 have bD:Hid (bQ b q w (w1.alloc (.cells #[.string x1, .int .i64 a1, .int .i64 t1] 228))):=hk1.alloc _
 have Ky:Hid (Bk (w1.alloc (.cells #[.string x1, .int .i64 a1, .int .i64 t1] 228)) q [.int .i64 ((0+1:Nat):Int)]):=hq1.alloc _
 have Kz:Hid (Bk (w1.alloc (.cells #[.string x1, .int .i64 a1, .int .i64 t1] 228)) qp [.pointer (some ⟨b,0,none⟩)]):=(HY.out.kept2 hk1 h3 h4).alloc _
 have hz1':=hk1.size
 have MD:Hid ((w1.alloc (.cells #[.string x1, .int .i64 a1, .int .i64 t1] 228)).ownsRow w.heap.size 228 3 (.slice (some ⟨w1.heap.size,0,none⟩) 1 1) 1 [.string x1, .int .i64 a1, .int .i64 t1]):=jW w1 w.heap.size hz1' 228 3 #[.string x1, .int .i64 a1, .int .i64 t1] 1 rfl (by unfold maxLen;omega)
 have HR1:Hid ((EH s 0 σ).aA=true -> [.string x1, .int .i64 a1, .int .i64 t1] = [Rk s 0 σ].flatMap nI):=λhl=>by
  obtain ⟨e0,e1,e2⟩:=OX (hr1 hl)
  rw [e0,e1,e2]
  rfl
 clear hp1 hk1 hq1 hr1 HP HQ HY
 go_wp2_with fail
 go_loopg [5] m (λgm v wr=>gm<=m/\∃ (σ' : St) (ns:List (Nm×Int)) (g k kc:Nat),v = .slice (some ⟨g,0,none⟩) k kc/\k+gm<=m+1/\32*rem s σ'<=gm+1/\Hid (σ'.aA=true->k<=6)/\w.heap.size<=g/\g<wr.heap.size/\Hid (k=ns.length)/\Hid (wG s (m+1) 0 σ=OW s gm k σ')/\Hid (oN s (m+1) 0 σ=ns++P4 s gm k σ')/\Hid (PS b c cap len s 0 σ' wr)/\Hid (bQ b q w wr)/\Hid (Bk wr q [.int .i64 (k:Int)])/\Hid (Bk wr qp [.pointer (some ⟨b,0,none⟩)])/\Hid (∃ ys,wr.ownsRow w.heap.size 228 3 (.slice (some ⟨g,0,none⟩) k kc) k ys/\(σ'.aA=true->ys=ns.flatMap nI)))
 case atStart=>exact ⟨aF _,_, [Rk s 0 σ],w1.heap.size,1,1,rfl,by omega,by omega,λ_=>by omega,hz1',by simp,rfl,EJ s m 0 σ,Gm s m 0 σ,bP.out,bD.out,Ky.out,Kz.out,⟨_,MD.out,HR1.out⟩⟩
 case round=>
  obtain ⟨hgm,σ',ns,g,k,kc,rfl,hkg,hms,iS,hgw,hgr,BK,HR,pP,kM,hZ,XJ,Ux,HOr⟩:=hrel
  have hgq:g≠q:=by omega
  have VN:g≠qp:=by omega
  cases hs:σ'.is s [44]
  ·have HV:Hid (OW s gk k σ'=σ'):=by show _=_;rw [OW,hs];rfl
   have cL:Hid (P4 s gk k σ' = []):=by show _=_;rw [P4,hs];rfl
   have HT:Hid (σ'.take s [44]=σ'):=bE hs
   go_wp2_with fail
   refine (aW kM.out [44] (by decide)).mono ?_
   rintro r w2 ⟨rfl,hp2,hk2⟩
   rw [HT.out] at hp2
   rw [hs]
   have HP2:Hid (PS b c cap len s 0 σ' w2):=hp2
   have aY:=hid hk2
   clear hp2 hk2
   go_wp2_with fail
   go_ret
   refine ⟨_,rfl,by rw [HR.out,HV.out];exact HP2.out,hZ.out.trans (bQ.of aY.out),⟨_,_,_,rfl⟩,λhl=>?_⟩
   rw [HR.out,HV.out] at hl
   have hz2:=aY.out.size
   obtain ⟨ys,O,ey⟩:=HOr.out
   have O2:=bF O (aY.out.block g hgr (by omega))
   refine ⟨g,kc,?_,hgw,by omega,λj u hj=>?_⟩
   ·have ek:(oN s (m+1) 0 σ).length=k:=by rw [pP.out,cL.out,List.append_nil];exact BK.out.symm
    rw [ek];rfl
   ·rw [pP.out,cL.out,List.append_nil,<- ey hl] at hj
    exact cH O2 j u hj
  ·have hlt:=aO hs
   obtain ⟨m',rfl⟩:∃ m',gk=m'+1:=⟨gk - 1,by omega⟩
   have HV:Hid (OW s (m'+1) k σ'=OW s m' (k+1) (EH s k (σ'.step s))):=by show _=_;rw [OW,hs];exact EJ s m' k _
   have cL:Hid (P4 s (m'+1) k σ'=Rk s k (σ'.step s)::P4 s m' (k+1) (EH s k (σ'.step s))):=by show _=_;rw [P4,hs];exact Gm s m' k _
   have HT:Hid (σ'.take s [44]=σ'.step s):=aZ hs
   have HL:Hid (σ'.aA=true):=cS hs
   have hk6:=iS.out HL.out
   have hrc:=Gl s k (σ'.step s)
   go_wp2_with fail
   refine (aW kM.out [44] (by decide)).mono ?_
   rintro r w2 ⟨rfl,hp2,hk2⟩
   rw [HT.out] at hp2
   rw [hs]
   have HP2:Hid (PS b c cap len s 0 (σ'.step s) w2):=hp2
   have aY:=hid hk2
   have Gn:Hid (Bk w2 q [.int .i64 (k:Int)]):=XJ.out.kept hk2 h1
   have Rl:Hid (Bk w2 qp [.pointer (some ⟨b,0,none⟩)]):=Ux.out.kept hk2 h3
   clear hp2 hk2
   go_wp2_with fail
   refine (sI HP2.out Gn.out Rl.out h1 h2 h3 h4 hk6).mono ?_
   rintro r w3 ⟨v3,rfl,hp3,hk3,hq3,⟨x3,a3,t3,rfl⟩,hr3⟩
   have dJ:=hid hp3
   have bL:=hid hk3
   have Gk:Hid (Bk w3 q [.int .i64 ((k+1:Nat):Int)]):=hq3
   have Uy:Hid (Bk w3 qp [.pointer (some ⟨b,0,none⟩)]):=Rl.out.kept2 hk3 h3 h4
   have HR3:Hid ((EH s k (σ'.step s)).aA=true -> [.string x3, .int .i64 a3, .int .i64 t3]=nI (Rk s k (σ'.step s))):=λhl=>by
    obtain ⟨e0,e1,e2⟩:=OX (hr3 hl)
    rw [e0,e1,e2]
    rfl
   have Kx:Hid (∀ u∈([.string x3, .int .i64 a3, .int .i64 t3]:List Value),u.oneCell'=true):=(by intro u hu;simp at hu;rcases hu with rfl | rfl | rfl <;> rfl)
   have hz2:=aY.out.size
   have hz3:=bL.out.size
   have PE:=hZ.out.size
   obtain ⟨ys,hO,OU⟩:=HOr.out
   have SN:=hid OU
   have oA:Hid (w3.ownsRow w.heap.size 228 3 (.slice (some ⟨g,0,none⟩) k kc) k ys):=bF hO (((bQ.of aY.out).trans bL.out).block g hgr (by omega) hgq)
   have wQ:Hid ((w3.alloc (.cells #[.string x3, .int .i64 a3, .int .i64 t3] 228)).ownsRow w.heap.size 228 3 (.slice (some ⟨g,0,none⟩) k kc) k ys):=bF oA.out (lK _ _ _ (by omega))
   clear hp3 hk3 hq3 hr3 HP2 kM hO OU Gn Rl XJ Ux
   go_wp2_with (at_builtin;go_must (refine dH _ rfl (.tmp 12) (.tmp 15) 225 rfl w.heap.size 228 i0 (.agg #[.string ⟨#[]⟩, .int .i64 0, .int .i64 0]) 3 32 underlying225 ji fU jz1 fV rfl (by decide) g k kc ys rfl wQ.out ⟨w3.heap.size,0,none⟩ 1 [.string x3, .int .i64 a3, .int .i64 t3] rfl rfl ?c1 Kx.out ?c3 ?c4 ?c5 ?_))
   case c1=>
    intro j u hj
    rw [Addr.add_lit,Nat.zero_add,lU]
    simpa using hj
   case c3=>unfold maxLen;omega
   case c4=>omega
   case c5=>simp;omega
   intro g' iE w5 hown hgrow hg'
   have wB:Hid (w5.ownsRow w.heap.size 228 3 (.slice (some ⟨g',0,none⟩) (k+1) iE) (k+1) (ys ++ [.string x3, .int .i64 a3, .int .i64 t3])):=hown
   have rK:=hid hgrow
   have hg5:=(gI hown)
   clear hown hgrow hg'
   go_wp2_with fail
   go_roundg m'
   case measure=>omega
   case rel=>
    have tG:w3.heap.size+1<=w5.heap.size:=by have:=rK.out.size;simpa using this
    have hb5:∀ q,q<w3.heap.size->q≠g->w5.heap[q]?=w3.heap[q]?:=λq hq hn=>(rK.out.block q (by simp;omega) (λe=>by injection e with e;exact hn e)).trans (lK _ _ _ hq)
    refine ⟨by omega,_,ns ++ [Rk s k (σ'.step s)],g',k+1,iE,rfl,by omega,by omega,λhl=>by have:=KC hl;omega,hg5.1,hg5.2,by show _=_;rw [List.length_append,<- BK.out];rfl,by show _=_;rw [HR.out,HV.out],by show _=_;rw [pP.out,cL.out,List.append_assoc];rfl,dJ.out.stay (by omega) (hb5 b (by omega) (by omega)) (hb5 c (by omega) (by omega)) (hb5 5 (by omega) (by omega)),(((hZ.out.trans (bQ.of aY.out)).trans bL.out).alloc _).grown rK.out hgw,Gk.out.same (by omega) (hb5 q (by omega) (Ne.symm hgq)),Uy.out.same (by omega) (hb5 qp (by omega) (Ne.symm VN)),⟨_,wB.out,λhl=>?_⟩⟩
    rw [SN.out HL.out,HR3.out hl,List.flatMap_append]
    simp
def KD (w:World) (nm:Nm) (ns:List (Nm×Int)) (lo hi:Nat) (v:Value):Prop:=
 ∃ q sl,v = .pointer (some ⟨q,0,none⟩)/\lo<=q/\q<hi/\At w q [.string (bz nm.1), .int .i64 (nm.2:Nat),sl]/\KB w ns lo hi sl
def M5 (v:Value):Prop:=∃ q,v = .pointer (some ⟨q,0,none⟩)
def XK (s:Sp.Bs) (m:Nat) (σ:St):St:=(wG s (m+1) 0 (((σ.must s [116,97,98,108,101]).aD s).must s [40])).must s [41]
theorem KB.wide {w:World} {ns:List (Nm×Int)} {lo hi lo' hi' : Nat} {v:Value} (h:KB w ns lo hi v) (h1:lo'<=lo) (h2:hi<=hi'):KB w ns lo' hi' v:=by
 obtain ⟨g,kc,e,e1,e2,e3⟩:=h
 exact ⟨g,kc,e,by omega,by omega,e3⟩
theorem yJ {s:Sp.Bs} : ∀ {m k:Nat} {σ:St},(wG s m k σ).aA=true->σ.aA=true
 | 0,_,_,h=>h
 | m+1,k,σ,h=>by
  rw [EJ] at h
  have g:(EH s k σ).aA=true:=by
   unfold OW at h
   split at h
   ·exact cU (yJ h)
   ·exact h
  have g2:=gD (qG g)
  unfold Ib at g2
  split at g2
  ·exact (fG g2).elim
  ·exact g2
theorem EL {b c cap len:Nat} {s:Sp.Bs} {m:Nat} {σ:St} {w:World} (hmn:m<=900000) (hmm:32*rem s σ<=m+1) (hp:PS b c cap len s 0 σ w) :
  Calls prog 77 #[.pointer (some ⟨b,0,none⟩)] w (aX b c cap len s 0 (XK s m σ) w M5 λw' v=>KD w' ((σ.must s [116,97,98,108,101]).nm s) (oN s (m+1) 0 (((σ.must s [116,97,98,108,101]).aD s).must s [40])) w.heap.size w'.heap.size v):=by
 have hbw:=hp.lb
 have hcw:=hp.lc
 have hr1:=cA s [116,97,98,108,101] σ
 have hr2:=dT s (σ.must s [116,97,98,108,101])
 have hr3:=cA s [40] ((σ.must s [116,97,98,108,101]).aD s)
 have HP:Hid (PS b c cap len s 0 σ (w.alloc (.cells #[.pointer (some ⟨b,0,none⟩)] 157))):=hp.alloc _
 have HK:Hid (Kept b w (w.alloc (.cells #[.pointer (some ⟨b,0,none⟩)] 157))):=(Kept.refl b w).alloc _
 have HY:Hid (Bk (w.alloc (.cells #[.pointer (some ⟨b,0,none⟩)] 157)) w.heap.size [.pointer (some ⟨b,0,none⟩)]):=Bk.new _ _ _
 clear hp
 go_enter func77,ntmps77
 go_wp2_with fail
 refine (kY HP.out [116,97,98,108,101] (by decide) _ (by simp)).mono ?_
 generalize w.alloc (.cells #[.pointer (some ⟨b,0,none⟩)] 157)=w0 at *
 rintro r w1 ⟨rfl,hp1,hk1⟩
 have bP:=hid hp1
 have bD:=hid (HK.out.trans hk1)
 have VO:=HY.out.kept hk1 (by omega)
 have Kz:=hid VO
 have y1:=VO.k0
 clear hp1 hk1 VO HP HK HY
 go_wp2_with fail
 refine (name_any bP.out).mono ?_
 rintro r w2 ⟨v2,rfl,hp2,hk2,⟨wd2,a2,rfl⟩,hq2⟩
 have HP2:Hid (PS b c cap len s 0 ((σ.must s [116,97,98,108,101]).aD s) (w2.alloc (.cells #[.string wd2, .int .i64 a2] 165))):=hp2.alloc _
 have aY:Hid (Kept b w (w2.alloc (.cells #[.string wd2, .int .i64 a2] 165))):=(bD.out.trans hk2).alloc _
 have Rl:Hid (Bk (w2.alloc (.cells #[.string wd2, .int .i64 a2] 165)) w.heap.size [.pointer (some ⟨b,0,none⟩)]):=(Kz.out.kept hk2 (by omega)).alloc _
 have lL:Hid (Bk (w2.alloc (.cells #[.string wd2, .int .i64 a2] 165)) w2.heap.size [.string wd2, .int .i64 a2]):=Bk.new _ _ _
 have HR2:Hid (((σ.must s [116,97,98,108,101]).aD s).aA=true->wd2=bz ((σ.must s [116,97,98,108,101]).nm s).1/\a2=(((σ.must s [116,97,98,108,101]).nm s).2:Nat)):=λhl=>mY (hq2 hl)
 have hY2:=(Kz.out.kept hk2 (by omega))
 have y2:=hY2.k0
 have hz2:w.heap.size<w2.heap.size:=hY2.lt
 clear hp2 hk2 hq2 hY2 bP bD Kz y1
 go_wp2_with fail
 refine (kY HP2.out [40] (by decide) _ (by simp)).mono ?_
 generalize w2.alloc (.cells #[.string wd2, .int .i64 a2] 165)=w2' at *
 rintro r w3 ⟨rfl,hp3,hk3⟩
 have wP:Hid (Bk w3 w2.heap.size [.string wd2, .int .i64 a2]):=lL.out.kept hk3 (by omega)
 have Uy:Hid (Bk w3 w.heap.size [.pointer (some ⟨b,0,none⟩)]):=Rl.out.kept hk3 (by omega)
 have hx3:=wP.out.lt
 have dJ:Hid (PS b c cap len s 0 (((σ.must s [116,97,98,108,101]).aD s).must s [40]) (w3.alloc (.cells #[.int .i64 0] 3))):=hp3.alloc _
 have bL:Hid (Kept b w (w3.alloc (.cells #[.int .i64 0] 3))):=(aY.out.trans hk3).alloc _
 have Gk:Hid (Bk (w3.alloc (.cells #[.int .i64 0] 3)) w3.heap.size [.int .i64 (0:Int)]):=Bk.new _ _ _
 have M6 : Hid (Bk (w3.alloc (.cells #[.int .i64 0] 3)) w.heap.size [.pointer (some ⟨b,0,none⟩)]):=Uy.out.alloc _
 have SP : Hid (Bk (w3.alloc (.cells #[.int .i64 0] 3)) w2.heap.size [.string wd2, .int .i64 a2]):=wP.out.alloc _
 have y3:=M6.out.k0
 clear hp3 hk3 HP2 aY Rl lL y2
 go_wp2_with fail
 refine (Ch hmn (by omega) dJ.out Gk.out M6.out (by omega) (by omega) (by omega) (by omega)).mono ?_
 generalize hw3:w3.alloc (.cells #[.int .i64 0] 3)=w3' at *
 have hz3:w3.heap.size+1=w3'.heap.size:=by rw [<- hw3];simp
 clear hw3
 rintro r w4 ⟨v4,rfl,gJ,hk4,⟨sa,sn,sc,rfl⟩,hq4⟩
 have iD:=hid gJ
 have eS:Hid (bQ b w3.heap.size w w4):=(bQ.of bL.out).trans hk4
 have lM:Hid (Bk w4 w2.heap.size [.string wd2, .int .i64 a2]):=SP.out.kept2 hk4 (by omega) (by omega)
 have Rb:Hid (Bk w4 w.heap.size [.pointer (some ⟨b,0,none⟩)]):=M6.out.kept2 hk4 (by omega) (by omega)
 have HR4:=hid hq4
 have tH:=hk4.size
 have y4:=Rb.out.k0
 clear gJ hk4 hq4 dJ bL Gk Uy wP M6 SP y3
 go_wp2_with fail
 refine (cG iD.out [41] (by decide)).mono ?_
 rintro r w5 ⟨rfl,oJ,hk5⟩
 have i7:=hid oJ
 have iR:=hid hk5
 have MC:=lM.out.kept hk5 (by omega)
 have x0:=MC.k0
 have x1:=MC.k1
 have tG:=hk5.size
 clear oJ hk5 MC iD lM Rb y4
 go_wp2_with fail
 go_ret
 refine ⟨_,rfl,i7.out.alloc _,((eS.out.trans (bQ.of iR.out)).fresh (by omega)).alloc _,⟨_,rfl⟩,λhl=>?_⟩
 have hl4:=bK hl
 obtain ⟨e0,e1⟩:=HR2.out (bK (yJ hl4))
 refine ⟨_, .slice sa sn sc,rfl,by omega,by simp,?_,?_⟩
 ·rw [<- e0,<- e1]
  exact (Bk.new w5 #[.string wd2, .int .i64 a2, .slice sa sn sc] _).at_
 ·have q:=(HR4.out hl4).frame (w':=w5.alloc (.cells #[.string wd2, .int .i64 a2, .slice sa sn sc] 231)) λk h1 h2=>(lK _ _ _ (by omega)).trans (iR.out.block k (by omega) (by omega))
  exact q.wide (by omega) (by simp;omega)
end Go.Proofs.YtgnncnhkgmhngaaGreatDoor
