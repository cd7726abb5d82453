import Derived.Test.YtgnncnhkgmhngaaGreatDoorJ16
import Derived.Deep.RegionLaw
import Derived.Lib.Replace
set_option maxHeartbeats 4000000
namespace Go.Proofs.YtgnncnhkgmhngaaGreatDoor
open Sp
open Go.RowKit
attribute [local go_sem ↓] Go.wp_at_zero Go.wp_at_succ
theorem DH (s:Sp.Bs) (m d:Nat) (σ:St) (h:σ.is s [119,104,101,110]=true):iZ s (m+2) d σ=iZ s m d (oJ s m d σ):=by
 have e:iZ s (m+2) d σ=Sp.run s (m+2) .cX d σ:=by unfold iZ;rw [h];rfl
 rw [e];exact Bb s m d σ
theorem DI (s:Sp.Bs) (m d:Nat) (σ:St) (h:σ.is s [119,104,101,110]=true):i1 s (m+2) d σ=tN (mB s m d σ) (i1 s m d (oJ s m d σ)):=by
 have e:i1 s (m+2) d σ=Sp.tr s (m+2) .cX d .nil σ:=by unfold i1;rw [h];rfl
 rw [e];exact wU s m d σ
theorem K9 (s:Sp.Bs) (m d:Nat) (σ:St) (h:σ.is s [119,104,101,110]=false) (hg:σ.is s [101,108,115,101]=true->1<=m):iZ s m d σ=vK s (m - 1) d [101,108,115,101] σ/\i1 s m d σ = .dW .nil (CV s (m - 1) d [101,108,115,101] σ):=by
 cases he:σ.is s [101,108,115,101]
 ·unfold iZ i1 vK CV
  rw [h,he]
  exact ⟨rfl,rfl⟩
 ·obtain ⟨k,rfl⟩:∃ k,m=k+1:=⟨m - 1,by have:=hg he;omega⟩
  exact ⟨I0 s k d σ h,I1 s k d σ h⟩
theorem Ty.set {w:World} {q:Nat} {t:TypeId} (h:Ty w q t) (o:Nat) (u:Value):Ty (w.setCell ⟨q,o,none⟩ u) q t:=by
 obtain ⟨arr,fz,h⟩:=h
 refine ⟨arr.setIfInBounds o u,fz,?_⟩
 unfold World.setCell
 rw [Array.getElem?_modify,h]
 simp
theorem Ty.same {w w' : World} {q:Nat} {t:TypeId} (h:Ty w q t) (e:w'.heap[q]?=w.heap[q]?):Ty w' q t:=by
 obtain ⟨arr,fz,h⟩:=h
 exact ⟨arr,fz,e.trans h⟩
theorem Bk.Qb {w:World} {q:Nat} {x y:Value} (h:Bk w q [x,y]) (x' : Value):Bk (w.setCell ⟨q,0,none⟩ x') q [x',y]:=by
 have c0:=h.k0
 have c1:=h.k1
 have lt:=h.lt
 have F:Hid (∀ j,w.frozen? ⟨q,j,none⟩=false):=h.f
 refine ⟨by simpa [World.setCell] using h.lt,?_,λj=>?_⟩
 ·intro j hj
  match j,hj with
  | 0,_=>clear F h;go_simp
  | 1,_=>clear F h;go_simp
 ·have f:=F.out j
  clear F h
  go_simp
theorem Bk.Qc {w:World} {q:Nat} {x y:Value} (h:Bk w q [x,y]) (y' : Value):Bk (w.setCell ⟨q,1,none⟩ y') q [x,y']:=by
 have c0:=h.k0
 have c1:=h.k1
 have lt:=h.lt
 have F:Hid (∀ j,w.frozen? ⟨q,j,none⟩=false):=h.f
 refine ⟨by simpa [World.setCell] using h.lt,?_,λj=>?_⟩
 ·intro j hj
  match j,hj with
  | 0,_=>clear F h;go_simp
  | 1,_=>clear F h;go_simp
 ·have f:=F.out j
  clear F h
  go_simp
theorem Qd {a c a' c' : Int} {x y x' y' : Value} (h:Value.agg #[.int .i64 a,x, .int .i64 c,y] = .agg #[.int .i64 a',x', .int .i64 c',y']):a=a'/\x=x'/\c=c'/\y=y':=by
 simp only [Value.agg.injEq] at h
 have e0:=congrArg (λx:Array Value=>x[0]?) h
 have e1:=congrArg (λx:Array Value=>x[1]?) h
 have e2:=congrArg (λx:Array Value=>x[2]?) h
 have e3:=congrArg (λx:Array Value=>x[3]?) h
 simp at e0 e1 e2 e3
 exact ⟨e0,e1,e2,e3⟩
theorem Je {b c cap len:Nat} {s:Sp.Bs} {n d:Nat} {σ:St} {w:World} (IH:Hid (∀ m,m<=n+2->All b c cap len s m)) (hd:d+(n+2)<=1000000) (hm:32*rem s σ+13<=n+2) (hp:PS b c cap len s d σ w) :
  Calls Tryz.prog 347 #[.pointer (some ⟨b,0,none⟩)] w (aX b c cap len s d ((Sp.run s (n+2) .cX d σ).must s [101,110,100]) w aQ λw' v=>Rp w' (Sp.tr s (n+2) .cX d .nil σ) w.heap.size w'.heap.size v):=by
 obtain ⟨i0,ji,fR,jz1,fS⟩:=info_parts K0
 have hbw:=hp.lb
 have hcw:=hp.lc
 have PY:=hp.h5.1
 have hr0:=bZ s [119,104,101,110] σ
 have XR:=AF s [119,104,101,110] σ
 have hr1:=Bc s n d σ
 have hr2:=cJ s (n+1) .expr d (σ.must s [119,104,101,110])
 have hr3:=bZ s [116,104,101,110] (Sp.run s (n+1) .expr d (σ.must s [119,104,101,110]))
 have HP:=hid hp
 clear hp
 go_enter Tryz.func347,Tryz.ntmps347
 go_wp2_with fail
 refine (E1 (n:=n+1) (m:=n) HP.out rfl (λw' hp'=>(IH.out (n+1) (by omega)).expr d _ _ (by omega) (by show 32*rem s _+9<=n+1;omega) hp') (λw' hp'=>(IH.out n (by omega)).expr d _ _ (by omega) (by show 32*rem s _+9<=n;omega) hp')).mono ?_
 rintro r w1 ⟨v1,rfl,hp1,hk1,⟨a1,x1,t1,y1,rfl,hx1,hy1⟩,hr1'⟩
 have HI1:Hid (aQ x1/\aQ y1):=⟨hx1,hy1⟩
 have bT:=hid hp1
 have bD:=hid hk1
 have HR1:Hid ((oJ s n d σ).aA=true->∃ l2,a1=((mB s n d σ).1:Nat)/\t1=((mB s n d σ).2.2.1:Nat)/\Rp w1 (mB s n d σ).2.1 (w.heap.size+1) l2 x1/\Rp w1 (mB s n d σ).2.2.2 l2 w1.heap.size y1):=λhl=>by
  obtain ⟨x,y,l2,e,_,_,r1,r2⟩:=hr1' hl
  obtain ⟨e0,e1,e2,e3⟩:=Qd e
  subst e0 e1 e2 e3
  exact ⟨l2,rfl,rfl,r1,r2⟩
 have hz1:=hk1.size
 clear hp1 hk1 hr1' hx1 hy1 HP
 go_wp2_with fail
 have HP2:Hid (PS b c cap len s d (oJ s n d σ) ((w1.alloc (.cells #[.int .i64 a1,x1, .int .i64 t1,y1] 407)).alloc (.cells #[.slice (some ⟨w1.heap.size,0,none⟩) 1 1, .pointer none] 405))):=(bT.out.alloc _).alloc _
 have La:Hid (Kept b w1 ((w1.alloc (.cells #[.int .i64 a1,x1, .int .i64 t1,y1] 407)).alloc (.cells #[.slice (some ⟨w1.heap.size,0,none⟩) 1 1, .pointer none] 405))):=((Kept.refl b w1).alloc _).alloc _
 have HB2:Hid (Bk ((w1.alloc (.cells #[.int .i64 a1,x1, .int .i64 t1,y1] 407)).alloc (.cells #[.slice (some ⟨w1.heap.size,0,none⟩) 1 1, .pointer none] 405)) (w1.heap.size+1) [.slice (some ⟨w1.heap.size,0,none⟩) 1 1, .pointer none]):=by
  have:=Bk.new (w1.alloc (.cells #[.int .i64 a1,x1, .int .i64 t1,y1] 407)) #[.slice (some ⟨w1.heap.size,0,none⟩) 1 1, .pointer none] 405
  show Bk _ _ _
  simpa using this
 have HT2:Hid (Ty ((w1.alloc (.cells #[.int .i64 a1,x1, .int .i64 t1,y1] 407)).alloc (.cells #[.slice (some ⟨w1.heap.size,0,none⟩) 1 1, .pointer none] 405)) (w1.heap.size+1) 405):=by
  have:=heap_alloc_new (w1.alloc (.cells #[.int .i64 a1,x1, .int .i64 t1,y1] 407)) (.cells #[.slice (some ⟨w1.heap.size,0,none⟩) 1 1, .pointer none] 405)
  exact ⟨_,_,by simpa using this⟩
 have fN:Hid (((w1.alloc (.cells #[.int .i64 a1,x1, .int .i64 t1,y1] 407)).alloc (.cells #[.slice (some ⟨w1.heap.size,0,none⟩) 1 1, .pointer none] 405)).ownsRow w.heap.size 407 4 (.slice (some ⟨w1.heap.size,0,none⟩) 1 1) 1 [.int .i64 a1,x1, .int .i64 t1,y1]):=
  aV (jR w1 w.heap.size hz1 407 4 #[.int .i64 a1,x1, .int .i64 t1,y1] 1 rfl (by unfold maxLen;omega)) (kX _ _ _ (by simp))
 have hz2:((w1.alloc (.cells #[.int .i64 a1,x1, .int .i64 t1,y1] 407)).alloc (.cells #[.slice (some ⟨w1.heap.size,0,none⟩) 1 1, .pointer none] 405)).heap.size=w1.heap.size+2:=by simp
 generalize ((w1.alloc (.cells #[.int .i64 a1,x1, .int .i64 t1,y1] 407)).alloc (.cells #[.slice (some ⟨w1.heap.size,0,none⟩) 1 1, .pointer none] 405))=w2 at *
 have HR2:Hid ((oJ s n d σ).aA=true->∃ hi,hi<=w1.heap.size/\wV w2 w1.heap.size (w1.heap.size+1) [mB s n d σ] [.int .i64 a1,x1, .int .i64 t1,y1] w.heap.size hi):=λhl=>by
  obtain ⟨l2,e1,e2,r1,r2⟩:=HR1.out hl
  have f1:=Rp.le _ _ _ _ r1
  have f2:=Rp.le _ _ _ _ r2
  exact ⟨w1.heap.size,aF _,by rw [e1];rfl,by rw [e2];rfl,w.heap.size+1,l2,w1.heap.size,by omega,by omega,by omega,HI1.out.1.bC,r1.cF HI1.out.1.bC La.out (by omega) f2,HI1.out.2.bC,r2.cF HI1.out.2.bC La.out (by omega) (aF _),aF _⟩
 have aY:Hid (Kept b w w2):=bD.out.trans La.out
 have hz2' : w1.heap.size+2<=w2.heap.size:=by omega
 clear bT La HR1 hz2 bD
 go_loopg [] n (λgm wr=>gm<=n/\∃ (σ' : St) (ns:List pO) (xs:List Value) (g k kc:Nat),k+gm<=n+1/\32*rem s σ'<=gm/\w.heap.size<=g/\g<wr.heap.size/\g≠w1.heap.size+1/\w1.heap.size+2<=wr.heap.size/\Hid (k=ns.length)/\Hid (Sp.run s (n+2) .cX d σ=iZ s gm d σ')/\Hid (Sp.tr s (n+2) .cX d .nil σ=wT ns (i1 s gm d σ'))/\Hid (PS b c cap len s d σ' wr)/\Hid (Kept b w wr)/\Hid (Bk wr (w1.heap.size+1) [.slice (some ⟨g,0,none⟩) k kc, .pointer none])/\Hid (Ty wr (w1.heap.size+1) 405)/\Hid (wr.ownsRow w.heap.size 407 4 (.slice (some ⟨g,0,none⟩) k kc) k xs)/\Hid (σ'.aA=true->∃ hi,hi<=wr.heap.size/\wV wr g (w1.heap.size+1) ns xs w.heap.size hi))
 case atStart=>exact ⟨aF _,oJ s n d σ, [mB s n d σ], [.int .i64 a1,x1, .int .i64 t1,y1],w1.heap.size,1,1,by omega,by omega,hz1,by omega,by omega,hz2',rfl,Bb s n d σ,wU s n d σ,HP2.out,aY.out,HB2.out,HT2.out,fN.out,λhl=>by obtain ⟨hi,h1,h2⟩:=HR2.out hl;exact ⟨hi,by omega,h2⟩⟩
 case round=>
  obtain ⟨hmn,σ',ns,xs,g,k,kc,hkg,hms,hgw,hgr,hgq,hqr,A9,HR,o6,j9,fY,oF,AX,HOr,sJ⟩:=hrel
  cases hs:σ'.is s [119,104,101,110]
  ·have HT:Hid (σ'.aA=true->True):=λ_=>trivial
   go_wp2_with fail
   refine (lU j9.out [119,104,101,110] (by decide)).mono ?_
   rintro r w3 ⟨rfl,hp3,hk3⟩
   rw [hs]
   have cS:=hid hp3
   have bH:=hid hk3
   have HB3:Hid (Bk w3 (w1.heap.size+1) [.slice (some ⟨g,0,none⟩) k kc, .pointer none]):=oF.out.kept hk3 (by omega)
   have hz3:=hk3.size
   have HE:Hid (iZ s gk d σ'=vK s (gk - 1) d [101,108,115,101] σ'/\i1 s gk d σ' = .dW .nil (CV s (gk - 1) d [101,108,115,101] σ')):=K9 s gk d σ' hs (λhe=>by have:=aM he;omega)
   clear hp3 hk3 HT
   go_wp2_with fail
   refine (eP (n:=gk - 1) cS.out [101,108,115,101] (by decide) (λhe w' hp'=>(IH.out (gk - 1) (by omega)).expr d _ _ (by omega) (by have:=aM he;show 32*rem s _+9<=gk - 1;omega) hp')).mono ?_
   rintro r w4 ⟨v4,rfl,gD,hk4,⟨wa,rfl⟩,hr4⟩
   have gY:=hid gD
   have eC:=hid hk4
   have HB4:Hid (Bk w4 (w1.heap.size+1) [.slice (some ⟨g,0,none⟩) k kc, .pointer none]):=HB3.out.kept hk4 (by omega)
   have HR4:=hid hr4
   have y8:=hk4.size
   have c1:=HB4.out.k1
   have f1:=HB4.out.f 1
   clear gD hk4 hr4
   go_wp2_with fail
   have hzz:(w4.setCell ⟨w1.heap.size+1,1,none⟩ (.pointer wa)).heap.size=w4.heap.size:=by simp [World.setCell]
   have iV:Hid (PS b c cap len s d (vK s (gk - 1) d [101,108,115,101] σ') (w4.setCell ⟨w1.heap.size+1,1,none⟩ (.pointer wa))):=gY.out.put (w1.heap.size+1) 1 (by omega) (by omega) _
   refine (kK iV.out [101,110,100] (by decide) _ hzz.symm).mono ?_
   rintro r w6 ⟨rfl,Ay,hk6⟩
   have kA:=hid Ay
   have pP:=hid hk6
   have Ds:w4.heap.size<=w6.heap.size:=by have:=hk6.size;omega
   have Vz:=hid hzz
   clear Ay hk6 hzz c1 f1
   go_wp2_with fail
   go_ret
   have e46:∀ q,q<w4.heap.size->q≠b->q≠w1.heap.size+1->w6.heap[q]?=w4.heap[q]?:=λq h1 h2 h3=>(pP.out.block q (by rw [Vz.out];exact h1) h2).trans (dQ _ _ _ _ h3)
   have TG:∀ q,q<wr.heap.size->q≠b->q≠w1.heap.size+1->w6.heap[q]?=wr.heap[q]?:=λq h1 h2 h3=>(e46 q (by omega) h2 h3).trans ((eC.out.block q (by omega) h2).trans (bH.out.block q h1 h2))
   refine ⟨_,rfl,by rw [HR.out,HE.out.1];exact kA.out,⟨pP.out.os.trans (eC.out.os.trans (bH.out.os.trans fY.out.os)),pP.out.tape.trans (eC.out.tape.trans (bH.out.tape.trans fY.out.tape)),pP.out.output.trans (eC.out.output.trans (bH.out.output.trans fY.out.output)),by have:=fY.out.size;omega,λq h1 h2=>(TG q (by have:=fY.out.size;omega) h2 (by omega)).trans (fY.out.block q h1 h2)⟩,Or.inr ⟨_,_,rfl⟩,λhl=>?_⟩
   rw [HR.out,HE.out.1] at hl
   have hlc:=bK hl
   have hl' : σ'.aA=true:=by
    unfold vK at hlc
    split at hlc
    ·exact cP (dM hlc)
    ·exact hlc
   obtain ⟨hi,q1,q2⟩:=sJ.out hl'
   have hle:=q2.le
   rw [o6.out,HE.out.2,tO]
   have hkr:=fY.out.size
   have E:wV w6 g (w1.heap.size+1) ns xs w.heap.size hi:=q2.frame (by omega) λq p1 p2 _ p4=>TG q (by omega) (by omega) p4
   have O:=aV HOr.out (TG g hgr (by omega) hgq)
   have R:=wV.rp (off:=0) (by omega) kc E (λj u hj=>by have:=bO O j u hj;simpa using this)
   rw [<- A9.out] at R
   have B6:=((HB4.out.Qc (.pointer wa)).kept pP.out (by omega))
   have T6:Ty w6 (w1.heap.size+1) 405:=by
    have t4:Ty w4 (w1.heap.size+1) 405:=AX.out.same ((eC.out.block _ (by omega) (by omega)).trans (bH.out.block _ (by omega) (by omega)))
    exact (t4.set 1 (.pointer wa)).same (pP.out.block _ (by rw [Vz.out];omega) (by omega))
   refine ⟨w1.heap.size+1, .slice (some ⟨g,0,none⟩) k kc, .pointer wa,w.heap.size,w3.heap.size,w4.heap.size,rfl,by omega,by omega,by omega,⟨T6,by omega⟩,B6.at_,λblk off n c e=>?_,Rp.wide _ _ _ _ _ _ R (aF _) (by omega),cH.ptr _,?_⟩
   ·injection e with e1 e2 e3;injection e1 with e1;injection e1 with e1;subst e1;omega
   ·exact (HR4.out hlc).frame Ds _ _ _ _ (λq p1 p2=>e46 q p2 (by omega) (by omega)) (λ_ _ _ _ e=>by cases e)
  ·have h1:=aM hs
   obtain ⟨m,rfl⟩:∃ m,gk=m+2:=⟨gk - 2,by omega⟩
   have HV:Hid (iZ s (m+2) d σ'=iZ s m d (oJ s m d σ')):=DH s m d σ' hs
   have cA:Hid (i1 s (m+2) d σ'=tN (mB s m d σ') (i1 s m d (oJ s m d σ'))):=DI s m d σ' hs
   have VA:=mA hs
   have hr1:=Bc s m d σ'
   have hr2:=cJ s (m+1) .expr d (σ'.must s [119,104,101,110])
   have hr3:=bZ s [116,104,101,110] (Sp.run s (m+1) .expr d (σ'.must s [119,104,101,110]))
   have hr0:rem s (σ'.must s [119,104,101,110])=rem s (σ'.step s):=by rw [VA]
   clear VA
   have HL:Hid (σ'.aA=true):=cK hs
   go_wp2_with fail
   refine (lU j9.out [119,104,101,110] (by decide)).mono ?_
   rintro r w3 ⟨rfl,hp3,hk3⟩
   rw [hs]
   have cS:=hid hp3
   have bH:=hid hk3
   have HB3:Hid (Bk w3 (w1.heap.size+1) [.slice (some ⟨g,0,none⟩) k kc, .pointer none]):=oF.out.kept hk3 (by omega)
   have hz3:=hk3.size
   have x0:=HB3.out.k0
   have hx:=HB3.out.lt
   have g0:=HB3.out.f 0
   clear hp3 hk3
   go_wp2_with fail
   go_region_law (first | ((have _hx:=qC;refine step_append_lies _ (by rfl) _ _ _ (by rfl) w.heap.size 407 i0 (.agg #[.int .i64 0, .nilIface, .int .i64 0, .nilIface]) 4 48 Tryz.underlying403 ji fR jz1 fS rfl (by omega) (.slice (some ⟨g,0,none⟩) k kc) k xs (by rfl) qC ⟨w4.heap.size,0,none⟩ 1 1 [.int .i64 a4,x4, .int .i64 t4,y4] (by rfl) (by rfl) (World.news_of_block (cs:=#[.int .i64 a4,x4, .int .i64 t4,y4]) (t:=407) (fr:=(0,0)) (heap_alloc_new w4 _)) (by intro u hu;simp at hu;rcases hu with rfl | rfl | rfl | rfl;rfl;exact hx4.one;rfl;exact hy4.one) (by omega) (by unfold maxLen;omega) (by omega) (by simp;omega) (w4.heap.size+1) (by simp) ?_;intro g' gE w5 hown hgrow hat hlt;have xA:=(hB4.alloc (.cells #[.int .i64 a4,x4, .int .i64 t4,y4] 407)).same hgrow.size (hgrow.block (w1.heap.size+1) (by simp;omega) (λee=>absurd (show w1.heap.size+1=g by simpa [Value.ownBlock] using ee) (by omega)));have z0:=xA.k0;have z1:=xA.f 0)) | (go_simp;go_at_call 353;refine (E1 (n:=m+1) (m:=m) cS.out.drew rfl (λw' hp'=>(IH.out (m+1) (by omega)).expr d _ _ (by omega) (by show 32*rem s _+9<=m+1;omega) hp') (λw' hp'=>(IH.out m (by omega)).expr d _ _ (by omega) (by show 32*rem s _+9<=m;omega) hp')).mono ?_;rintro e w4 ⟨v4,rfl,gD,hk4,⟨a4,x4,t4,y4,rfl,hx4,hy4⟩,hr4⟩;have jH : Kept b w3 w4:=((Kept.refl b w3).drew).trans hk4;have hB4:=HB3.out.kept jH (by omega);have hy:=hB4.lt;have y0:=hB4.k0;have f0:=hB4.f 0;have hO4:=aV HOr.out ((bH.out.trans jH).block g hgr (by omega));have MD:=jH.size;have qC:=aV hO4 (kX w4 (.cells #[.int .i64 a4,x4, .int .i64 t4,y4] 407) g (by omega))))
   all_goals
    have gY:=hid gD
    have eC:=hid jH
    have HI4:Hid (aQ x4/\aQ y4):=⟨hx4,hy4⟩
    have HR4:Hid ((oJ s m d σ').aA=true->∃ l2,a4=((mB s m d σ').1:Nat)/\t4=((mB s m d σ').2.2.1:Nat)/\Rp w4 (mB s m d σ').2.1 (w3.heap.size+1) l2 x4/\Rp w4 (mB s m d σ').2.2.2 l2 w4.heap.size y4):=λhl=>by
     obtain ⟨x,y,l2,e,_,_,r1,r2⟩:=hr4 hl
     obtain ⟨e0,e1,e2,e3⟩:=Qd e
     subst e0 e1 e2 e3
     exact ⟨l2,rfl,rfl,r1,r2⟩
    have CU:Hid (w5.ownsRow w.heap.size 407 4 (.slice (some ⟨g',0,none⟩) (k+1) gE) (k+1) (xs ++ [.int .i64 a4,x4, .int .i64 t4,y4])):=hown
    have tM:=hid hgrow
    have hgg:g'=g\/g'=w4.heap.size+1:=by
     rcases hat with h | h
     ·left
      have:g=g':=by simpa [Value.ownBlock] using h
      exact this.symm
     ·right;exact h
    have yZ:Hid (Bk w5 (w1.heap.size+1) [.slice (some ⟨g,0,none⟩) k kc, .pointer none]):=xA
    clear gD hk4 jH hx4 hy4 hr4 hown hgrow hat hB4 hO4 qC xA y0 f0 z0 z1 x0 g0
    go_wp2_with fail
    go_roundg m
    case measure=>omega
    case rel=>
     have hkr:=fY.out.size
     have rM:w4.heap.size+1<=w5.heap.size:=by have:=tM.out.size;simpa using this
     have hzz:(w5.setCell ⟨w1.heap.size+1,0,none⟩ (.slice (some ⟨g',0,none⟩) (k+1) gE)).heap.size=w5.heap.size:=by simp [World.setCell]
     have e45:∀ q,q<w4.heap.size->q≠g->w5.heap[q]?=w4.heap[q]?:=λq hq hn=>(tM.out.block q (by simp;omega) (λe=>by injection e with e;exact hn e)).trans (kX _ _ _ hq)
     have e46:∀ q,q<w4.heap.size->q≠g->q≠w1.heap.size+1->(w5.setCell ⟨w1.heap.size+1,0,none⟩ (.slice (some ⟨g',0,none⟩) (k+1) gE)).heap[q]?=w4.heap[q]?:=λq h1 h2 h3=>(dQ _ _ _ _ h3).trans (e45 q h1 h2)
     have Qe : g'≠w1.heap.size+1:=by omega
     refine ⟨by omega,oJ s m d σ',ns ++ [mB s m d σ'],xs ++ [Value.int .i64 a4,x4,Value.int .i64 t4,y4],g',k+1,gE,by omega,by omega,(gC CU.out).1,by rw [hzz];exact hlt,Qe,by rw [hzz];omega,by show _=_;rw [List.length_append,<- A9.out];rfl,by show _=_;rw [HR.out,HV.out],by show _=_;rw [o6.out,cA.out,Dv],(gY.out.stay (by omega) (e45 b (by omega) (by omega)) (e45 c (by omega) (by omega)) (e45 5 (by omega) (by omega))).put (w1.heap.size+1) 0 (by omega) (by omega) _,((((fY.out.trans bH.out).trans eC.out).alloc _).grown tM.out hgw).aJ (by show w.heap.size<=w1.heap.size+1;omega) _,yZ.out.Qb _,?_,aV CU.out (dQ _ _ _ _ Qe),λhl=>?_⟩
     ·have t5:Ty w5 (w1.heap.size+1) 405:=AX.out.same ((e45 _ (by omega) (by omega)).trans ((eC.out.block _ (by omega) (by omega)).trans (bH.out.block _ (by omega) (by omega))))
      exact t5.set 0 _
     ·obtain ⟨hi,q1,q2⟩:=sJ.out HL.out
      have hle:=q2.le
      obtain ⟨l2,u1,u2,u3,u4⟩:=HR4.out hl
      have v1:=Rp.le _ _ _ _ u3
      have v2:=Rp.le _ _ _ _ u4
      have E:wV (w5.setCell ⟨w1.heap.size+1,0,none⟩ (.slice (some ⟨g',0,none⟩) (k+1) gE)) g (w1.heap.size+1) ns xs w.heap.size hi:=q2.frame (by rw [hzz];omega) λq p1 p2 p3 p4=>(e46 q (by omega) p3 p4).trans ((eC.out.block q (by omega) (by omega)).trans (bH.out.block q (by omega) (by omega)))
      have R1:=u3.frame (w':=(w5.setCell ⟨w1.heap.size+1,0,none⟩ (.slice (some ⟨g',0,none⟩) (k+1) gE))) (by rw [hzz];omega) _ _ _ _ (λq p1 p2=>e46 q (by omega) (by omega) (by omega)) (λ_ _ _ _ e=>absurd e (HI4.out.1.bC _ _ _))
      have R2:=u4.frame (w':=(w5.setCell ⟨w1.heap.size+1,0,none⟩ (.slice (some ⟨g',0,none⟩) (k+1) gE))) (by rw [hzz];omega) _ _ _ _ (λq p1 p2=>e46 q (by omega) (by omega) (by omega)) (λ_ _ _ _ e=>absurd e (HI4.out.2.bC _ _ _))
      have S:=wV.snoc (wa:=(mB s m d σ').1) (ta:=(mB s m d σ').2.2.1) v1 v2 (by omega) (by omega) HI4.out.1.bC R1 HI4.out.2.bC R2 E (by omega)
      subst u1 u2
      refine ⟨w4.heap.size,by rw [hzz];omega,?_⟩
      rcases hgg with rfl | hgg
      ·exact S
      ·exact S.move (by omega)
end Go.Proofs.YtgnncnhkgmhngaaGreatDoor
namespace Go.Proofs.YtgnncnhkgmhngaaGreatDoor
open Sp
open Go.RowKit
def i6 (s:Sp.Bs) (j:Nat) (z:Sp.Bs):Bool:=aD s (pos s j) == .key&&bW s (pos s j) == z
theorem zG {b c cap len:Nat} {s:Sp.Bs} {d:Nat} {σ:St} {w:World} (h:PS b c cap len s d σ w) (j:Nat) {wd:ByteArray} (ok:qH s (pos s j) wd.toList) (k a:Int) (z:Sp.Bs) (hf:z∈iS) :
  Calls Tryz.prog 173 #[.agg #[.int .i64 k, .int .i64 a, .string wd], .slice (some ⟨w.heap.size,0,none⟩) 1 1] (w.alloc (.cells #[.string ⟨z.toArray⟩] 9)) λr w'=>r = .returned (.bool (i6 s j z))/\PS b c cap len s d σ w'/\Below w.heap.size w w':=by
 refine (EQ w.heap.size 0 1 1 [bz z] wd k a (w.alloc (.cells #[.string ⟨z.toArray⟩] 9)) rfl (by decide) (by simp) ?_).mono ?_
 ·intro j hj
  have:j=0:=by simpa using hj
  subst this
  rw [oZ];rfl
 ·rintro r w' ⟨rfl,rfl⟩
  refine ⟨dN ?_,(h.alloc _).alloc _,((Below.refl _ _).alloc (aF _) _).alloc (by simp) _⟩
  rw [oneOf,i6,List.any_cons,List.any_nil,Bool.or_false,qI,ok z hf]
theorem DJ {s:Sp.Bs} {f e:Nat} (h:(aD s e == .key&&bW s e == [40])=true):kB s (f+1) e=kB s f (fE s e):=by
 rw [kB,h];rfl
theorem Gw {s:Sp.Bs} {f e:Nat} (h:(aD s e == .key&&bW s e == [40])=false):kB s (f+1) e=(aD s e == .key&&bW s e == [115,101,108,101,99,116]):=by
 rw [kB,h];rfl
theorem tS {s:Sp.Bs} {j:Nat} {z:Sp.Bs} (h:i6 s j z=true):aD s (pos s j) = .key:=by
 unfold i6 at h;simp only [Bool.and_eq_true,beq_iff_eq] at h;exact h.1
theorem NR {s:Sp.Bs} {j:Nat} {z:Sp.Bs} (h:i6 s j z=true):pos s j<pos s (j+1)/\pos s j<s.length:=by
 have:=tS h
 exact ⟨m9 (by rw [this];decide) (by rw [this];decide),qE (by rw [this];decide)⟩
theorem Lb {s:Sp.Bs} {len j:Nat} {z:Sp.Bs} (tk:TK s len) (hj:j<len) (h:i6 s j z=true):j+1<len:=by
 have:=tS h
 rcases Nat.lt_or_ge (j+1) len with x | x
 ·exact x
 ·exfalso
  rcases tk.last j (by omega) with y | y <;> rw [this] at y <;> cases y
theorem Bo {s:Sp.Bs} {len i:Nat} {σ:St} (tk:TK s len) (hi:IX s len i σ) (z:Sp.Bs):i6 s i z=σ.is s z:=by
 cases σ with
 | live e=>simp only [i6,St.is];rw [hi.2]
 | dead x a=>
  rcases tk.last i hi.1 with h | h <;> simp [i6,St.is,h]
theorem DK {b c cap len:Nat} {s:Sp.Bs} {d:Nat} {σ:St} {w:World} (h:PS b c cap len s d σ w) (h0:σ.is s [40]=false) :
  Calls Tryz.prog 344 #[.pointer (some ⟨b,0,none⟩)] w λr w'=>r = .returned (.bool false)/\PS b c cap len s d σ w'/\Kept b w w':=by
 obtain ⟨i,hi,h1⟩:=h.h1
 have hil:=hi.lt
 have hs:i6 s i [40]=false:=by rw [Bo h.tk hi];exact h0
 have c0:=h.h0
 obtain ⟨wd,tc⟩:=h.tc i hil
 have tk:=tc.k
 have ta:=tc.a
 have tt:=tc.t
 have HO:Hid (qH s (pos s i) wd.toList):=tc.ok
 have HP:=hid h
 have HI:=hid hi
 have lt:=h.tk.top
 clear h hi h0 tc
 go_enter Tryz.func344,Tryz.ntmps344
 go_wp2_with fail
 go_loopg [3] 1 (λf x wr=>x = .int .i64 i/\wr=w)
 case atStart=>exact ⟨rfl,rfl⟩
 case round=>
  obtain ⟨rfl,rfl⟩:=hrel
  go_wp2_with fail
  refine (zG HP.out i HO.out _ _ [40] (by decide)).mono ?_
  rw [hs]
  rintro r w2 ⟨rfl,hp2,hk2⟩
  obtain ⟨i',hi',h1'⟩:=hp2.h1
  obtain rfl:i=i':=De hp2.tk HI.out hi'
  have HP2:=hid hp2
  have aY:Hid (Kept b wr w2):=Kept.below hk2
  clear hp2 hk2 c0 tk ta tt hi' h1
  go_wp2_with fail
  go_ret
  exact ⟨rfl,HP2.out,aY.out⟩
theorem pQ {b c cap len:Nat} {s:Sp.Bs} {d e:Nat} {w:World} (h:PS b c cap len s d (.live e) w) (h0:St.is s [40] (.live e)=true) :
  Calls Tryz.prog 344 #[.pointer (some ⟨b,0,none⟩)] w λr w'=>r = .returned (.bool (St.asks s (.live e)))/\PS b c cap len s d (.live e) w'/\Kept b w w':=by
 obtain ⟨i,hi,h1⟩:=h.h1
 have hil:=hi.1
 have HI:Hid (pos s i=e):=hi.2
 have XS:=hid hi
 have VB:Hid (i6 s i [40]=true):=by show _=_;rw [Bo h.tk hi];exact h0
 have hlt:e<s.length:=by
  simp only [St.is,Bool.and_eq_true,beq_iff_eq] at h0
  exact qE (by rw [h0.1];decide)
 have HP:=hid h
 have lt:=h.tk.top
 clear h hi h0
 go_enter Tryz.func344,Tryz.ntmps344
 go_wp2_with fail
 go_loopg [3] (s.length+1 - e) (λf x wr=>1<=f/\∃ j:Nat,j<len/\i<=j/\x = .int .i64 j/\s.length+1 - pos s j<=f/\Hid (St.asks s (.live e)=kB s f (pos s j))/\Hid (PS b c cap len s d (.live e) wr)/\Hid (Below w.heap.size w wr))
 case atStart=>exact ⟨by omega,i,hil,aF _,rfl,by rw [HI.out];omega,by show _=_;rw [HI.out];rfl,HP.out,Below.refl _ _⟩
 case round=>
  obtain ⟨hf1,j,hj,hij,rfl,hf,HA,j9,oF⟩:=hrel
  obtain ⟨f,rfl⟩:∃ f,gk=f+1:=⟨gk - 1,by omega⟩
  have c0:=j9.out.h0
  obtain ⟨wd,tc⟩:=j9.out.tc j hj
  have tk:=tc.k
  have ta:=tc.a
  have tt:=tc.t
  have HO:Hid (qH s (pos s j) wd.toList):=tc.ok
  clear tc
  cases hs:i6 s j [40]
  ·have HV:Hid (St.asks s (.live e)=i6 s j [115,101,108,101,99,116]):=by show _=_;rw [HA.out];exact Gw hs
   have hij' : i<j:=by
    rcases Nat.lt_or_ge i j with x | x
    ·exact x
    ·have:i=j:=by omega
     subst this
     rw [VB.out] at hs;cases hs
   clear HA
   go_wp2_with fail
   refine (zG j9.out j HO.out _ _ [40] (by decide)).mono ?_
   rw [hs]
   rintro r w2 ⟨rfl,hp2,hk2⟩
   obtain ⟨i',hi',h1'⟩:=hp2.h1
   obtain rfl:i=i':=De hp2.tk XS.out hi'
   have HP2:=hid hp2
   have HB2:Hid (Below w.heap.size w w2):=oF.out.trans (hk2.mono oF.out.size)
   have XT:=hp2.h0
   have tk2:=(hk2.cell (p:=⟨c,j*3,none⟩) j9.out.lc).trans tk
   have ta2:=(hk2.cell (p:=⟨c,j*3+1,none⟩) j9.out.lc).trans ta
   have XU:=(hk2.cell (p:=⟨c,j*3+2,none⟩) j9.out.lc).trans tt
   clear hp2 hk2 c0 tk ta tt hi'
   go_wp2_with fail
   refine (zG HP2.out j HO.out _ _ [115,101,108,101,99,116] (by decide)).mono ?_
   rintro r w3 ⟨rfl,hp3,hk3⟩
   have cS:=hid hp3
   have HB3:Hid (Below w.heap.size w w3):=HB2.out.trans (hk3.mono HB2.out.size)
   clear hp3 hk3 XT tk2 ta2 XU
   generalize i6 s j [115,101,108,101,99,116]=bs at *
   go_wp2_with fail
   go_ret
   exact ⟨by rw [HV.out];simp,cS.out,Kept.below HB3.out⟩
  ·have HV:Hid (St.asks s (.live e)=kB s f (pos s (j+1))):=by show _=_;rw [HA.out];exact DJ hs
   have hup:=NR hs
   have hnx:=Lb j9.out.tk hj hs
   clear HA
   go_wp2_with fail
   refine (zG j9.out j HO.out _ _ [40] (by decide)).mono ?_
   rw [hs]
   rintro r w2 ⟨rfl,hp2,hk2⟩
   have HP2:=hid hp2
   have HB2:Hid (Below w.heap.size w w2):=oF.out.trans (hk2.mono oF.out.size)
   clear hp2 hk2 c0 tk ta tt
   go_wp2_with fail
   go_roundg f
   case measure=>omega
   case rel=>exact ⟨by omega,j+1,hnx,by omega,by go_num,by omega,HV.out,HP2.out,HB2.out⟩
end Go.Proofs.YtgnncnhkgmhngaaGreatDoor
namespace Go.Proofs.YtgnncnhkgmhngaaGreatDoor.Sp
open Go
theorem Bp (r:Bs):Lib.index (39::39::r) [39,39]=0:=by simp [Lib.index]
theorem Bq (c:UInt8) (t:Bs) (h:([39,39]:Bs).isPrefixOf (c::t)=false):Lib.index (c::t) [39,39]=if Lib.index t [39,39] == -1 then -1 else Lib.index t [39,39]+1:=by
 simp only [Lib.index,h]
 simp
theorem Bu (c:UInt8) (t:Bs) (h:([39,39]:Bs).isPrefixOf (c::t)=false):Lib.count (c::t) [39,39]=Lib.count t [39,39]:=by
 have e:=Bq c t h
 by_cases hm:Lib.index t [39,39]=-1
 ·rw [Lib.count_miss hm,Lib.count_miss];rw [e,hm];rfl
 ·obtain ⟨i,hi⟩:∃ i:Nat,Lib.index t [39,39]=i:=⟨(Lib.index t [39,39]).toNat,by have:=Lib.index_ge t [39,39];omega⟩
  rw [Lib.count_hit (i:=i) (by decide) hi,Lib.count_hit (i:=i+1) (by decide) (by rw [e,hi,if_neg (by simp)];rfl)]
  simp
theorem Bv (k:Nat) (c:UInt8) (t:Bs) (h:([39,39]:Bs).isPrefixOf (c::t)=false):Lib.replaceK [39,39] [39] k (c::t)=c::Lib.replaceK [39,39] [39] k t:=by
 cases k with
 | zero=>rfl
 | succ k=>
  have e:=Bq c t h
  by_cases hm:Lib.index t [39,39]=-1
  ·rw [Lib.replaceK,Lib.replaceK,if_pos (by rw [e,hm];rfl),if_pos (by rw [hm];rfl)]
  ·obtain ⟨i,hi⟩:∃ i:Nat,Lib.index t [39,39]=i:=⟨(Lib.index t [39,39]).toNat,by have:=Lib.index_ge t [39,39];omega⟩
   rw [Lib.replaceK_hit _ _ _ _ (i+1) (by rw [e,hi,if_neg (by simp)];rfl),Lib.replaceK_hit _ _ _ _ i hi]
   simp
theorem zH:∀ l:Bs,Lib.replaceK [39,39] [39] (Lib.count l [39,39]) l=KI l
 | []=>by
  have:Lib.index [] [39,39]=-1:=by decide
  rw [Lib.count_miss this];rfl
 | [c]=>by
  have h:([39,39]:Bs).isPrefixOf [c]=false:=by simp [List.isPrefixOf]
  rw [Bu c [] h,Bv _ c [] h]
  have:Lib.index [] [39,39]=-1:=by decide
  rw [Lib.count_miss this];rfl
 | c::c'::r=>by
  cases hp:(c == 39&&c' == 39)
  ·have h:([39,39]:Bs).isPrefixOf (c::c'::r)=false:=by
    simp only [List.isPrefixOf,Bool.and_eq_false_iff] at hp ⊢
    rcases hp with hp | hp
    ·left;rw [Bool.eq_false_iff] at hp ⊢;intro e;exact hp (by rw [beq_iff_eq] at e ⊢;exact e.symm)
    ·right;left;rw [Bool.eq_false_iff] at hp ⊢;intro e;exact hp (by rw [beq_iff_eq] at e ⊢;exact e.symm)
   rw [Bu c _ h,Bv _ c _ h,zH (c'::r),KI,hp]
   rfl
  ·simp only [Bool.and_eq_true,beq_iff_eq] at hp
   obtain ⟨rfl,rfl⟩:=hp
   rw [Lib.count_hit (i:=0) (by decide) (Bp r),Nat.add_comm 1,Lib.replaceK_hit _ _ _ _ 0 (Bp r)]
   have e:(39::39::r:Bs).drop (0+([39,39]:Bs).length)=r:=rfl
   rw [e,zH r,KI]
   rfl
theorem tT (l:Bs):Lib.replaceAll l [39,39] [39]=KI l:=by
 rw [Lib.replaceAll,Lib.replace,if_neg (by decide),Lib.replaceNum,if_pos (Or.inl (by decide)),zH]
end Go.Proofs.YtgnncnhkgmhngaaGreatDoor.Sp
namespace Go.Proofs.YtgnncnhkgmhngaaGreatDoor
open Sp
open Go.RowKit
theorem Jf {s:Sp.Bs} {e:Nat} (h:aD s e = .num):bW s e ≠ []/\(bW s e).all bV=true/\dB (bW s e)<9223372036854775808:=by
 unfold aD at h
 unfold bW lG
 generalize s.drop (aO s e)=l at *
 cases l with
 | nil=>simp [Sp.first] at h
 | cons c r=>
  cases h1:iP c
  ·cases h2:bV c
   ·cases h3:(c == 39)
    ·rw [kH h1 h2 h3] at h;split at h <;> cases h
    ·rw [nH h1 h2 h3] at h;split at h <;> cases h
   ·rw [nG h1 h2] at h ⊢
    simp only at h ⊢
    split at h
    ·rename_i hv
     refine ⟨?_,tD _ _,hv⟩
     have:1<=many bV (c::r):=lJ h2
     intro hc
     have:=congrArg List.length hc
     rw [List.length_take] at this
     simp at this
     omega
    ·cases h
  ·rw [kG h1] at h
   simp only at h
   split at h
   ·cases h
   ·split at h <;> cases h
theorem NS (n:Int) (w:World):Calls Tryz.prog 290 #[.int .i64 n] w λe w'=>e = .returned (dI (Sv.int n))/\Below w.heap.size w w':=by
 go_enter Tryz.func290,Tryz.ntmps290
 go_wp2
 exact cL (v:=dI (Sv.int n)) (by simp [results,Tryz.results290,go_sem];exact ⟨rfl,rfl,rfl⟩) rfl ⟨rfl,(Below.refl _ _).alloc (aF _) _⟩
theorem Lc (s:ByteArray) (w:World):Calls Tryz.prog 348 #[.string s] w λe w'=>e = .returned (dI (Sv.text s))/\Below w.heap.size w w':=by
 go_enter Tryz.func348,Tryz.ntmps348
 go_wp2
 exact cL (v:=dI (Sv.text s)) (by simp [results,Tryz.results348,go_sem];exact ⟨rfl,rfl,rfl⟩) rfl ⟨rfl,(Below.refl _ _).alloc (aF _) _⟩
theorem Ld (w:World):Calls Tryz.prog 236 #[] w λe w'=>e = .returned (dI Sv.null)/\Below w.heap.size w w':=by
 go_enter Tryz.func236,Tryz.ntmps236
 go_wp2
 exact cL (v:=dI Sv.null) (by simp [results,Tryz.results236,go_sem];exact ⟨rfl,rfl,rfl⟩) rfl ⟨rfl,(Below.refl _ _).alloc (aF _) _⟩
theorem E5 (t:Bool) (w:World):Calls Tryz.prog 231 #[.bool t] w λe w'=>e = .returned (dI (Sv.bool t))/\Below w.heap.size w w':=by
 cases t
 all_goals
  go_enter Tryz.func231,Tryz.ntmps231
  go_wp2
 ·exact cL (v:=dI (Sv.bool false)) (by simp [results,Tryz.results231,go_sem];exact ⟨rfl,rfl,rfl⟩) rfl ⟨rfl,(Below.refl _ _).alloc (aF _) _⟩
 ·exact cL (v:=dI (Sv.bool true)) (by simp [results,Tryz.results231,go_sem];exact ⟨rfl,rfl,rfl⟩) rfl ⟨rfl,(Below.refl _ _).alloc (aF _) _⟩
theorem zI (s:ByteArray) (w:World) (hne:s.data.toList ≠ []) (hd:s.data.toList.all bV=true) (hs:s.size<=100000) (hv:dB s.data.toList<9223372036854775808) :
  Calls Tryz.prog 341 #[.string s] w λe w'=>e = .returned (dI (Sv.int (dB s.data.toList:Nat)))/\Below w.heap.size w w':=by
 have H:Hid (Lib.parseIntB 64 s.data.toList = .ok (dB s.data.toList:Int)):=EP hne hd hv
 clear hne hd
 generalize MI:(dB s.data.toList)=nv at *
 clear MI
 have HB0:Hid (Bk (w.alloc (.cells #[.int .i64 0, .int .i64 0, .string ⟨#[]⟩] 40)) w.heap.size [.int .i64 0, .int .i64 0, .string ⟨#[]⟩]):=Bk.new _ _ _
 have NU:Hid (Below w.heap.size w (w.alloc (.cells #[.int .i64 0, .int .i64 0, .string ⟨#[]⟩] 40))):=(Below.refl _ _).alloc (aF _) _
 go_enter Tryz.func341,Tryz.ntmps341
 go_wp2_with fail
 refine (Tryz.strconv_ParseInt_10_at64_ok s (by omega) _ H.out _).mono ?_
 generalize (w.alloc (.cells #[.int .i64 0, .int .i64 0, .string ⟨#[]⟩] 40))=w0 at *
 rintro e w' ⟨rfl,hw⟩
 have hb1:Below w0.heap.size w0 w':=by
  rcases hw with rfl | ⟨t,rfl⟩
  ·exact Below.refl _ _
  ·exact Lib.bytesWorld_below _ _ _
 have HB1:=hid (HB0.out.below hb1)
 have Le:Hid (Below w.heap.size w w'):=NU.out.trans (hb1.mono NU.out.size)
 clear hw hb1 HB0 NU
 go_wp2_with fail
 refine (NS _ _).mono ?_
 rintro e w2 ⟨rfl,hb2⟩
 have hB2:=HB1.out.below hb2
 have HL2:Hid (Below w.heap.size w w2):=Le.out.trans (hb2.mono Le.out.size)
 have c0:=hB2.k0
 have c1:=hB2.k1
 have c2:=hB2.k2
 have f0:=hB2.f 0
 have f1:=hB2.f 1
 have f2:=hB2.f 2
 clear hB2 hb2
 go_wp2_with fail
 exact cL (v:=dI (Sv.int (nv:Nat))) (by simp [results,Tryz.results341,go_sem, *]) rfl ⟨rfl,((HL2.out.setCell (aF _) _).setCell (aF _) _).setCell (aF _) _⟩
end Go.Proofs.YtgnncnhkgmhngaaGreatDoor
