import Derived.Test.YtgnncnhkgmhngaaGreatDoorJ34
import Derived.Test.YtgnncnhkgmhngaaGreatDoorJ35
set_option maxHeartbeats 4000000
set_option maxRecDepth 100000
namespace Go.Proofs.YtgnncnhkgmhngaaGreatDoor
open Sp
open Tryz
open Go.RowKit Go.Sort
theorem j5 (v:Option Addr) (w:World):Sem.run prog (Instr.typeAssert (.iface 160 (.pointer v)) 90 160 true) w = .ok (.tuple #[.pointer v, .bool true]) w:=by kernel_rfl
theorem vK (v:Option Addr) (w:World):Sem.run prog (Instr.typeAssert (.iface 163 (.pointer v)) 90 160 true) w = .ok (.tuple #[.pointer none, .bool false]) w:=by kernel_rfl
theorem Au (v:Option Addr) (w:World):Sem.run prog (Instr.typeAssert (.iface 163 (.pointer v)) 90 163 true) w = .ok (.tuple #[.pointer v, .bool true]) w:=by kernel_rfl
theorem j6 (v:Option Addr) (w:World):Sem.run prog (Instr.typeAssert (.iface 169 (.pointer v)) 90 160 true) w = .ok (.tuple #[.pointer none, .bool false]) w:=by kernel_rfl
theorem nM (v:Option Addr) (w:World):Sem.run prog (Instr.typeAssert (.iface 169 (.pointer v)) 90 163 true) w = .ok (.tuple #[.pointer none, .bool false]) w:=by kernel_rfl
theorem j7 (v:Option Addr) (w:World):Sem.run prog (Instr.typeAssert (.iface 169 (.pointer v)) 90 169 true) w = .ok (.tuple #[.pointer v, .bool true]) w:=by kernel_rfl
theorem j8 (v:Option Addr) (w:World):Sem.run prog (Instr.typeAssert (.iface 171 (.pointer v)) 90 160 true) w = .ok (.tuple #[.pointer none, .bool false]) w:=by kernel_rfl
theorem nN (v:Option Addr) (w:World):Sem.run prog (Instr.typeAssert (.iface 171 (.pointer v)) 90 163 true) w = .ok (.tuple #[.pointer none, .bool false]) w:=by kernel_rfl
theorem j9 (v:Option Addr) (w:World):Sem.run prog (Instr.typeAssert (.iface 171 (.pointer v)) 90 169 true) w = .ok (.tuple #[.pointer none, .bool false]) w:=by kernel_rfl
theorem kA (v:Option Addr) (w:World):Sem.run prog (Instr.typeAssert (.iface 171 (.pointer v)) 90 171 true) w = .ok (.tuple #[.pointer v, .bool true]) w:=by kernel_rfl
theorem kB (v:Option Addr) (w:World):Sem.run prog (Instr.typeAssert (.iface 176 (.pointer v)) 90 160 true) w = .ok (.tuple #[.pointer none, .bool false]) w:=by kernel_rfl
theorem nO (v:Option Addr) (w:World):Sem.run prog (Instr.typeAssert (.iface 176 (.pointer v)) 90 163 true) w = .ok (.tuple #[.pointer none, .bool false]) w:=by kernel_rfl
theorem kC (v:Option Addr) (w:World):Sem.run prog (Instr.typeAssert (.iface 176 (.pointer v)) 90 169 true) w = .ok (.tuple #[.pointer none, .bool false]) w:=by kernel_rfl
theorem kD (v:Option Addr) (w:World):Sem.run prog (Instr.typeAssert (.iface 176 (.pointer v)) 90 171 true) w = .ok (.tuple #[.pointer none, .bool false]) w:=by kernel_rfl
theorem kE (v:Option Addr) (w:World):Sem.run prog (Instr.typeAssert (.iface 176 (.pointer v)) 90 176 true) w = .ok (.tuple #[.pointer v, .bool true]) w:=by kernel_rfl
theorem kF (v:Option Addr) (w:World):Sem.run prog (Instr.typeAssert (.iface 278 (.pointer v)) 90 160 true) w = .ok (.tuple #[.pointer none, .bool false]) w:=by kernel_rfl
theorem nP (v:Option Addr) (w:World):Sem.run prog (Instr.typeAssert (.iface 278 (.pointer v)) 90 163 true) w = .ok (.tuple #[.pointer none, .bool false]) w:=by kernel_rfl
theorem kG (v:Option Addr) (w:World):Sem.run prog (Instr.typeAssert (.iface 278 (.pointer v)) 90 169 true) w = .ok (.tuple #[.pointer none, .bool false]) w:=by kernel_rfl
theorem kH (v:Option Addr) (w:World):Sem.run prog (Instr.typeAssert (.iface 278 (.pointer v)) 90 171 true) w = .ok (.tuple #[.pointer none, .bool false]) w:=by kernel_rfl
theorem kI (v:Option Addr) (w:World):Sem.run prog (Instr.typeAssert (.iface 278 (.pointer v)) 90 176 true) w = .ok (.tuple #[.pointer none, .bool false]) w:=by kernel_rfl
theorem lP (v:Option Addr) (w:World):Sem.run prog (Instr.typeAssert (.iface 278 (.pointer v)) 90 179 true) w = .ok (.tuple #[.iface 278 (.pointer v), .bool true]) w:=by kernel_rfl
theorem pF (v:Option Addr) (w:World):Sem.run prog (Instr.typeAssert (.iface 280 (.pointer v)) 90 160 true) w = .ok (.tuple #[.pointer none, .bool false]) w:=by kernel_rfl
theorem rS (v:Option Addr) (w:World):Sem.run prog (Instr.typeAssert (.iface 280 (.pointer v)) 90 163 true) w = .ok (.tuple #[.pointer none, .bool false]) w:=by kernel_rfl
theorem pG (v:Option Addr) (w:World):Sem.run prog (Instr.typeAssert (.iface 280 (.pointer v)) 90 169 true) w = .ok (.tuple #[.pointer none, .bool false]) w:=by kernel_rfl
theorem pH (v:Option Addr) (w:World):Sem.run prog (Instr.typeAssert (.iface 280 (.pointer v)) 90 171 true) w = .ok (.tuple #[.pointer none, .bool false]) w:=by kernel_rfl
theorem pI (v:Option Addr) (w:World):Sem.run prog (Instr.typeAssert (.iface 280 (.pointer v)) 90 176 true) w = .ok (.tuple #[.pointer none, .bool false]) w:=by kernel_rfl
theorem qO (v:Option Addr) (w:World):Sem.run prog (Instr.typeAssert (.iface 280 (.pointer v)) 90 179 true) w = .ok (.tuple #[.iface 280 (.pointer v), .bool true]) w:=by kernel_rfl
theorem Ip {cb q:Nat} {w:World} {P:World->Prop} (hC:Calls prog 135 #[.pointer (some ⟨cb,0,none⟩), .pointer (some ⟨q,0,none⟩)] w λr w'=>r = .returned (.tuple #[])/\P w') :
  Calls prog 85 #[.pointer (some ⟨cb,0,none⟩), .iface 160 (.pointer (some ⟨q,0,none⟩))] w λr w'=>r = .returned (.tuple #[])/\P w':=by
 have HC:=hid hC
 have t0:=j5
 clear hC
 go_enter func85,ntmps85
 go_wp2_with fail
 refine HC.out.mono ?_
 rintro e w1 ⟨rfl,h⟩
 go_wp2_with fail
 go_end0
 exact ⟨rfl,h⟩
theorem Iq {cb q:Nat} {w:World} {P:World->Prop} (hC:Calls prog 137 #[.pointer (some ⟨cb,0,none⟩), .pointer (some ⟨q,0,none⟩)] w λr w'=>r = .returned (.tuple #[])/\P w') :
  Calls prog 85 #[.pointer (some ⟨cb,0,none⟩), .iface 169 (.pointer (some ⟨q,0,none⟩))] w λr w'=>r = .returned (.tuple #[])/\P w':=by
 have HC:=hid hC
 have t0:=j6
 have t1:=nM
 have t2:=j7
 clear hC
 go_enter func85,ntmps85
 go_wp2_with fail
 refine HC.out.mono ?_
 rintro e w1 ⟨rfl,h⟩
 go_wp2_with fail
 go_end0
 exact ⟨rfl,h⟩
theorem Ir {cb q:Nat} {w:World} {P:World->Prop} (hC:Calls prog 140 #[.pointer (some ⟨cb,0,none⟩), .pointer (some ⟨q,0,none⟩)] w λr w'=>r = .returned (.tuple #[])/\P w') :
  Calls prog 85 #[.pointer (some ⟨cb,0,none⟩), .iface 176 (.pointer (some ⟨q,0,none⟩))] w λr w'=>r = .returned (.tuple #[])/\P w':=by
 have HC:=hid hC
 have t0:=kB
 have t1:=nO
 have t2:=kC
 have t3:=kD
 have t4:=kE
 clear hC
 go_enter func85,ntmps85
 go_wp2_with fail
 refine HC.out.mono ?_
 rintro e w1 ⟨rfl,h⟩
 go_wp2_with fail
 go_end0
 exact ⟨rfl,h⟩
theorem Qj {cb q:Nat} {w:World} {P:World->Prop} (hC:Calls prog 141 #[.pointer (some ⟨cb,0,none⟩), .iface 278 (.pointer (some ⟨q,0,none⟩)), .pointer none] w λr w'=>∃ v,r = .returned v/\P w') :
  Calls prog 85 #[.pointer (some ⟨cb,0,none⟩), .iface 278 (.pointer (some ⟨q,0,none⟩))] w λr w'=>r = .returned (.tuple #[])/\P w':=by
 have HC:=hid hC
 have t0:=kF
 have t1:=nP
 have t2:=kG
 have t3:=kH
 have t4:=kI
 have t5:=lP
 clear hC
 go_enter func85,ntmps85
 go_wp2_with fail
 refine HC.out.mono ?_
 rintro e w1 ⟨v,rfl,h⟩
 go_wp2_with fail
 go_end0
 exact ⟨rfl,h⟩
theorem Nl {cb q:Nat} {w:World} {P:World->Prop} (hC:Calls prog 141 #[.pointer (some ⟨cb,0,none⟩), .iface 280 (.pointer (some ⟨q,0,none⟩)), .pointer none] w λr w'=>∃ v,r = .returned v/\P w') :
  Calls prog 85 #[.pointer (some ⟨cb,0,none⟩), .iface 280 (.pointer (some ⟨q,0,none⟩))] w λr w'=>r = .returned (.tuple #[])/\P w':=by
 have HC:=hid hC
 have t0:=pF
 have t1:=rS
 have t2:=pG
 have t3:=pH
 have t4:=pI
 have t5:=qO
 clear hC
 go_enter func85,ntmps85
 go_wp2_with fail
 refine HC.out.mono ?_
 rintro e w1 ⟨v,rfl,h⟩
 go_wp2_with fail
 go_end0
 exact ⟨rfl,h⟩
theorem Nn {T:List Sp.Tb} {cb q k:Nat} {tv:Value} {c:CS} {w:World} {nm:Nm} (hc:CB cb tv c w) (ht:sD k w T tv) (hA:At w q [.string (bz nm.1), .int .i64 (nm.2:Nat)]) :
  Calls prog 85 #[.pointer (some ⟨cb,0,none⟩), .iface 163 (.pointer (some ⟨q,0,none⟩))] w λr w'=>r = .returned (.tuple #[])/\CB cb tv (aK T nm c).2 w'/\Kept cb w w':=by
 have HC:=hid (iP hc ht nm)
 have b0:=hA.k0
 have b1:=hA.k1
 have pR:=hA.1
 obtain ⟨nw,na⟩:=nm
 have t0:=vK
 have t1:=Au
 clear hc ht hA
 go_enter func85,ntmps85
 go_wp2_with fail
 refine HC.out.mono ?_
 rintro e w1 ⟨tt,rfl,ht1,h1,k1⟩
 have H1:=hid h1
 have K1:=hid k1
 obtain ⟨tn,iK,gK,iA,iF,iG,iH⟩:=tt
 rw [show oW ⟨tn,iK,gK,iA,iF,iG,iH⟩ = .agg #[.string tn, .slice iK gK iA, .slice iF iG iH] from rfl]
 clear ht1 h1 k1 HC
 go_wp2_with fail
 go_end0
 exact ⟨rfl,H1.out,K1.out⟩
theorem Is {T:List Sp.Tb} {cb q k lo:Nat} {tv pv:Value} {c:CS} {w:World} {nm:Nm} {wh:Nd} (hW:wh = .none\/∃ a e,wh = .clause a e/\sH T e/\1+e.dep<=100000) (hc:CB cb tv c w) (ht:sD k w T tv) (hkl:k<=lo) (hlq:lo<=q) (hqc:q<cb) (hA:At w q [.string (bz nm.1), .int .i64 (nm.2:Nat),pv]) (hpt:DX pv) (hR:Rp w wh lo q pv) :
  Calls prog 85 #[.pointer (some ⟨cb,0,none⟩), .iface 171 (.pointer (some ⟨q,0,none⟩))] w λr w'=>r = .returned (.tuple #[])/\CB cb tv (Sp.cond T wh [[((aK T nm c).1.name,(aK T nm c).1)]] (aK T nm c).2).1 w'/\Rp w' (Sp.cond T wh [[((aK T nm c).1.name,(aK T nm c).1)]] (aK T nm c).2).2 lo q pv/\Fc cb lo q w w':=by
 have hcw:=hc.lt
 have hkw:=ht.2.1
 have GX:=hid ((Gr.refl w).drew)
 have HC:=hid (iP (hc.gr GX.out) (ht.low (Low.eA GX.out)) nm)
 have b0:=hA.k0
 have b1:=hA.k1
 have b2:=hA.k2
 have pR:=hA.1
 have S4:Hid (b9 pv):=hpt.bC
 obtain ⟨pa,rfl⟩:=hpt
 obtain ⟨nw,na⟩:=nm
 have HT:=hid ht
 have HR:=hid hR
 have HW:=hid hW
 have eJ:=hid hkw
 simp only [] at b0 b1
 generalize aK T (nw,na) c=TC at *
 obtain ⟨t,c0⟩:=TC
 simp only [] at HC ⊢
 have t0:=j8
 have t1:=nN
 have t2:=j9
 have t3:=kA
 have hqq:q≠cb/\¬ (lo<=q/\q<q):=by omega
 clear hc ht hA hR hW hkw
 go_enter func85,ntmps85
 go_wp2_with fail
 go_region_held3 (λw'=>w'.cell? ⟨q,0,none⟩=some (.string (bz nw))/\w'.cell? ⟨q,1,none⟩=some (.int .i64 (na:Nat))/\w'.cell? ⟨q,2,none⟩=some (.pointer pa)) (first | go_keep | exact ⟨b0,b1,b2⟩ | exact ⟨d0,d1,d2⟩ | exact ⟨e0,e1,e2⟩ | exact ⟨s0,s1,s2⟩) (first | (go_at_call 136;refine HC.out.mono ?_;rintro er w1 ⟨tt,rfl,ht1,h1,k1⟩;obtain ⟨tn,iK,gK,iA,iF,iG,iH⟩:=tt;have hz1:w.heap.size<=w1.heap.size:=k1.size;have hq1:q<w1.heap.size:=b6 pR hz1;have d0:=(k1.cell (p:=⟨q,0,none⟩) pR hqq.1).trans b0;have d1:=(k1.cell (p:=⟨q,1,none⟩) pR hqq.1).trans b1;have d2:=(k1.cell (p:=⟨q,2,none⟩) pR hqq.1).trans b2) | (go_at_call 139;refine (uK k (cb+1) t ⟨tn,iK,gK,iA,iF,iG,iH⟩ w1 (cF eJ.out hz1) (by omega) ht1).mono ?_;rintro er w2 ⟨iv,rfl,s2',g2⟩;obtain ⟨ia,rfl⟩:=s2'.ptr;have hz2:w1.heap.size<=w2.heap.size:=g2.size;have hq2:q<w2.heap.size:=b6 hq1 hz2;have e0:=(g2.cell (p:=⟨q,0,none⟩) hq1).trans d0;have e1:=(g2.cell (p:=⟨q,1,none⟩) hq1).trans d1;have e2:=(g2.cell (p:=⟨q,2,none⟩) hq1).trans d2) | (go_at_call 138;refine (B7 (m:=cb+1) (k:=k) (T:=T) (aC := [[(t.name,t)]]) (lo:=lo) (hi:=q) HW.out ⟨h1.gr g2,(HT.out.low (Low.eA GX.out)).low (Low.kT (k1.trans (Kept.gr g2)) (by omega)),s2',hkl,by omega,by omega,by omega⟩ (HR.out.frame (cF hz1 hz2) _ _ _ _ (λu u1 u2=>(g2.below.block u (by omega)).trans (k1.block u (show u<w.heap.size by omega) (by omega))) (λ_ _ _ _ e=>absurd e (S4.out _ _ _)))).mono ?_;rintro er w3 ⟨rfl,h3,r3,f3⟩;have s0:=(f3.cell (p:=⟨q,0,none⟩) hq2 hqq.1 hqq.2).trans e0;have s1:=(f3.cell (p:=⟨q,1,none⟩) hq2 hqq.1 hqq.2).trans e1;have s2:=(f3.cell (p:=⟨q,2,none⟩) hq2 hqq.1 hqq.2).trans e2))
 have F3:Hid (Fc cb lo q w w3):=(((Fc.gr GX.out).trans (Fc.of k1)).trans (Fc.gr g2)).trans f3
 have H3:=hid h3
 have R3:=hid r3
 go_end0
 exact ⟨rfl,H3.out,R3.out,F3.out⟩
theorem vL {w:World} {nd:Nd} {lo hi N:Nat} {v:Value} (h:Rp w nd lo hi v) (hw:wf N nd .query):(∃ b,v = .iface 278 (.pointer (some ⟨b,0,none⟩)))\/(∃ b,v = .iface 280 (.pointer (some ⟨b,0,none⟩))):=by
 cases nd with
 | sel di st ex src wh=>obtain ⟨b,xv,fv,wv,m1,m2,m3,m4,e,_⟩:=h;exact .inl ⟨b,e⟩
 | comb wd a all p q=>obtain ⟨b,pv,qv,m1,m2,m3,e,_⟩:=h;exact .inr ⟨b,e⟩
 | _=>simp [wf] at hw
theorem O4 (T:List Sp.Tb) {wh:Nd} (hw:wf 90000 wh .cl) (hd:wh.dep<=90000):wh = .none\/∃ a e,wh = .clause a e/\sH T e/\1+e.dep<=100000:=by
 cases wh with
 | none=>exact .inl rfl
 | clause a e=>exact .inr ⟨a,e,rfl,(Gg T 90000 (aF _) (.clause a e)).2.2.2.1 hw a e rfl,by simp only [Nd.dep] at hd;omega⟩
 | _=>simp [wf] at hw
theorem It {T:List Sp.Tb} {k cb lo hi:Nat} {tv v:Value} {s:vZ} {w:World} (hs:okS 90000 s) (hnt:∀ z,s ≠ .trans z) (hc:CB cb tv ⟨0,0,false⟩ w) (ht:sD k w T tv) (hkl:k<=lo) (DD:hi<=cb) (hV:nJ w s lo hi v) :
  Calls prog 85 #[.pointer (some ⟨cb,0,none⟩),v] w λr w'=>r = .returned (.tuple #[])/\CB cb tv (check T s).1 w'/\nJ w' (check T s).2 lo hi v/\Fc cb lo hi w w':=by
 have hM:=Gg T 90000 (aF _)
 have hcw:=hc.lt
 cases s with
 | create t cols=>
  obtain ⟨p,rfl,q,sl,rfl,h1,h2,hA,hL⟩:=hV
  have hcl:cols.length<=7:=hs
  refine Ip (P:=λw'=>CB cb tv (check T (.create t cols)).1 w'/\nJ w' (check T (.create t cols)).2 lo hi (.iface 160 (.pointer (some ⟨q,0,none⟩)))/\Fc cb lo hi w w') ((Co hc ht hkl DD ⟨h1,h2⟩ hA hL (by omega)).mono ?_)
  rintro r w' ⟨rfl,h,kk⟩
  exact ⟨rfl,h,⟨_,rfl,q,sl,rfl,h1,h2,hA.same kk.size (kk.block q hA.1 (by omega)),hL.frame (λu u1 u2=>kk.block u (by omega) (by omega))⟩,Fc.of kk⟩
 | drop t=>
  obtain ⟨q,rfl,h1,h2,hA⟩:=hV
  refine (Nn hc ht hA).mono ?_
  rintro r w' ⟨rfl,h,kk⟩
  exact ⟨rfl,h,⟨q,rfl,h1,h2,hA.same kk.size (kk.block q hA.1 (by omega))⟩,Fc.of kk⟩
 | dR a t rows=>
  obtain ⟨p,rfl,q,sl,rfl,h1,h2,hA,hL⟩:=hV
  obtain ⟨hrl,hrs⟩:=hs
  refine Iq (P:=λw'=>CB cb tv (check T (.dR a t rows)).1 w'/\nJ w' (check T (.dR a t rows)).2 lo hi (.iface 169 (.pointer (some ⟨q,0,none⟩)))/\Fc cb lo hi w w') ((An (N:=90000) (λx hx=>⟨ED (hrs x hx).1 (hrs x hx).2.1 ((hM x.2).2.1 (hrs x hx).1),by have:=(hrs x hx).2.2;omega,(hrs x hx).1,(hrs x hx).2.1⟩) hrl hc ht hkl DD ⟨h1,h2⟩ hA hL).mono ?_)
  rintro r w' ⟨rfl,h,l,f⟩
  exact ⟨rfl,h,⟨_,rfl,q,sl,rfl,h1,h2,hA.same f.size (f.block q hA.1 (by omega) (by omega)),l⟩,f.wide (by omega) (aF _)⟩
 | fA a t nd=>exact hs.elim
 | delete t wh=>
  obtain ⟨q,pv,rfl,h1,h2,hA,hp,hR⟩:=hV
  obtain ⟨hw,hd⟩:=hs
  refine (Is (O4 T hw hd) hc ht hkl h1 (by omega) hA hp hR).mono ?_
  rintro r w' ⟨rfl,h,r,f⟩
  exact ⟨rfl,h,⟨q,pv,rfl,h1,h2,hA.same f.size (f.block q hA.1 (by omega) (by omega)),hp,r⟩,f.wide (aF _) (by omega)⟩
 | update t sets wh=>
  obtain ⟨p,rfl,q,sl,pv,mid,rfl,h1,h2,h3,hA,hL,hp,hR⟩:=hV
  obtain ⟨hsl,hss,hw,hd⟩:=hs
  have hck:check T (.update t sets wh)=((vG T (aK T t ⟨0,0,false⟩).1 (aK T t ⟨0,0,false⟩).2 sets wh).1, .update t (vG T (aK T t ⟨0,0,false⟩).1 (aK T t ⟨0,0,false⟩).2 sets wh).2.1 (vG T (aK T t ⟨0,0,false⟩).1 (aK T t ⟨0,0,false⟩).2 sets wh).2.2):=by
   simp only [check,vG]
   split <;> rfl
  rw [hck]
  refine Ir (P:=λw'=>CB cb tv _ w'/\nJ w' _ lo hi (.iface 176 (.pointer (some ⟨q,0,none⟩)))/\Fc cb lo hi w w') ((Cy (N:=90000) (λx hx=>⟨(hM x.2.2).1 (hss x hx).1,by have:=(hss x hx).2;omega,(hss x hx).1⟩) hsl (O4 T hw hd) hc ht hkl DD ⟨h1,h2,h3⟩ hA hL hp hR).mono ?_)
  rintro r w' ⟨rfl,h,l,r,f⟩
  exact ⟨rfl,h,⟨_,rfl,q,sl,pv,mid,rfl,h1,h2,h3,hA.same f.size (f.block q hA.1 (by omega) (by omega)),l,hp,r⟩,f.wide (aF _) (by omega)⟩
 | trans z=>exact absurd rfl (hnt z)
 | query nd=>
  obtain ⟨hw,hd⟩:=hs
  have hQ:=(hM nd).2.2.2.2 hw k cb (cb+1) lo hi tv v (.pointer none) ⟨0,0,false⟩ [] w ⟨hc,ht,rfl,hkl,DD,by omega,by omega⟩ (by simp;omega) hV
  rcases vL hV hw with ⟨b,rfl⟩ | ⟨b,rfl⟩
  ·refine Qj (P:=λw'=>CB cb tv (check T (.query nd)).1 w'/\nJ w' (check T (.query nd)).2 lo hi (.iface 278 (.pointer (some ⟨b,0,none⟩)))/\Fc cb lo hi w w') (hQ.mono ?_)
   rintro r w' ⟨v',rfl,_,_,h,r,f⟩
   exact ⟨v',rfl,h,r,f⟩
  ·refine Nl (P:=λw'=>CB cb tv (check T (.query nd)).1 w'/\nJ w' (check T (.query nd)).2 lo hi (.iface 280 (.pointer (some ⟨b,0,none⟩)))/\Fc cb lo hi w w') (hQ.mono ?_)
   rintro r w' ⟨v',rfl,_,_,h,r,f⟩
   exact ⟨v',rfl,h,r,f⟩
theorem Av {w:World} {s:vZ} {lo hi:Nat} {v:Value} (hs:okS 90000 s) (h:nJ w s lo hi v):∃ t a,v = .iface t (.pointer a):=by
 cases s with
 | create t cols=>obtain ⟨p,rfl,q,sl,rfl,_⟩:=h;exact ⟨_,_,rfl⟩
 | drop t=>obtain ⟨q,rfl,_⟩:=h;exact ⟨_,_,rfl⟩
 | dR a t rows=>obtain ⟨p,rfl,q,sl,rfl,_⟩:=h;exact ⟨_,_,rfl⟩
 | fA a t nd=>obtain ⟨p,rfl,q,sl,rfl,_⟩:=h;exact ⟨_,_,rfl⟩
 | delete t wh=>obtain ⟨q,pv,rfl,_⟩:=h;exact ⟨_,_,rfl⟩
 | update t sets wh=>obtain ⟨p,rfl,q,sl,pv,mid,rfl,_⟩:=h;exact ⟨_,_,rfl⟩
 | trans z=>obtain ⟨q,rfl,_⟩:=h;exact ⟨_,_,rfl⟩
 | query nd=>rcases vL h hs.1 with ⟨b,rfl⟩ | ⟨b,rfl⟩ <;> exact ⟨_,_,rfl⟩
theorem CB.new {k:Nat} {T:List Sp.Tb} (w:World) {tv:Value} (_ht:sD k w T tv):CB w.heap.size tv ⟨0,0,false⟩ (w.alloc (.cells #[tv, .int .i64 0, .int .i64 0, .bool false] 182)):=
 ⟨by simp,by simp,by simp,by simp,by simp,λo=>by simp⟩
theorem check_any {T:List Sp.Tb} {k lo hi:Nat} {tv v:Value} {s:vZ} {w:World} (hs:okS 90000 s) (hnt:∀ z,s ≠ .trans z) (ht:sD k w T tv) (hkl:k<=lo) (hh:hi<=w.heap.size) (hV:nJ w s lo hi v) :
  Calls prog 51 #[tv,v] w λr w'=>r = .returned (.tuple #[.int .i64 ((check T s).1.out.1:Nat), .int .i64 ((check T s).1.out.2:Nat)])/\nJ w' (check T s).2 lo hi v/\Fc w.heap.size lo hi w w':=by
 have GX:=hid ((Gr.refl w).alloc (.cells #[tv, .int .i64 0, .int .i64 0, .bool false] 182))
 have hz:=GX.out.size
 have HC:=hid (It hs hnt (CB.new w ht) (ht.low (Low.eA GX.out)) hkl hh (nJ.frame hz hV (by obtain ⟨t,a,e⟩:=Av hs hV;exact .inr ⟨_,_,e⟩) (λu u1 u2=>GX.out.below.block u (by omega))))
 obtain ⟨vt,va,rfl⟩:=Av hs hV
 obtain ⟨ta,tn,tc,rfl⟩:∃ a n c,tv = .slice a n c:=by
  rcases ht.2.2 with ⟨rfl,rfl⟩ | ⟨b,off,c,V,rfl,_⟩
  ·exact ⟨_,_,_,rfl⟩
  ·exact ⟨_,_,_,rfl⟩
 clear ht hV
 generalize check T s=CH at *
 obtain ⟨⟨ce,ca,cm⟩,s'⟩:=CH
 simp only [] at HC ⊢
 go_enter func51,ntmps51
 go_wp2_with fail
 refine HC.out.mono ?_
 rintro e w1 ⟨rfl,h1,v1,f1⟩
 obtain ⟨lt,c0,c1,c2,c3,_⟩:=h1
 simp only [] at c1 c2 c3
 have HV:=hid v1
 have HF:Hid (Fc w.heap.size lo hi w w1):=(Fc.gr GX.out).trans f1
 have X9:Hid (nJ w1.drew s' lo hi (.iface vt (.pointer va))):=hid (nJ.frame (w:=w1) (w':=w1.drew) (aF _) v1 (.inr ⟨_,_,rfl⟩) (λu _ _=>rfl))
 have Gt:Hid (Fc w.heap.size lo hi w w1.drew):=HF.out.trans (Fc.gr (Gr.refl w1).drew)
 clear v1 f1 HC
 by_cases hce:ce=0
 ·subst hce
  have c1' : w1.cell? ⟨w.heap.size,1,none⟩=some (.int .i64 0):=c1
  clear c1
  cases cm
  ·go_wp2_with fail
   go_region
   all_goals
    go_wp2_with fail
    go_ret2
    exact ⟨rfl,X9.out,Gt.out⟩
  ·go_wp2_with fail
   go_ret2
   exact ⟨rfl,HV.out,HF.out⟩
 ·have hne:((ce:Int) == 0)=false:=by simpa using hce
  go_wp2_with fail
  go_region
  all_goals
   go_wp2_with fail
   go_ret2
   refine ⟨?_,X9.out,Gt.out⟩
   simp [CS.out,hce]
end Go.Proofs.YtgnncnhkgmhngaaGreatDoor
