import Derived.Test.YtgnncnhkgmhngaaGreatDoorJ24
set_option maxHeartbeats 4000000
set_option maxRecDepth 100000
namespace Go.Proofs.YtgnncnhkgmhngaaGreatDoor
open Sp
open Tryz
open Go.RowKit Go.Sort
theorem B8 (T:List Sp.Tb) (aC:List Sp.Lv):∀ (ar:List pB) (made:Int) (c:CS) (u:Nat),((gY T aC ar made c).2.2[u]?).map (λx=>(x.1,x.2.2.1))=(ar[u]?).map (λx=>(x.1,x.2.2.1))
 | [],_,_,u=>by simp [gY]
 | x::ar,made,c,0=>by simp [gY,lS]
 | x::ar,made,c,u+1=>by simp only [gY,List.getElem?_cons_succ];exact B8 T aC ar _ _ u
theorem Rp.arms' {w:World} {ar:List pB} {lo hi:Nat} {x:Value} (h:Rp w (cC ar) lo hi x):∃ va vc blk off vs,x = .slice va ar.length vc/\wD w blk ar vs lo hi/\Ag w blk off ar vs/\vs.length=ar.length/\(ar ≠ []->va=some ⟨blk,off,none⟩/\blk<w.heap.size):=by
 cases ar with
 | nil=>
  obtain ⟨h1,a,c,e⟩:=h
  exact ⟨a,c,0,0, [],e,h1,λj x v hj=>by simp at hj,rfl,λh=>absurd rfl h⟩
 | cons y ar=>
  have h':=h
  simp only [cC,List.foldr_cons] at h'
  obtain ⟨blk,off,n,c,v1,v2,m1,m2,m3,rfl,hl,_⟩:=h'
  obtain ⟨hn,vs,h1,h2,h3⟩:=Rp.wX (y::ar) lo hi blk off (n+1) c h
  exact ⟨_,c,blk,off,vs,by rw [hn],h1,h2,h3,λ_=>⟨rfl,hl⟩⟩
theorem EE {T:List Sp.Tb} {k cb m lo hi b m1 m2 m3:Nat} {tv av ev iv:Value} {c:CS} {aC:List Sp.Lv} {w:World} {ar:List pB} {els:Nd} (hlen:ar.length<=90000) {N:Nat} (hwx:∀ x∈ar,wf N x.2.1 .expr/\wf N x.2.2.2 .expr) (hX:∀ x∈ar,sH T x.2.1/\sH T x.2.2.2) (hY:∀ a e,els = .clause a e->sH T e) (hels:els = .none\/∃ a e,els = .clause a e)
  (he:En T k cb m tv c aC iv lo hi w) (hd:aC.length+max (cC ar).dep els.dep<=100000) (hb:lo<=b/\b<hi) (hm:lo<=m1/\m1<=m2/\m2<=m3/\m3<=hi) (hbm:¬ (m2<=b/\b<m3)) (hA:At w b [av,ev]) (hI:xR lo m2 av) (hr:Rp w (cC ar) m1 m2 av) (hn:b9 ev) (hr2:Rp w els m2 m3 ev) :
  Calls prog 223 #[.pointer (some ⟨cb,0,none⟩), .pointer (some ⟨b,0,none⟩),iv] w λr w'=>r = .returned (.int .i64 ((Sp.ck T (.b8 (cC ar) els) aC 0 c).1.headD 0))/\CB cb tv (Sp.ck T (.b8 (cC ar) els) aC 0 c).2.1 w'/\Rp w' (cC (gY T aC ar 0 c).2.2) m1 m2 av/\Rp w' (Sp.ck T els aC 0 (gY T aC ar 0 c).2.1).2.2 m2 m3 ev/\Fc cb m1 m3 w w'/\Sb b w w':=by
 have hcw:=he.ck.lt
 have DD:=he.hic
 obtain ⟨ia,rfl⟩:=he.sc.ptr
 obtain ⟨va,vc,blk,off,vs,rfl,hAr,hce,hvl,hva⟩:=hr.arms'
 have b0:=hA.k0
 have b1:=hA.k1
 have hbw:=hA.1
 obtain ⟨n,hN⟩:∃ n,n=ar.length:=⟨_,rfl⟩
 have HN:=hid hN
 rw [<- hN] at b0 hlen hI ⊢
 have HX:=hid hX
 have Vw:=hid hwx
 have HY:=hid hY
 have Vu:=hid hels
 have HE:=hid he
 have HD:=hid hd
 have HI:=hid hI
 have Vx:=hid hAr
 have Us:=hid hce
 have HVL:=hid hvl
 have Ut:=hid hva
 have RI:=hid hn
 have HR2:=hid hr2
 clear hX hY hwx hels he hd hI hAr hce hvl hva hn hr2 hr hA hN
 obtain ⟨kt,hkt⟩:∃ z,z=(Sp.ck T (.b8 (cC ar) els) aC 0 c).1.headD 0:=⟨_,rfl⟩
 obtain ⟨kc,hkc⟩:∃ z,z=(Sp.ck T (.b8 (cC ar) els) aC 0 c).2.1:=⟨_,rfl⟩
 rw [<- hkt,<- hkc]
 have Uu:=hid (And.intro hkt hkc)
 clear hkt hkc
 go_enter func223,ntmps223
 go_wp2_with fail
 go_loopw [7,15] (λv i wr=>∃ j:Nat,j<=n/\i = .int .i64 (j:Nat)/\∃ q:Int,v = .int .i64 q/\Hid (q=(gY T aC (ar.take j) 0 c).1)/\Hid (CB cb tv (gY T aC (ar.take j) 0 c).2.1 wr)/\Hid (wD wr blk ((gY T aC (ar.take j) 0 c).2.2++ar.drop j) vs m1 m2)/\Hid (Fc cb m1 m2 w wr)/\Hid (blk<w.heap.size->blk≠cb->wr.heap[blk]?=w.heap[blk]?)) (λ_ i _=>n - (intOf i).toNat)
 case atStart=>exact ⟨0,eX _,rfl,0,rfl,rfl,HE.out.ck,Vx,Fc.refl _ _ _ _,λ_ _=>rfl⟩
 case round=>
  obtain ⟨j,hj,rfl,q,rfl,HQ,tL,pA,HF,qF⟩:=hrel
  have SC:=hid ((HE.out.part hm.1 (by omega:m2<=hi)).next (aF _) (aF _) hm.2.1 HF.out tL.out)
  have Uv:=hid (show Sb b w wr from HF.out.slc b hbw (by omega) ⟨_,_,_,b0⟩)
  have r0:=(dV (w:=w) (a:=⟨b,0,none⟩) Uv.out).trans b0
  have r1:=(dV (w:=w) (a:=⟨b,1,none⟩) Uv.out).trans b1
  have hwr:=HF.out.size
  by_cases hlt:j<n
  ·have hjz:j<ar.length:=by have:=HN.out;omega
   obtain ⟨rfl,hbl⟩:=Ut.out (by intro e;rw [e] at hjz;simp at hjz)
   have hbc:blk<m2:=(HI.out blk off n vc rfl).2
   have HS:=hid (Ks T aC ar 0 c j hjz)
   have hl2:=Ae T aC (ar.take j) 0 c
   rw [List.length_take,Nat.min_eq_left (by omega)] at hl2
   have hx:=pA.out
   rw [lJ hjz] at hx
   obtain ⟨p1,p2,p3,v,ex,l1,l2,l3,l4,l5,l6,l7,l8,l9,l10⟩:=wD.upd _ _ _ _ _ _ hx
   rw [hl2] at ex
   obtain ⟨d0,d1,d2,d3⟩:=Us.out j _ _ (tC hjz) ex
   have hbk:=qF.out hbl (by omega)
   have e0:=(dV (w:=w) (a:=⟨blk,_,none⟩) hbk).trans d0
   have e1:=(dV (w:=w) (a:=⟨blk,_,none⟩) hbk).trans d1
   have e2:=(dV (w:=w) (a:=⟨blk,_,none⟩) hbk).trans d2
   have e3:=(dV (w:=w) (a:=⟨blk,_,none⟩) hbk).trans d3
   have hdd:=yH ar _ (hU hjz)
   have Gf:=hid (HX.out _ (hU hjz))
   have MY:Hid (aC.length+ar[j].2.1.dep<=100000/\aC.length+ar[j].2.2.2.dep<=100000):=by have:=HD.out;constructor <;> omega
   have Jj:=hid (And.intro l6 l7)
   have SF:=hid (And.intro l8 l9)
   have Vy:=hid l10
   obtain ⟨x1,x2⟩:=v
   have PY:=Vw.out _ (hU hjz)
   obtain ⟨t1,y1,hy1⟩:=l7.Md PY.1
   obtain ⟨t2,y2,hy2⟩:=l9.Md PY.2
   simp only [] at hy1 hy2
   subst hy1 hy2
   simp only [] at e1 e3
   clear d0 d1 d2 d3 PY hdd l6 l7 l8 l9 l10 hx ex hl2 hbk
   generalize gY T aC (ar.take j) 0 c=R at *
   generalize ar[j]=aj at *
   obtain ⟨wa,en,ta,tn⟩:=aj
   simp only [] at e0 e2 Jj SF Gf MY
   have G1:=hid ((Gr.refl wr).alloc (.cells #[.int .i64 (wa:Nat), .iface t1 (.pointer (some ⟨y1,0,none⟩)), .int .i64 (ta:Nat), .iface t2 (.pointer (some ⟨y2,0,none⟩))] 407))
   go_wp2_with fail
   have hp3:p3<=cb:=by omega
   have OB:=hid ((SC.out.part l1 (by omega:p2<=m2)).gr G1.out)
   have q0:(wr.alloc (.cells #[.int .i64 (wa:Nat), .iface t1 (.pointer (some ⟨y1,0,none⟩)), .int .i64 (ta:Nat), .iface t2 (.pointer (some ⟨y2,0,none⟩))] 407)).cell? ⟨wr.heap.size,0,none⟩=some (.int .i64 (wa:Nat)):=by simp
   have q1:(wr.alloc (.cells #[.int .i64 (wa:Nat), .iface t1 (.pointer (some ⟨y1,0,none⟩)), .int .i64 (ta:Nat), .iface t2 (.pointer (some ⟨y2,0,none⟩))] 407)).cell? ⟨wr.heap.size,0+1,none⟩=some (.iface t1 (.pointer (some ⟨y1,0,none⟩))):=by simp
   have q2:(wr.alloc (.cells #[.int .i64 (wa:Nat), .iface t1 (.pointer (some ⟨y1,0,none⟩)), .int .i64 (ta:Nat), .iface t2 (.pointer (some ⟨y2,0,none⟩))] 407)).cell? ⟨wr.heap.size,2,none⟩=some (.int .i64 (ta:Nat)):=by simp
   have q3:(wr.alloc (.cells #[.int .i64 (wa:Nat), .iface t1 (.pointer (some ⟨y1,0,none⟩)), .int .i64 (ta:Nat), .iface t2 (.pointer (some ⟨y2,0,none⟩))] 407)).cell? ⟨wr.heap.size,3,none⟩=some (.iface t2 (.pointer (some ⟨y2,0,none⟩))):=by simp
   have hq:wr.heap.size<(wr.alloc (.cells #[.int .i64 (wa:Nat), .iface t1 (.pointer (some ⟨y1,0,none⟩)), .int .i64 (ta:Nat), .iface t2 (.pointer (some ⟨y2,0,none⟩))] 407)).heap.size:=by simp
   refine (rN (a:=wa) Gf.out.1 OB.out MY.out.1 (Jj.out.2.Ur G1.out (by omega) Jj.out.1) l2 hq (by omega) (by omega) q0 q1 Jj.out.1).mono ?_
   rintro e w2 ⟨rfl,h2,XH,f2⟩
   have d2:=(f2.cell (p:=⟨wr.heap.size,2,none⟩) hq (by show wr.heap.size≠cb;omega) (by show ¬ (p1<=wr.heap.size/\wr.heap.size<p2);omega)).trans q2
   have d3:=(f2.cell (p:=⟨wr.heap.size,3,none⟩) hq (by show wr.heap.size≠cb;omega) (by show ¬ (p1<=wr.heap.size/\wr.heap.size<p2);omega)).trans q3
   have F2:Hid (Fc cb p1 p3 wr w2):=(Fc.gr G1.out).trans (f2.wide (aF _) l3)
   have hq2:wr.heap.size<w2.heap.size:=b6 hq f2.size
   have HE2:=hid ((SC.out.part l1 (by omega:p3<=m2)).next (aF _) (aF _) (by omega) F2.out h2)
   have HT2:=hid (SF.out.2.frame (cF (Nat.le_of_lt hq) f2.size) _ _ _ _ (λu u1 u2=>(f2.block u (by simp;omega) (by omega) (by omega)).trans (lK _ _ _ (by omega))) (λ_ _ _ _ e=>absurd e (SF.out.1 _ _ _)))
   have HW2:=hid XH
   have HC2:=hid (Gf.out.2 k cb m p2 p3 tv (.iface t2 (.pointer (some ⟨y2,0,none⟩))) (.pointer ia) _ aC w2.drew ((HE2.out.part l2 (aF _)).gr (Gr.refl w2).drew) MY.out.2 (HT2.out.Ur (Gr.refl w2).drew (by omega) SF.out.1))
   have hdf:lS T aC (wa,en,ta,tn) R.1 R.2.1=((((Sp.ck T tn aC 0 ((Sp.ck T en aC 0 R.2.1).2.1.fit wa [1,(Sp.ck T en aC 0 R.2.1).1.headD 0]).2).2.1.fit ta [R.1,(Sp.ck T tn aC 0 ((Sp.ck T en aC 0 R.2.1).2.1.fit wa [1,(Sp.ck T en aC 0 R.2.1).1.headD 0]).2).1.headD 0]).1),((Sp.ck T tn aC 0 ((Sp.ck T en aC 0 R.2.1).2.1.fit wa [1,(Sp.ck T en aC 0 R.2.1).1.headD 0]).2).2.1.fit ta [R.1,(Sp.ck T tn aC 0 ((Sp.ck T en aC 0 R.2.1).2.1.fit wa [1,(Sp.ck T en aC 0 R.2.1).1.headD 0]).2).1.headD 0]).2,(wa,(Sp.ck T en aC 0 R.2.1).2.2,ta,(Sp.ck T tn aC 0 ((Sp.ck T en aC 0 R.2.1).2.1.fit wa [1,(Sp.ck T en aC 0 R.2.1).1.headD 0]).2).2.2)):=rfl
   have Oc:=hid (HS.out.trans (by rw [hdf]))
   rw [<- HQ.out] at Oc
   clear hdf HS f2 h2 XH q0 q1 q2 q3 Gf MY
   generalize Sp.ck T en aC 0 R.2.1=RE at *
   generalize Sp.ck T tn aC 0 (RE.2.1.fit wa [1,RE.1.headD 0]).2=RT at *
   generalize RT.1.headD 0=ty at *
   go_wp2_with fail
   go_region_held3 (λw'=>w'.cell? ⟨wr.heap.size,2,none⟩=some (.int .i64 (ta:Nat))/\w'.cell? ⟨wr.heap.size,3,none⟩=some (.iface t2 (.pointer (some ⟨y2,0,none⟩)))) (first | go_keep | exact ⟨d2,d3⟩ | exact ⟨g2,g3⟩ | exact ⟨i2,i3⟩ | exact ⟨s2,s3⟩) (first | (go_at_call 182;refine HC2.out.mono ?_;rintro e3 w3 ⟨rfl,h3,OC,f3⟩;have g2:=(f3.cell (p:=⟨wr.heap.size,2,none⟩) hq2 (by show wr.heap.size≠cb;omega) (by show ¬ (p2<=wr.heap.size/\wr.heap.size<p3);omega)).trans d2;have g3:=(f3.cell (p:=⟨wr.heap.size,3,none⟩) hq2 (by show wr.heap.size≠cb;omega) (by show ¬ (p2<=wr.heap.size/\wr.heap.size<p3);omega)).trans d3;have hq3:wr.heap.size<w3.heap.size:=b6 hq2 f3.size;have i2:=(((Gr.refl w3).alloc (.cells #[.int .i64 q, .int .i64 ty] 3)).cell (p:=⟨wr.heap.size,2,none⟩) hq3).trans g2;have i3:=(((Gr.refl w3).alloc (.cells #[.int .i64 q, .int .i64 ty] 3)).cell (p:=⟨wr.heap.size,3,none⟩) hq3).trans g3) | (go_at_call 181;refine (eY (h3.alloc (.cells #[.int .i64 q, .int .i64 ty] 3)) ta (vA w3 q ty) (by simp)).mono ?_;rintro e4 w4 ⟨rfl,h4,k4⟩;have s2:=(k4.cell (p:=⟨wr.heap.size,2,none⟩) (by simp;omega) (by show wr.heap.size≠cb;omega)).trans i2;have s3:=(k4.cell (p:=⟨wr.heap.size,3,none⟩) (by simp;omega) (by show wr.heap.size≠cb;omega)).trans i3))
   have B9 : Kept cb w3 w4:=((Kept.refl cb w3).alloc _).trans k4
   have f3' : Fc cb p2 p3 w2 w3:=(Fc.drewN (Fc.refl cb p2 p3 w2) 1).trans f3
   have hz3:=f3'.size
   have F4:Hid (Fc cb p1 p3 wr w4):=(F2.out.trans (f3'.wide l2 (aF _))).trans (Fc.of B9)
   have Zk:Hid (wD w4 blk ((gY T aC (ar.take (j+1)) 0 c).2.2++ar.drop (j+1)) vs m1 m2):=by
    show wD _ _ _ _ _ _
    rw [Oc.out]
    have E:=Vy.out w4 (wa,RE.2.2,ta,RT.2.2) F4.out.size (λu u1 u2 u3 u4=>F4.out.block u (by omega) (by omega) u4)
     ((HW2.out.frame f3'.size _ _ _ _ (λu u1 u2=>f3'.block u (by omega) (by omega) (by omega)) (λ_ _ _ _ e=>absurd e (Jj.out.1 _ _ _))).u6 B9 (by omega) (by omega) Jj.out.1) (OC.u6 B9 hp3 (by omega) SF.out.1)
    simpa using E
   have SB:Hid (CB cb tv (gY T aC (ar.take (j+1)) 0 c).2.1 w4):=by show CB _ _ _ _;rw [Oc.out];exact h4
   have Vz:Hid ((RT.2.1.fit ta [q,ty]).1=(gY T aC (ar.take (j+1)) 0 c).1):=by show _=_;rw [Oc.out]
   have Be:Hid (Fc cb m1 m2 w w4):=HF.out.trans (F4.out.wide l1 l4)
   have HB4:Hid (blk<w.heap.size->blk≠cb->w4.heap[blk]?=w.heap[blk]?):=λu1 u2=>(F4.out.block blk (by omega) u2 l5).trans (qF.out u1 u2)
   generalize (RT.2.1.fit ta [q,ty]).1=q4 at *
   clear h3 OC f3 h4 k4 B9 f3' i2 i3 s2 s3 g2 g3 d2 d3
   go_wp2_with fail
   go_roundw
   case rel=>exact ⟨j+1,by omega,by go_num,q4,rfl,Vz,SB,Zk,Be,HB4⟩
   case measure=>simp [intOf];omega
  ·have hje:ar.take j=ar:=tD (by have:=HN.out;omega)
   have hdr:ar.drop j = []:=Bn (by have:=HN.out;omega)
   rw [hje] at HQ tL pA SC
   rw [hdr,List.append_nil] at pA
   have hlen2:=Ae T aC ar 0 c
   have VA:=hid (vB T aC ar 0 c)
   -- the arms as they lie now
   have SG:Rp wr (cC (gY T aC ar 0 c).2.2) m1 m2 (.slice va n vc):=by
    by_cases hz:ar = []
    ·subst hz
     have h0:n=0:=by have:=HN.out;simpa using this
     rw [h0]
     exact ⟨hm.2.1,_,_,rfl⟩
    ·obtain ⟨e,hbl⟩:=Ut.out hz
     have hbc:=(HI.out blk off n vc (by rw [e])).2
     have hbk:=qF.out hbl (by omega)
     have R:=wD.rp (off:=off) (b6 hbl hwr) vc pA.out (λu x v hx hv=>by
      have hu:u<ar.length:=by
       have:=(List.getElem?_eq_some_iff.1 hx).1
       omega
      have hx' : ∃ x',ar[u]?=some x'/\x'.1=x.1/\x'.2.2.1=x.2.2.1:=by
       have hg:=B8 T aC ar 0 c u
       rw [hx] at hg
       cases hy:ar[u]? with
       | none=>rw [hy] at hg;cases hg
       | some y=>rw [hy] at hg;simp only [Option.map_some,Option.some.injEq,Prod.mk.injEq] at hg;exact ⟨y,rfl,hg.1.symm,hg.2.symm⟩
      obtain ⟨x',h1,h2,h3⟩:=hx'
      obtain ⟨d0,d1,d2,d3⟩:=Us.out u x' v h1 hv
      rw [h2] at d0
      rw [h3] at d2
      have hc:∀ o,wr.cell? ⟨blk,o,none⟩=w.cell? ⟨blk,o,none⟩:=λo=>dV (w:=w) (a:=⟨blk,o,none⟩) hbk
      exact ⟨(hc _).trans d0,(hc _).trans d1,(hc _).trans d2,(hc _).trans d3⟩)
     rw [hlen2,<- HN.out,<- e] at R
     exact R
   have SH:=hid SG
   have SI:=hid (HR2.out.frame hwr _ _ _ _ (λu u1 u2=>HF.out.block u (by omega) (by omega) (by omega)) (λ_ _ _ _ e=>absurd e (RI.out _ _ _)))
   clear SG hje hdr hlen2 pA qF
   rcases Vu.out with rfl | ⟨ea,en,rfl⟩
   ·have e1:ev = .pointer none:=HR2.out.2
    subst e1
    have HV:Hid ((Sp.ck T (.b8 (cC ar) .none) aC 0 c).1.headD 0=(gY T aC ar 0 c).1/\(Sp.ck T (.b8 (cC ar) .none) aC 0 c).2.1=(gY T aC ar 0 c).2.1):=by
     have h:=VA.out
     simp only [Sp.ck]
     rw [h]
     exact ⟨rfl,rfl⟩
    go_wp2_with fail
    go_ret
    refine ⟨by rw [Uu.out.1,HV.out.1,<- HQ.out];rfl,by rw [Uu.out.2,HV.out.2];exact tL.out,SH.out,SI.out,HF.out.wide (aF _) hm.2.2.1,Uv.out⟩
   ·obtain ⟨b',v,p1,p2,rfl,hb1,hb2,hS,hAt,Ej,hre⟩:=SI.out
    unfold Sub at hS
    have OA:=hAt.k0
    have MX:=hAt.k1
    have H8:=hAt.1
    have PZ:=hid ((HE.out.part (by omega:lo<=m1) (by omega:m3<=hi)).next (aF _) (aF _) (by omega) (HF.out.wide (aF _) hm.2.2.1) tL.out)
    have HC2:=hid (HY.out ea en rfl k cb m p1 p2 tv v (.pointer ia) _ aC wr.drew ((PZ.out.part (by omega) (by omega)).gr (Gr.refl wr).drew) (by have:=HD.out;simp only [Nd.dep] at this;omega) (hre.Ur (Gr.refl wr).drew (by omega) Ej))
    have HV:Hid ((Sp.ck T (.b8 (cC ar) (.clause ea en)) aC 0 c).1.headD 0=((Sp.ck T en aC 0 (gY T aC ar 0 c).2.1).2.1.fit ea [q,(Sp.ck T en aC 0 (gY T aC ar 0 c).2.1).1.headD 0]).1/\(Sp.ck T (.b8 (cC ar) (.clause ea en)) aC 0 c).2.1=((Sp.ck T en aC 0 (gY T aC ar 0 c).2.1).2.1.fit ea [q,(Sp.ck T en aC 0 (gY T aC ar 0 c).2.1).1.headD 0]).2/\(Sp.ck T (.clause ea en) aC 0 (gY T aC ar 0 c).2.1).2.2 = .clause ea (Sp.ck T en aC 0 (gY T aC ar 0 c).2.1).2.2):=by
     have h:=VA.out
     rw [HQ.out]
     simp only [Sp.ck]
     rw [h]
     refine ⟨?_,?_,?_⟩ <;> first | rfl | trivial
    have Uw:=hid Ej
    have HAt:=hid hAt
    clear hAt hre Ej VA HQ
    generalize Sp.ck T en aC 0 (gY T aC ar 0 c).2.1=RE at *
    generalize RE.1.headD 0=ty at *
    go_wp2_with fail
    go_region_held3 (λw'=>w'.cell? ⟨b,1,none⟩=some (.pointer (some ⟨b',0,none⟩))/\w'.cell? ⟨b',0,none⟩=some (.int .i64 (ea:Nat))/\w'.cell? ⟨b',1,none⟩=some v) (first | go_keep | exact ⟨r1,OA,MX⟩ | exact ⟨g1,g2,g3⟩ | exact ⟨i1,i2,i3⟩ | exact ⟨s1,s2,s3⟩) (first | (go_at_call 182;refine HC2.out.mono ?_;rintro e3 w3 ⟨rfl,h3,OC,f3⟩;have g1:=(f3.cell (p:=⟨b,1,none⟩) (show b<wr.heap.size by omega) (by show b≠cb;omega) (by show ¬ (p1<=b/\b<p2);omega)).trans r1;have g2:=(f3.cell (p:=⟨b',0,none⟩) H8 (by show b'≠cb;omega) (by show ¬ (p1<=b'/\b'<p2);omega)).trans OA;have g3:=(f3.cell (p:=⟨b',1,none⟩) H8 (by show b'≠cb;omega) (by show ¬ (p1<=b'/\b'<p2);omega)).trans MX;have hz3:wr.heap.size<=w3.heap.size:=f3.size;have i1:=(((Gr.refl w3).alloc (.cells #[.int .i64 q, .int .i64 ty] 3)).cell (p:=⟨b,1,none⟩) (by show b<_;omega)).trans g1;have i2:=(((Gr.refl w3).alloc (.cells #[.int .i64 q, .int .i64 ty] 3)).cell (p:=⟨b',0,none⟩) (by show b'<_;omega)).trans g2;have i3:=(((Gr.refl w3).alloc (.cells #[.int .i64 q, .int .i64 ty] 3)).cell (p:=⟨b',1,none⟩) (by show b'<_;omega)).trans g3) | (go_at_call 181;refine (eY (h3.alloc (.cells #[.int .i64 q, .int .i64 ty] 3)) ea (vA w3 q ty) (by simp)).mono ?_;rintro e4 w4 ⟨rfl,h4,k4⟩;have s1:=(k4.cell (p:=⟨b,1,none⟩) (by simp;omega) (by show b≠cb;omega)).trans i1;have s2:=(k4.cell (p:=⟨b',0,none⟩) (by simp;omega) (by show b'≠cb;omega)).trans i2;have s3:=(k4.cell (p:=⟨b',1,none⟩) (by simp;omega) (by show b'≠cb;omega)).trans i3))
    have B9 : Kept cb w3 w4:=((Kept.refl cb w3).alloc _).trans k4
    have f3' : Fc cb p1 p2 wr w3:=(Fc.drewN (Fc.refl cb p1 p2 wr) 1).trans f3
    have F4:Hid (Fc cb p1 p2 wr w4):=f3'.trans (Fc.of B9)
    have H4:=hid h4
    have lM:=hid (OC.u6 B9 (by omega:p2<=cb) (by omega) Uw.out)
    clear h3 OC f3 h4 k4 B9 f3' i1 i2 i3 s1 s2 s3 g1 g2 g3 OA MX
    go_wp2_with fail
    go_ret
    refine ⟨by rw [Uu.out.1,HV.out.1];rfl,by rw [Uu.out.2,HV.out.2.1];exact H4.out,?_,?_,(HF.out.wide (aF _) hm.2.2.1).trans (F4.out.wide (by omega) (by omega)),(F4.out.block b (by omega) (by omega) (by omega)).trans Uv.out⟩
    ·exact SH.out.frame F4.out.size _ _ _ _ (λu u1 u2=>F4.out.block u (by omega) (by omega) (by omega)) (λblk' off' n' c' e=>F4.out.block blk' (by have:=HI.out blk' off' n' c' e;omega) (by have:=HI.out blk' off' n' c' e;omega) (by have:=HI.out blk' off' n' c' e;omega))
    ·rw [HV.out.2.2]
     exact ⟨b',v,p1,p2,rfl,hb1,hb2,by unfold Sub;omega,HAt.out.same F4.out.size (F4.out.block b' H8 (by omega) (by omega)),Uw.out,lM.out⟩
theorem wY {cb b lo hi:Nat} {tv iv:Value} {va:Addr} {vn vc:Nat} {w:World} {iZ:List Int} {c:CS} {P:World->Prop} {ia:Option Addr} (hiv:iv = .pointer ia) (hA:w.cell? ⟨b,2,none⟩=some (.slice (some va) vn vc))
  (HC:Calls prog 180 #[.pointer (some ⟨cb,0,none⟩), .slice (some va) vn vc,iv] w λr w'=>∃ v,r = .returned v/\fB w.heap.size w' v iZ/\CB cb tv c w'/\P w'/\Fc cb lo hi w w') :
  Calls prog 228 #[.pointer (some ⟨cb,0,none⟩), .pointer (some ⟨b,0,none⟩),iv] w λr w'=>∃ v,r = .returned v/\fB w.heap.size w' v iZ/\CB cb tv c w'/\P w'/\Fc cb lo hi w w':=by
 subst hiv
 have H:=hid HC
 clear HC
 go_enter func228,ntmps228
 go_wp2_with fail
 refine H.out.mono ?_
 rintro e w1 ⟨v,rfl,h⟩
 go_wp2_with fail
 go_ret
 exact ⟨_,rfl,h⟩
theorem Ah {cb k m b st:Nat} {tv fv iv:Value} {c:CS} {lv:Sp.Lv} {aC:List Sp.Lv} {src:List (Nm×Nm)} {w:World} (hc:CB cb tv c w) (hkw:k<=w.heap.size) (hs:v8 k m w (lv::aC) iv) (hkc:k<=cb) (hcm:cb<m) (_hbw:b<w.heap.size) (_hbc:b≠cb)
  (b1:w.cell? ⟨b,1,none⟩=some (.int .i64 (st:Nat))) (b2:w.cell? ⟨b,2,none⟩=some (.slice none 0 0)) (b3:w.cell? ⟨b,3,none⟩=some fv) (hf:(src = []/\fv = .slice none 0 0)\/(src ≠ []/\∃ ad n c,fv = .slice (some ad) n c)) :
  Calls prog 228 #[.pointer (some ⟨cb,0,none⟩), .pointer (some ⟨b,0,none⟩),iv] w λr w'=>∃ v,r = .returned v/\fB w.heap.size w' v (lQ lv)/\CB cb tv (if src.isEmpty then c.fail 6 st else c) w'/\Kept cb w w':=by
 obtain ⟨sb,sv,ov,rfl,hb,hl,c0,c1,hsv,hr⟩:=hs
 obtain ⟨kc,hkq⟩:∃ z,z=(if src.isEmpty then c.fail 6 st else c):=⟨_,rfl⟩
 rw [<- hkq]
 have SJ:=hid hkq
 clear hkq
 have HC:=hid hc
 have Ra:=hid hsv
 have eJ:=hid hkw
 have u3:∀ w,Sem.run prog (binOp BinOp.eql 333 (.slice none 0 0) (.slice none 0 0)) w = .ok (.bool true) w:=λw=>by kernel_rfl
 have u4:∀ ad n c w,Sem.run prog (binOp BinOp.eql 333 (.slice (some ad) n c) (.slice none 0 0)) w = .ok (.bool false) w:=λad n c w=>by kernel_rfl
 clear hc hsv hr hkw
 rcases hf with ⟨rfl,rfl⟩ | ⟨hne,ad,fn,fc,rfl⟩
 ·go_enter func228,ntmps228
  go_wp2_with fail
  refine (cW HC.out 6 st).mono ?_
  rintro e w1 ⟨rfl,h1,k1⟩
  have H1:=hid h1
  have K1:=hid k1
  have Re:=hid (xY (cF eJ.out k1.size) (b6 hl k1.size) ((k1.cell (p:=⟨sb,0,none⟩) hl (by show sb≠cb;omega)).trans c0) (Ra.out.ou eJ.out (Ou.kept k1 hkc hcm)))
  clear h1 k1
  go_wp2_with fail
  refine Re.out.mono ?_
  rintro e w2 ⟨v,rfl,o2,g2⟩
  go_wp2_with fail
  go_ret
  exact ⟨_,rfl,o2.wide K1.out.size,by rw [SJ.out];exact H1.out.same g2.size (g2.block cb H1.out.lt),K1.out.trans (Kept.below g2)⟩
 ·have HE:Hid (src.isEmpty=false):=by show _=_;cases src with | nil=>exact absurd rfl hne | cons _ _=>rfl
  have Re:=hid (xY eJ.out hl c0 Ra.out)
  go_enter func228,ntmps228
  go_wp2_with fail
  refine Re.out.mono ?_
  rintro e w2 ⟨v,rfl,o2,g2⟩
  go_wp2_with fail
  go_ret
  exact ⟨_,rfl,o2,by rw [SJ.out,HE.out];exact HC.out.same g2.size (g2.block cb HC.out.lt),Kept.below g2⟩
def Mid (a b:Nat) (w w' : World):Prop:=∀ q,a<=q->q<b->w'.heap[q]?=w.heap[q]?
def VB (T:List Sp.Tb) (wh:Nd) (aC:List Sp.Lv) (c:CS):CS:=(Sp.cond T wh aC c).1
def Rg (w:World) (ex:Nd) (m1 m2:Nat) (xv:Value):Prop:=(ex = .none/\xv = .slice none 0 0)\/(ex ≠ .none/\Rp w ex m1 m2 xv)
theorem Rg.frame {w w' : World} {ex:Nd} {m1 m2:Nat} {xv:Value} (h:Rg w ex m1 m2 xv) (hs:w.heap.size<=w'.heap.size) (hk:∀ k,m1<=k->k<m2->w'.heap[k]?=w.heap[k]?) (hb:∀ blk off n c,xv = .slice (some ⟨blk,off,none⟩) n c->w'.heap[blk]?=w.heap[blk]?):Rg w' ex m1 m2 xv:=by
 rcases h with h | ⟨h1,h2⟩
 ·exact .inl h
 ·exact .inr ⟨h1,h2.frame hs _ _ _ _ hk hb⟩
theorem Kt {T:List Sp.Tb} {k cb m lo hi b m1 m2 m3 m4:Nat} {tv fv xv wv iv:Value} {c c2:CS} {aC:List Sp.Lv} {w:World} {src:List (Nm×Nm)} {wh ex' : Nd} {iZ:List Int} (hW:wh = .none\/∃ a e,wh = .clause a e/\sH T e/\aC.length+1+e.dep<=100000)
  (he:En T k cb m tv c aC iv lo hi w) (hsrc:Vt w src fv) (hsl:src.length<=1100) (hb:lo<=b/\b<hi) (hm:lo<=m1/\m1<=m2/\m2<=m3/\m3<=m4/\m4<=hi/\¬ (m1<=b/\b<m2)/\¬ (m3<=b/\b<m4)) (hfi:xR m2 m3 fv) (hxi:xR lo m2 xv)
  (b3:w.cell? ⟨b,3,none⟩=some fv) (b4:w.cell? ⟨b,4,none⟩=some wv) (hbw:b<w.heap.size) (hn:b9 wv) (hr:Rp w wh m3 m4 wv)
  (hC:∀ w1 v,En T k cb m tv ((bI T src [] c).2.note ((bI T src [] c).1::aC)) ((bI T src [] c).1::aC) v lo hi w1->Kept cb w w1->Calls prog 228 #[.pointer (some ⟨cb,0,none⟩), .pointer (some ⟨b,0,none⟩),v] w1 λr w'=>∃ v',r = .returned v'/\fB w1.heap.size w' v' iZ/\CB cb tv c2 w'/\Rg w' ex' m1 m2 xv/\Fc cb m1 m2 w1 w') :
  Calls prog 184 #[.pointer (some ⟨cb,0,none⟩), .pointer (some ⟨b,0,none⟩),iv] w λr w'=>∃ v',r = .returned v'/\fB w.heap.size w' v' iZ/\CB cb tv (VB T wh ((bI T src [] c).1::aC) c2) w'/\Rg w' ex' m1 m2 xv/\Rp w' (Sp.ck T wh ((bI T src [] c).1::aC) 0 c2).2.2 m3 m4 wv/\Fc cb m1 m4 w w'/\Sb b w w'/\Mid m2 m3 w w':=by
 have hcw:=he.ck.lt
 have DD:=he.hic
 have hcm:=he.cm
 have hmw:=he.mw
 have hkl:=he.Rc
 have HE:=hid he
 have HW:=hid hW
 have HN:=hid hn
 have HR:=hid hr
 have HX:=hid hxi
 have VC:=hid hC
 have HF:=hid (Kp he.ck he.tb he.sc hsrc (λblk off n c e=>by have:=hfi blk off n c e;omega) hsl (by omega) hcm hmw)
 obtain ⟨ia,rfl⟩:=he.sc.ptr
 obtain ⟨fa,fn,fc,rfl⟩:∃ a n c,fv = .slice a n c:=by
  rcases hsrc with ⟨_,rfl⟩ | ⟨_,_,e,_⟩
  ·exact ⟨_,_,_,rfl⟩
  ·exact ⟨_,_,_,e⟩
 clear hW he hsrc hn hr hC hxi
 generalize Zl:bI T src [] c=FC at *
 clear Zl
 obtain ⟨lv,cf⟩:=FC
 simp only [] at HF VC ⊢
 go_enter func184,ntmps184
 go_wp2_with fail
 refine HF.out.mono ?_
 rintro e w1 ⟨v1,rfl,s1,h1,k1⟩
 have hz1:=k1.size
 have OB:Hid (En T k cb m tv (cf.note (lv::aC)) (lv::aC) v1 lo hi w1):=⟨h1,HE.out.tb.low (Low.kT k1 (by omega)),s1,hkl,DD,hcm,cF hmw hz1⟩
 have P0:=hid (VC.out w1 v1 OB.out k1)
 have K1:=hid k1
 have c4:=(k1.cell (p:=⟨b,4,none⟩) hbw (by show b≠cb;omega)).trans b4
 obtain ⟨ja,rfl⟩:=s1.ptr
 clear s1 h1 k1 HF VC
 go_wp2_with fail
 refine P0.out.mono ?_
 rintro e w2 ⟨v2,rfl,o2,h2,x2,f2⟩
 have hz2:=f2.size
 have HE2:Hid (En T k cb m tv c2 (lv::aC) (.pointer ja) lo hi w2):=OB.out.next hm.1 (by omega) hm.2.1 f2 h2
 have O2:=hid o2
 have X2:=hid x2
 have F2:=hid f2
 have H2:=hid h2
 have d4:=(f2.cell (p:=⟨b,4,none⟩) (by show b<_;omega) (by show b≠cb;omega) (by show ¬ (m1<=b/\b<m2);omega)).trans c4
 have HR2:=hid ((HR.out.u6 K1.out (by omega) hcw HN.out).frame hz2 _ _ _ _ (λu u1 u2=>f2.block u (by omega) (by omega) (by omega)) (λ_ _ _ _ e=>absurd e (HN.out _ _ _)))
 have HB2:Hid (Sb b w w2):=(f2.block b (by omega) (by omega) (by omega)).trans (K1.out.block b hbw (by omega))
 have XI:Hid (Mid m2 m3 w w2):=λu u1 u2=>(f2.block u (by omega) (by omega) (by omega)).trans (K1.out.block u (by omega) (by omega))
 obtain ⟨oa,oc,rfl⟩:=o2.sl
 clear o2 h2 x2 f2 P0
 rcases HW.out with rfl | ⟨a,en,rfl,hEe,hde⟩
 ·have e1:wv = .pointer none:=HR.out.2
  subst e1
  go_wp2_with fail
  refine yG.mono ?_
  rintro e w3 ⟨rfl,rfl⟩
  go_wp2_with fail
  go_ret
  exact ⟨_,rfl,O2.out.wide hz1,H2.out,X2.out,HR2.out,((Fc.of K1.out).trans (F2.out.wide (aF _) (by omega))),HB2.out,XI.out⟩
 ·obtain ⟨b',v,p1,p2,rfl,hb1,hb2,hS,hAt,Ej,hre⟩:=HR2.out
  unfold Sub at hS
  have OA:=hAt.k0
  have MX:=hAt.k1
  have OD:=hid (rN (a:=a) hEe (HE2.out.part (by omega:lo<=p1) (by omega:p2<=hi)) (by simp;omega) hre hS.2.1 hAt.1 (by omega) (by omega) OA MX Ej)
  have HAt:=hid hAt
  have Uw:=hid Ej
  have H8:=hAt.1
  have HV:Hid (VB T (.clause a en) (lv::aC) c2=((Sp.ck T en (lv::aC) 0 c2).2.1.fit a [1,(Sp.ck T en (lv::aC) 0 c2).1.headD 0]).2/\(Sp.ck T (.clause a en) (lv::aC) 0 c2).2.2 = .clause a (Sp.ck T en (lv::aC) 0 c2).2.2):=⟨rfl,rfl⟩
  clear hAt Ej hre hEe OA MX
  go_wp2_with fail
  refine OD.out.mono ?_
  rintro e w3 ⟨rfl,h3,r3,f3⟩
  have H3:=hid h3
  have HR3:=hid r3
  have F3:=hid f3
  have O3:=hid (O2.out.fc f3 (by omega) (by omega))
  clear h3 r3 f3 OD
  go_wp2_with fail
  go_ret
  have hz3:=F3.out.size
  refine ⟨_,rfl,O3.out.wide hz1,by rw [HV.out.1];exact H3.out,X2.out.frame hz3 (λu u1 u2=>F3.out.block u (by omega) (by omega) (by omega)) (λblk off n c e=>F3.out.block blk (by have:=HX.out blk off n c e;omega) (by have:=HX.out blk off n c e;omega) (by have:=HX.out blk off n c e;omega)),?_,(((Fc.of K1.out).trans (F2.out.wide (aF _) (by omega))).trans (F3.out.wide (by omega) (by omega))),(F3.out.block b (by omega) (by omega) (by omega)).trans HB2.out,λu u1 u2=>(F3.out.block u (by omega) (by omega) (by omega)).trans (XI.out u u1 u2)⟩
  rw [HV.out.2]
  exact ⟨b',v,p1,p2,rfl,hb1,hb2,by unfold Sub;omega,HAt.out.same hz3 (F3.out.block b' H8 (by omega) (by omega)),Uw.out,HR3.out⟩
end Go.Proofs.YtgnncnhkgmhngaaGreatDoor
