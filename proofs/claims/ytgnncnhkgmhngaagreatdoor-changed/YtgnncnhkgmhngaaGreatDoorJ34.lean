import Derived.Test.YtgnncnhkgmhngaaGreatDoorJ33
set_option maxHeartbeats 4000000
set_option maxRecDepth 100000
namespace Go.Proofs.YtgnncnhkgmhngaaGreatDoor
open Sp
open Tryz
open Go.RowKit Go.Sort
def vG (T:List Sp.Tb) (t:Sp.Tb) (c0:CS) (sets:List (Nm×Nat×Nd)) (wh:Nd):CS×List (Nm×Nat×Nd)×Nd:=
 let q:=fQ T t [[(t.name,t)]] sets [] c0
 if q.2.2 then ((Sp.cond T wh [[(t.name,t)]] q.1).1,q.2.1,(Sp.cond T wh [[(t.name,t)]] q.1).2) else (q.1,q.2.1,wh)
theorem KP {T:List Sp.Tb} {t:Sp.Tb} {c0 c1:CS} {sets rs:List (Nm×Nat×Nd)} {wh:Nd} (h:fQ T t [[(t.name,t)]] sets [] c0=(c1,rs,false)):vG T t c0 sets wh=(c1,rs,wh):=by simp [vG,h]
theorem Ij {T:List Sp.Tb} {t:Sp.Tb} {c0 c1:CS} {sets rs:List (Nm×Nat×Nd)} {wh:Nd} (h:fQ T t [[(t.name,t)]] sets [] c0=(c1,rs,true)):vG T t c0 sets wh=((Sp.cond T wh [[(t.name,t)]] c1).1,rs,(Sp.cond T wh [[(t.name,t)]] c1).2):=by simp [vG,h]
theorem gG.len {T:List Sp.Tb} {t:Sp.Tb} {L:List Sp.Lv} {sets:List (Nm×Nat×Nd)} {c0:CS} {j:Nat} {rs:List (Nm×Nat×Nd)} {c:CS} (h:gG T t L sets c0 j rs c) (hj:j<=sets.length):(rs++sets.drop j).length=sets.length:=by
 rw [List.length_append,List.length_drop,h.1];omega
theorem vH {w w' : World} {g kc lo mid h0 n:Nat} {xs:List (List Value)} {rs:List (Nm×Nat×Nd)} (hl:rs.length=n) (hg1:lo<=g) (hg2:g<mid) (hh0:h0<=mid/\n<=kc) (hL:gX f7 w g rs xs lo h0) (hc:∀ j u,xs.flatten[j]?=some u->w.cell? ⟨g,j,none⟩=some u) (hs:w.heap.size<=w'.heap.size) (hk:∀ u,lo<=u->u<mid->w'.heap[u]?=w.heap[u]?):DE f7 w' rs lo mid (.slice (some ⟨g,0,none⟩) n kc):=
 ⟨g,kc,xs,h0,by rw [hl],hg1,hg2,⟨hh0.1,by rw [hl];exact hh0.2⟩,hL.frame (λn x m1 m2 h hk=>f7.frame hs n x m1 m2 h hk) (λu u1 u2 _=>hk u u1 (by omega)),λj u hj=>(dV (w:=w) (a:=⟨g,_,none⟩) (hk g hg1 hg2)).trans (hc j u hj)⟩
theorem Cy {T:List Sp.Tb} {N k cb lo hi mid q:Nat} {tv sl pv:Value} {c:CS} {w:World} {nm:Nm} {sets:List (Nm×Nat×Nd)} {wh:Nd} (hX:∀ x∈sets,sH T x.2.2/\1+x.2.2.dep<=100000/\wf N x.2.2 .expr) (hsl:sets.length<=90000) (hW:wh = .none\/∃ a e,wh = .clause a e/\sH T e/\1+e.dep<=100000)
  (hc:CB cb tv c w) (ht:sD k w T tv) (hkl:k<=lo) (DD:hi<=cb) (hm:lo<=mid/\mid<=q/\q<hi) (hA:At w q [.string (bz nm.1), .int .i64 (nm.2:Nat),sl,pv]) (hL:DE f7 w sets lo mid sl) (hpt:DX pv) (hR:Rp w wh mid q pv) :
  Calls prog 140 #[.pointer (some ⟨cb,0,none⟩), .pointer (some ⟨q,0,none⟩)] w λr w'=>r = .returned (.tuple #[])/\CB cb tv (vG T (aK T nm c).1 (aK T nm c).2 sets wh).1 w'/\DE f7 w' (vG T (aK T nm c).1 (aK T nm c).2 sets wh).2.1 lo mid sl/\Rp w' (vG T (aK T nm c).1 (aK T nm c).2 sets wh).2.2 mid q pv/\Fc cb lo q w w':=by
 have hcw:=hc.lt
 obtain ⟨g,kc,xs,h0,rfl,hg1,hg2,hh0,Ic,hcells⟩:=hL
 have b0:=hA.k0
 have b1:=hA.k1
 have b2:=hA.k2
 have b3:=hA.k3
 have pR:=hA.1
 have hle:=Ic.le
 have qJ:∀ x∈xs,x.length=4:=gX.lens (L:=4) (λn x m1 m2 h=>by obtain ⟨v,e,_⟩:=h;rw [e];rfl) Ic
 have ZF:=hid (DI.of (N:=N) (by omega:g<w.heap.size) Ic hcells (λx hx=>(hX x hx).2.2))
 obtain ⟨n,hn⟩:∃ n,n=sets.length:=⟨_,rfl⟩
 rw [<- hn] at b2 hsl hh0
 have HN:=hid hn
 have HC:=hid hc
 have HT:=hid ht
 have HX:=hid hX
 have HW:=hid hW
 have VW:=hid Ic
 have EP:=hid hcells
 have Qa:=hid qJ
 have HR:=hid hR
 have S4:Hid (b9 pv):=hpt.bC
 obtain ⟨pa,rfl⟩:=hpt
 obtain ⟨nw,na⟩:=nm
 simp only [] at b0 b1
 have eJ:=hid ht.2.1
 have Nb:=hid (iP hc ht (nw,na))
 generalize aK T (nw,na) c=TC at *
 obtain ⟨t,c0⟩:=TC
 simp only [] at Nb ⊢
 rw [<- hn]
 clear hc ht hX Ic hcells qJ hA hn hW hR
 have hmx:=mixed
 go_enter func140,ntmps140
 go_wp2_with fail
 refine Nb.out.mono ?_
 rintro e w1 ⟨tt,rfl,ht1,h1,k1⟩
 have K1:=hid k1
 have HT1:=hid ht1
 have H1:=hid h1
 obtain ⟨tn,iK,gK,iA,iF,iG,iH⟩:=tt
 have hz1:=k1.size
 have c2:=(k1.cell (p:=⟨q,2,none⟩) pR (by show q≠cb;omega)).trans b2
 have SX:q<w1.heap.size:=by omega
 clear ht1 h1 k1 Nb b0 b1
 rw [show oW ⟨tn,iK,gK,iA,iF,iG,iH⟩ = .agg #[.string tn, .slice iK gK iA, .slice iF iG iH] from rfl]
 have HB1:=hid (B3.new w1 (.string tn) (.slice iK gK iA) (.slice iF iG iH) 187)
 have G1:=hid ((Gr.refl w1).alloc (.cells #[.string tn, .slice iK gK iA, .slice iF iG iH] 187))
 have Qe:Hid (lW k (w1.alloc (.cells #[.string tn, .slice iK gK iA, .slice iF iG iH] 187)) t ⟨tn,iK,gK,iA,iF,iG,iH⟩):=HT1.out.low (cF eJ.out hz1) (Low.eA G1.out)
 have O0:=hid (uK k (cb+1) t ⟨tn,iK,gK,iA,iF,iG,iH⟩ (w1.alloc (.cells #[.string tn, .slice iK gK iA, .slice iF iG iH] 187)) (cF (cF eJ.out hz1) G1.out.size) (by have:=G1.out.size;omega) Qe.out)
 go_wp2_with fail
 refine O0.out.mono ?_
 rintro e w2 ⟨iv,rfl,s2,g2⟩
 obtain ⟨ia,rfl⟩:=s2.ptr
 have G2:=hid g2
 have K2:Hid (Kept cb w w2):=(K1.out.alloc _).trans (Kept.gr g2)
 have HS2:=hid s2
 have HB2:=hid (HB1.out.gr g2)
 have hz2:=g2.size
 have HT2:Hid (lW k w2 t ⟨tn,iK,gK,iA,iF,iG,iH⟩):=Qe.out.low (cF (cF eJ.out hz1) G1.out.size) (Low.eA g2)
 have H2:=hid ((H1.out.alloc (.cells #[.string tn, .slice iK gK iA, .slice iF iG iH] 187)).gr g2)
 have d2:=(K2.out.cell (p:=⟨q,2,none⟩) pR (by show q≠cb;omega)).trans b2
 have ZG:q<w2.heap.size:=by have:=K2.out.size;omega
 clear s2 g2 O0 c2 Qe HT1 H1 HB1
 obtain ⟨L,hL⟩:∃ L,L = [[(t.name,t)]]:=⟨_,rfl⟩
 have HL:=hid hL
 rw [<- hL] at HS2
 clear hL
 go_wp2_with fail
 go_loopw [22] (λi wr=>∃ (j:Nat) (c' : CS) (rs:List (Nm×Nat×Nd)),j<=n/\i = .int .i64 (j:Nat)/\Hid (gG T t L sets c0 j rs c')/\Hid (CB cb tv c' wr)/\Hid (gX f7 wr g (rs++sets.drop j) xs lo h0)/\Hid (Fc cb lo mid w wr)/\Hid (Sb g w wr)/\Hid (B3 wr w1.heap.size (.string tn) (.slice iK gK iA) (.slice iF iG iH))/\Hid (lW k wr t ⟨tn,iK,gK,iA,iF,iG,iH⟩)/\Hid (v8 k (cb+1) wr L (.pointer ia))) (λi _=>n - (intOf i).toNat)
 case atStart=>
  refine ⟨0,c0, [],eX _,rfl,gG.start _ _ _ _ _,H2,?_,Fc.of K2.out,K2.out.block g (by omega) (by omega),HB2,HT2,HS2⟩
  exact VW.out.frame (λn x m1 m2 h hk=>f7.frame K2.out.size n x m1 m2 h hk) (λu u1 u2 _=>K2.out.block u (by omega) (by omega))
 case round=>
  obtain ⟨j,c',rs,hj,rfl,Qf,tL,pA,HF,DF,HB4,uL,Jf⟩:=hrel
  have hwr:=HF.out.size
  have hq4:=HB4.out.lt
  have hkr:k<=wr.heap.size:=cF eJ.out hwr
  have r2:=(HF.out.cell (p:=⟨q,2,none⟩) pR (by show q≠cb;omega) (by show ¬ (lo<=q/\q<mid);omega)).trans b2
  have r3:=(HF.out.cell (p:=⟨q,3,none⟩) pR (by show q≠cb;omega) (by show ¬ (lo<=q/\q<mid);omega)).trans b3
  by_cases hlt:j<n
  ·have hjz:j<sets.length:=by have:=HN.out;omega
   have Ni:=hid (λhb=>by have h:=Qf.out.bad hjz hb;rw [HL.out] at h;exact KP (wh:=wh) h)
   have KQ:=hid (λhb=>Qf.out.good hjz hb)
   have Nj:=hid ((Qf.out.len (by omega)).trans HN.out.symm)
   have hrl:=Qf.out.1
   have S5:=hid pA.out
   have hx:=pA.out
   rw [lJ hjz] at hx
   obtain ⟨m1,m2,x,ex,l1,l2,l3,l4,⟨xv,rfl,hnx,hrx⟩,l6⟩:=gX.upd (λw' n x m1 m2 hs h hk=>f7.frame hs n x m1 m2 h hk) _ _ _ _ _ _ hx
   rw [hrl] at ex
   have Nc:=HX.out _ (hU hjz)
   obtain ⟨xt,xp,rfl⟩:=OZ hrx Nc.2.2
   have f0:=eK 4 xs Qa.out j 0 _ ex (by omega)
   have f1:=eK 4 xs Qa.out j 1 _ ex (by omega)
   have f2:=eK 4 xs Qa.out j 2 _ ex (by omega)
   have f3:=eK 4 xs Qa.out j 3 _ ex (by omega)
   have e0:=(dV (w:=w) (a:=⟨g,_,none⟩) DF.out).trans (EP.out _ _ f0)
   have e1:=(dV (w:=w) (a:=⟨g,_,none⟩) DF.out).trans (EP.out _ _ f1)
   have e2:=(dV (w:=w) (a:=⟨g,_,none⟩) DF.out).trans (EP.out _ _ f2)
   have e3:=(dV (w:=w) (a:=⟨g,_,none⟩) DF.out).trans (EP.out _ _ f3)
   rw [Nat.add_zero] at e0
   have Gf:=hid Nc
   have XY:=hid hrx
   have Jj:=hid l6
   have Qg:Hid (DI wr g ((sets.map λx=>x.1.1).take j)):=(ZF.out.take j).same hwr DF.out
   have V3:Hid (j=((sets.map λx=>x.1.1).take j).length):=by show _=_;rw [List.length_take,List.length_map];omega
   have Re:=hid (λ(cn:Nat) (h:cellOf sets[j].1.1 t.cols=(cn:Int))=>(by
    rcases iL sets[j].1.1 t.cols with h1 | h1
    ·omega
    ·have hl:cn<t.cols.length:=by omega
     exact ⟨hl,by rw [h];simp [tC hl]⟩:∃ hl:cn<t.cols.length,((t.cols[(cellOf sets[j].1.1 t.cols).toNat]?).map (·.2)).getD 0=t.cols[cn].2))
   clear f0 f1 f2 f3 hx ex Nc hrx l6 hnx hrl Qf
   generalize (sets.map λx=>x.1.1).take j=ns at Ni KQ Qg V3
   generalize hsj:sets[j]=sj at *
   have HSJ:=hid hsj
   clear hsj
   obtain ⟨⟨cw,ca⟩,ea,en⟩:=sj
   simp only [] at e0 e1 e2 e3 Gf XY Ni KQ Re Jj
   have XZ:Hid (∀ w',Gr wr w'->Calls prog 183 #[.string (bz cw), .slice (some ⟨g,0,none⟩) j kc] w' λe w''=>e = .returned (.bool (ns.any (λy=>y == cw)))/\Gr w' w''):=λw' gg=>by
    have h:=Ih g j kc ns (bz cw) w' V3.out (by omega) (Qg.out.gr gg)
    rw [cY] at h
    exact h
   have GX:=hid ((Gr.refl wr).alloc (.cells #[.string (bz cw), .int .i64 (ca:Nat), .int .i64 (ea:Nat), .iface xt (.pointer (some xp))] 249))
   have rF:=hid (iQ (uL.out.low hkr (Low.eA GX.out)) cw)
   generalize hce:cellOf cw t.cols=ce at *
   clear hce
   generalize ns.any (λy=>y == cw)=bb at *
   obtain ⟨bl,z0,z1,z2,z3,z4,z5⟩:=HB4.out
   go_wp2_with fail
   refine rF.out.mono ?_
   rintro e w5 ⟨rfl,g5⟩
   have G5:=hid (GX.out.trans g5)
   have eT:=hid ((Bk.new wr #[.string (bz cw), .int .i64 (ca:Nat), .int .i64 (ea:Nat), .iface xt (.pointer (some xp))] 249).below g5.below)
   have tG:=G5.out.size
   have Nf:=eT.out.lt
   have A0:Hid (∀ p:Addr,p.block<w5.heap.size->∀ m os,(grow (w5.drewN m) os).cell? p=w5.cell? p):=λp hp m os=>(bH m os).cell hp
   have s0:∀ m os,(grow (w5.drewN m) os).cell? ⟨wr.heap.size,0,none⟩=some (.string (bz cw)):=λm os=>(A0.out ⟨wr.heap.size,0,none⟩ Nf m os).trans (eT.out.c 0 (by simp))
   have y2:∀ m os,(grow (w5.drewN m) os).cell? ⟨q,2,none⟩=some (.slice (some ⟨g,0,none⟩) n kc):=λm os=>(A0.out ⟨q,2,none⟩ (by show q<_;omega) m os).trans ((G5.out.cell (p:=⟨q,2,none⟩) (by show q<_;omega)).trans r2)
   have O0:Hid (∀ m os,Calls prog 183 #[.string (bz cw), .slice (some ⟨g,0,none⟩) j kc] (grow (w5.drewN m) os) λe w''=>e = .returned (.bool bb)/\Gr (grow (w5.drewN m) os) w''):=λm os=>XZ.out _ (G5.out.trans (bH m os))
   clear g5 rF XZ A0 e0 e1 e2 e3 z0 z1 z2 z3 z4 z5 Qg V3
   have hjk:j<=kc:=by omega
   by_cases hce:ce<0
   ·have hd:decide (ce<0)=true:=by simpa using hce
    have HV:=hid (Ni.out (by rw [hd];rfl))
    go_wp2_with fail
    (refine wp_region_quiet_grown (by assumption) (by kernel_rfl) ?_;refine dG λmT eP=>?_)
    iterate 3 ((refine wpQuiet_step (λK hK=>?_);refine dX (bW (Hid.out eP) (by kernel_rfl)) ?_;go_simp;first | (refine hK _ ?_;clear hK K) | (apply Exists.intro;refine ⟨λ_=>?_,hK _ ?_⟩;(fail);clear hK K)))
    iterate 10 (refine wpQuiet_step (λK hK=>?_);refine kS (bW (Hid.out eP) (by kernel_rfl)) ?_;go_simp;refine hK _ ?_;clear hK K)
    (refine wpQuiet_step (λK hK=>?_);refine dX (bW (Hid.out eP) (by kernel_rfl)) ?_;go_simp;first | (refine hK _ ?_;clear hK K) | (apply Exists.intro;refine ⟨λ_=>?_,hK _ ?_⟩;(fail);clear hK K))
    (refine wpQuiet_nil ?_;intro _ hw';obtain ⟨⟨nq,osq⟩,hw''⟩:=hw';subst hw'';clear eP mT)
    have G6:Hid (Gr wr (grow (w5.drewN nq) osq)):=G5.out.trans (bH nq osq)
    have ZH:(grow (w5.drewN nq) osq).cell? ⟨wr.heap.size,1,none⟩=some (.int .i64 (ca:Nat)):=((bH nq osq).cell (p:=⟨wr.heap.size,1,none⟩) Nf).trans (eT.out.c 1 (by simp))
    have Qc:wr.heap.size<(grow (w5.drewN nq) osq).heap.size:=b6 Nf (bH nq osq).size
    clear s0 y2 O0
    generalize grow (w5.drewN nq) osq=w6 at *
    have V5:=hid (tL.out.gr G6.out)
    have x8:=G6.out.size
    go_wp2_with fail
    refine (cW V5.out 4 ca).mono ?_
    rintro e w7 ⟨rfl,h7,k7⟩
    have H7:=hid h7
    have K7:Hid (Kept cb wr w7):=(Kept.gr G6.out).trans k7
    clear h7 k7
    go_wp2_with fail
    (try simp only [Exit.inBlock,Exit.then]);refine cV (results_none rfl _ _ _) rfl ?_
    rw [HV.out]
    have BG:=K7.out.size
    refine ⟨rfl,H7.out,vH Nj.out hg1 hg2 hh0 S5.out (λu v hu=>(dV (w:=w) (a:=⟨g,_,none⟩) DF.out).trans (EP.out u v hu)) BG (λu u1 u2=>K7.out.block u (by omega) (by omega)),HR.out.frame (cF hwr BG) _ _ _ _ (λu u1 u2=>(K7.out.block u (by omega) (by omega)).trans (HF.out.block u (by omega) (by omega) (by omega))) (λ_ _ _ _ e=>absurd e (S4.out _ _ _)),(HF.out.wide (aF _) (by omega)).trans (Fc.of K7.out)⟩
   ·have hd:decide (ce<0)=false:=by simpa using hce
    cases bb
    ·go_wp2_with fail
     (refine wp_region_quiet_grown (by assumption) (by kernel_rfl) ?_;refine dG λmT eP=>?_)
     iterate 14 ((refine wpQuiet_step (λK hK=>?_);refine dX (bW (Hid.out eP) (by kernel_rfl)) ?_;go_simp;first | (refine hK _ ?_;clear hK K) | (apply Exists.intro;refine ⟨λ_=>?_,hK _ ?_⟩;(go_at_call 183;refine Calls.grown_of (O0.out _ _));clear hK K)))
     (refine wpQuiet_nil ?_;intro _ hw';obtain ⟨⟨nq,osq⟩,hw''⟩:=hw';subst hw'';clear eP mT)
     have G6:Hid (Gr wr (grow (w5.drewN nq) osq)):=G5.out.trans (bH nq osq)
     have Qc:wr.heap.size<(grow (w5.drewN nq) osq).heap.size:=b6 Nf (bH nq osq).size
     have UJ:(grow (w5.drewN nq) osq).cell? ⟨wr.heap.size,2,none⟩=some (.int .i64 (ea:Nat)):=((bH nq osq).cell (p:=⟨wr.heap.size,2,none⟩) Nf).trans (eT.out.c 2 (by simp))
     have V6:(grow (w5.drewN nq) osq).cell? ⟨wr.heap.size,3,none⟩=some (.iface xt (.pointer (some xp))):=((bH nq osq).cell (p:=⟨wr.heap.size,3,none⟩) Nf).trans (eT.out.c 3 (by simp))
     clear s0 y2 O0
     generalize grow (w5.drewN nq) osq=w6 at *
     obtain ⟨cn,rfl⟩:∃ cn:Nat,ce=(cn:Int):=⟨ce.toNat,by omega⟩
     have JT:=hid (KQ.out (by rw [hd];rfl))
     obtain ⟨hcl,hty⟩:=Re.out cn rfl
     rw [hty] at JT
     clear hty
     obtain ⟨qX,A8,e1,hck,hcols⟩:∃ b off,iK=some ⟨b,off,none⟩/\b<k/\oI wr b off (t.cols.map λx=>(bz x.1,x.2)):=by
      rcases uL.out.cols with ⟨e,_⟩ | ⟨b,off,h1,_,h3,h4⟩
      ·rw [e] at hcl;simp at hcl
      ·exact ⟨b,off,h1,h3,h4⟩
     have htl:gK=t.cols.length:=by
      rcases uL.out.cols with ⟨e,_,h,_⟩ | ⟨b,off,_,h,_⟩
      ·simp only [] at h;rw [h,e];rfl
      ·exact h
     have htn:gK<=50:=by rw [htl];exact uL.out.iI
     have hi2:cn<gK:=by rw [htl];exact hcl
     subst e1
     have y1:=(G6.out.cell (p:=⟨qX,A8+cn*2+1,none⟩) (by show qX<_;omega)).trans (hcols.t cn (by simpa using hcl))
     simp only [List.getElem_map] at y1
     clear htl hcols
     generalize t.cols[cn].2=ty at *
     obtain ⟨ZA,q0,q1,q2,q3,q4,q5⟩:=HB4.out.gr G6.out
     have x8:=G6.out.size
     have G7:=hid (G6.out.trans (Gr.refl w6).drew)
     have PZ:Hid (En T k cb (cb+1) tv c' L (.pointer ia) m1 m2 w6.drew):=⟨tL.out.gr G7.out,(HT.out.low (Low.uC HF.out (by omega) (by omega))).low (Low.eA G7.out),Jf.out.ou hkr (Ou.gr G7.out),by omega,by omega,by omega,by have:=G7.out.size;omega⟩
     have SY:=hid (Gf.out.1 k cb (cb+1) m1 m2 tv (.iface xt (.pointer (some xp))) (.pointer ia) c' L w6.drew PZ.out (by rw [HL.out];simpa using Gf.out.2.1) (Cu XY.out G7.out.size (λu u1 u2=>G7.out.below.block u (by omega))))
     generalize VX:Sp.ck T en L 0 c'=CK at *
     clear VX
     obtain ⟨R1,R2,R3⟩:=CK
     simp only [] at SY JT
     generalize R1.headD 0=xy at *
     have hne:wr.heap.size≠cb/\w1.heap.size≠cb/\qX≠cb/\¬ (m1<=wr.heap.size/\wr.heap.size<m2)/\¬ (m1<=w1.heap.size/\w1.heap.size<m2)/\¬ (m1<=qX/\qX<m2)/\qX<w6.heap.size/\w1.heap.size<w6.heap.size:=by omega
     go_wp2_with fail
     go_region_held3 (λw'=>w'.cell? ⟨wr.heap.size,2,none⟩=some (.int .i64 (ea:Nat))/\w'.cell? ⟨wr.heap.size,3,none⟩=some (.iface xt (.pointer (some xp)))/\w'.cell? ⟨w1.heap.size,1,none⟩=some (.slice (some ⟨qX,A8,none⟩) gK iA)/\w'.cell? ⟨qX,A8+cn*2+1,none⟩=some (.int .i64 ty)) (first | go_keep | exact ⟨UJ,V6,q1,y1⟩ | exact ⟨g1,g2,g3,g4⟩ | exact ⟨i1,i2,i3,i4⟩ | exact ⟨s1,s2,s3,s4⟩) (first | (go_at_call 182;refine SY.out.mono ?_;rintro e3 w3 ⟨rfl,h3,OC,f3⟩;have g1:=(f3.cell (p:=⟨wr.heap.size,2,none⟩) Qc hne.1 hne.2.2.2.1).trans UJ;have g2:=(f3.cell (p:=⟨wr.heap.size,3,none⟩) Qc hne.1 hne.2.2.2.1).trans V6;have g3:=(f3.cell (p:=⟨w1.heap.size,1,none⟩) hne.2.2.2.2.2.2.2 hne.2.1 hne.2.2.2.2.1).trans q1;have g4:=(f3.cell (p:=⟨qX,A8+cn*2+1,none⟩) hne.2.2.2.2.2.2.1 hne.2.2.1 hne.2.2.2.2.2.1).trans y1;have hz3:w6.heap.size<=w3.heap.size:=f3.size;have i1:=(((Gr.refl w3).alloc (.cells #[.int .i64 ty, .int .i64 xy] 3)).cell (p:=⟨wr.heap.size,2,none⟩) (b6 Qc hz3)).trans g1;have i2:=(((Gr.refl w3).alloc (.cells #[.int .i64 ty, .int .i64 xy] 3)).cell (p:=⟨wr.heap.size,3,none⟩) (b6 Qc hz3)).trans g2;have i3:=(((Gr.refl w3).alloc (.cells #[.int .i64 ty, .int .i64 xy] 3)).cell (p:=⟨w1.heap.size,1,none⟩) (b6 hne.2.2.2.2.2.2.2 hz3)).trans g3;have i4:=(((Gr.refl w3).alloc (.cells #[.int .i64 ty, .int .i64 xy] 3)).cell (p:=⟨qX,A8+cn*2+1,none⟩) (b6 hne.2.2.2.2.2.2.1 hz3)).trans g4) | (go_at_call 181;refine (eY (h3.alloc (.cells #[.int .i64 ty, .int .i64 xy] 3)) ea (vA w3 ty xy) (by simp)).mono ?_;rintro e4 w4 ⟨rfl,h4,k4⟩;have s1:=(k4.cell (p:=⟨wr.heap.size,2,none⟩) (by simp;omega) hne.1).trans i1;have s2:=(k4.cell (p:=⟨wr.heap.size,3,none⟩) (by simp;omega) hne.1).trans i2;have s3:=(k4.cell (p:=⟨w1.heap.size,1,none⟩) (by simp;omega) hne.2.1).trans i3;have s4:=(k4.cell (p:=⟨qX,A8+cn*2+1,none⟩) (by simp;omega) hne.2.2.1).trans i4))
     have B9:=((Kept.refl cb w3).alloc (.cells #[.int .i64 ty, .int .i64 xy] 3)).trans k4
     have F3:Hid (Fc cb m1 m2 wr w3):=(Fc.gr G7.out).trans f3
     have F4:Hid (Fc cb m1 m2 wr w4):=F3.out.trans (Fc.of B9)
     have tH:=F4.out.size
     have H4:=hid h4
     have HR4:Hid (f7 w4 ((cw,ca),ea,R3) [.string (bz cw), .int .i64 (ca:Int), .int .i64 (ea:Int), .iface xt (.pointer (some xp))] m1 m2):=⟨_,rfl,(λ_ _ _ e=>nomatch e),Cu OC B9.size (λu u1 u2=>B9.block u (by have:=F3.out.size;omega) (by omega))⟩
     have ZI:Hid (gX f7 w4 g ((rs ++ [((cw,ca),ea,R3)])++sets.drop (j+1)) xs lo h0):=by
      show gX _ _ _ _ _ _ _
      have E:=Jj.out w4 ((cw,ca),ea,R3) tH (λu u1 u2 u3 u4=>F4.out.block u (by omega) (by omega) u4) HR4.out
      simpa using E
     have Be:Hid (Fc cb lo mid w w4):=HF.out.trans (F4.out.wide l1 (by omega))
     have Ik:Hid (Sb g w w4):=(F4.out.block g (by omega) (by omega) l4).trans DF.out
     have oY:Hid (B3 w4 w1.heap.size (.string tn) (.slice (some ⟨qX,A8,none⟩) gK iA) (.slice iF iG iH)):=HB4.out.same tH (F4.out.block w1.heap.size hq4 (by omega) (by omega))
     have HT4:Hid (lW k w4 t ⟨tn,some ⟨qX,A8,none⟩,gK,iA,iF,iG,iH⟩):=uL.out.low hkr (Low.uC F4.out (by omega) (by omega))
     have ZJ:Hid (v8 k (cb+1) w4 L (.pointer ia)):=Jf.out.ou hkr (Ou.fc F4.out (by omega) (by omega) (by omega) (by omega))
     clear h4 k4 h3 OC f3 B9 g1 g2 g3 g4 i1 i2 i3 i4 s1 s2 s3 s4 UJ V6 q0 q1 q2 q3 q4 q5 y1
     go_wp2_with fail
     go_roundw
     case rel=>exact ⟨j+1,_,_,by omega,by go_num,JT,H4,ZI,Be,Ik,oY,HT4,ZJ⟩
     case measure=>simp [intOf];omega
    ·have HV:=hid (Ni.out (by rw [hd];rfl))
     go_wp2_with fail
     (refine wp_region_quiet_grown (by assumption) (by kernel_rfl) ?_;refine dG λmT eP=>?_)
     iterate 14 ((refine wpQuiet_step (λK hK=>?_);refine dX (bW (Hid.out eP) (by kernel_rfl)) ?_;go_simp;first | (refine hK _ ?_;clear hK K) | (apply Exists.intro;refine ⟨λ_=>?_,hK _ ?_⟩;(go_at_call 183;refine Calls.grown_of (O0.out _ _));clear hK K)))
     (refine wpQuiet_nil ?_;intro _ hw';obtain ⟨⟨nq,osq⟩,hw''⟩:=hw';subst hw'';clear eP mT)
     have G6:Hid (Gr wr (grow (w5.drewN nq) osq)):=G5.out.trans (bH nq osq)
     have ZH:(grow (w5.drewN nq) osq).cell? ⟨wr.heap.size,1,none⟩=some (.int .i64 (ca:Nat)):=((bH nq osq).cell (p:=⟨wr.heap.size,1,none⟩) Nf).trans (eT.out.c 1 (by simp))
     have Qc:wr.heap.size<(grow (w5.drewN nq) osq).heap.size:=b6 Nf (bH nq osq).size
     clear s0 y2 O0
     generalize grow (w5.drewN nq) osq=w6 at *
     have V5:=hid (tL.out.gr G6.out)
     have x8:=G6.out.size
     go_wp2_with fail
     refine (cW V5.out 4 ca).mono ?_
     rintro e w7 ⟨rfl,h7,k7⟩
     have H7:=hid h7
     have K7:Hid (Kept cb wr w7):=(Kept.gr G6.out).trans k7
     clear h7 k7
     go_wp2_with fail
     (try simp only [Exit.inBlock,Exit.then]);refine cV (results_none rfl _ _ _) rfl ?_
     rw [HV.out]
     have BG:=K7.out.size
     refine ⟨rfl,H7.out,vH Nj.out hg1 hg2 hh0 S5.out (λu v hu=>(dV (w:=w) (a:=⟨g,_,none⟩) DF.out).trans (EP.out u v hu)) BG (λu u1 u2=>K7.out.block u (by omega) (by omega)),HR.out.frame (cF hwr BG) _ _ _ _ (λu u1 u2=>(K7.out.block u (by omega) (by omega)).trans (HF.out.block u (by omega) (by omega) (by omega))) (λ_ _ _ _ e=>absurd e (S4.out _ _ _)),(HF.out.wide (aF _) (by omega)).trans (Fc.of K7.out)⟩
  ·have HV:=hid (Ij (wh:=wh) (HL.out ▸ Qf.out.end_ (by have:=HN.out;omega)))
   have hdr:sets.drop j = []:=Bn (by have:=HN.out;omega)
   rw [hdr,List.append_nil] at pA
   have hrl:rs.length=n:=by rw [Qf.out.1];have:=HN.out;omega
   have PZ:Hid (En T k cb (cb+1) tv c' L (.pointer ia) mid q wr):=⟨tL.out,HT.out.low (Low.uC HF.out (by omega) (by omega)),Jf.out,by omega,by omega,by omega,by omega⟩
   have OD:=hid (B7 (wh:=wh) (by rw [HL.out];exact HW.out) PZ.out (HR.out.frame hwr _ _ _ _ (λu u1 u2=>HF.out.block u (by omega) (by omega) (by omega)) (λ_ _ _ _ e=>absurd e (S4.out _ _ _))))
   have UR:=hid hrl
   clear hdr hrl
   go_wp2_with fail
   refine OD.out.mono ?_
   rintro e w6 ⟨rfl,h6,r6,f6⟩
   have H6:=hid h6
   have R6:=hid r6
   have F6:=hid f6
   clear h6 r6 f6 OD
   go_wp2_with fail
   go_end0
   rw [HV.out]
   have x8:=F6.out.size
   refine ⟨rfl,by rw [<- HL.out];exact H6.out,vH UR.out hg1 hg2 hh0 pA.out (λu v hu=>(dV (w:=w) (a:=⟨g,_,none⟩) DF.out).trans (EP.out u v hu)) x8 (λu u1 u2=>F6.out.block u (by omega) (by omega) (by omega)),by rw [<- HL.out];exact R6.out,(HF.out.wide (aF _) (by omega)).trans (F6.out.wide (by omega) (aF _))⟩
end Go.Proofs.YtgnncnhkgmhngaaGreatDoor
