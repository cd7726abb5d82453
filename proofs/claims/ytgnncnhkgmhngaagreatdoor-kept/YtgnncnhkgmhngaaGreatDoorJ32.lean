import Derived.Test.YtgnncnhkgmhngaaGreatDoorJ19
import Derived.Test.YtgnncnhkgmhngaaGreatDoorJ31
set_option maxHeartbeats 4000000
set_option maxRecDepth 100000
namespace Go.Proofs.YtgnncnhkgmhngaaGreatDoor
open Go.RowKit Go.Sort
theorem LsR.lens {α:Type} {P:World->α->List Value->Nat->Nat->Prop} {w:World} {g L:Nat} (hL:∀ n x m1 m2,P w n x m1 m2->x.length=L):∀ {ns:List α} {xs:List (List Value)} {lo hi:Nat},LsR P w g ns xs lo hi->∀ x∈xs,x.length=L
 | [], [],_,_,_,x,hx=>by simp at hx
 | _::_,_::_,_,_,h,x,hx=>by
  obtain ⟨m1,m2,_,hp,ht⟩:=h
  rw [List.mem_cons] at hx
  rcases hx with rfl | hx
  ·exact hL _ _ _ _ hp
  ·exact LsR.lens hL ht x hx
 | [],_::_,_,_,h,_,_=>h.elim
 | _::_, [],_,_,h,_,_=>h.elim
theorem LsR.upd {α:Type} {P:World->α->List Value->Nat->Nat->Prop} {w:World} {g:Nat} (hF:∀ w' n x m1 m2,w.heap.size<=w'.heap.size->P w n x m1 m2->(∀ k,m1<=k->k<m2->w'.heap[k]?=w.heap[k]?)->P w' n x m1 m2):∀ (a b:List α) (n:α) (xs:List (List Value)) (lo hi:Nat),LsR P w g (a++n::b) xs lo hi->∃ m1 m2 x,xs[a.length]?=some x/\lo<=m1/\m1<=m2/\m2<=hi/\¬ (m1<=g/\g<m2)/\P w n x m1 m2/\
  ∀ w' n',w.heap.size<=w'.heap.size->(∀ q,lo<=q->q<hi->q≠g->¬ (m1<=q/\q<m2)->w'.heap[q]?=w.heap[q]?)->P w' n' x m1 m2->LsR P w' g (a++n'::b) xs lo hi
 | [],b,n, [],lo,hi,h=>h.elim
 | [],b,n,x::xs,lo,hi,h=>by
  obtain ⟨m1,m2,hS,hp,ht⟩:=h
  have hS':=hS
  have hle:=ht.le
  unfold Sub at hS'
  refine ⟨m1,m2,x,rfl,by omega,by omega,by omega,by omega,hp,fun w' n' hs hk hp'=>⟨m1,m2,hS,hp',ht.frame (fun n x m1 m2 h1 h2=>hF w' n x m1 m2 hs h1 h2) fun q h1 h2 h3=>hk q (by omega) h2 h3 (by omega)⟩⟩
 | y::a,b,n, [],lo,hi,h=>h.elim
 | y::a,b,n,x::xs,lo,hi,h=>by
  obtain ⟨m1,m2,hS,hp,ht⟩:=h
  obtain ⟨p1,p2,u,e,l1,l2,l3,l4,l5,l6⟩:=LsR.upd hF a b n xs m2 hi ht
  have hS':=hS
  unfold Sub at hS'
  refine ⟨p1,p2,u,by simpa using e,by omega,l2,l3,l4,l5,fun w' n' hs hk hp'=>⟨m1,m2,hS,hF w' _ _ _ _ hs hp (fun q h1 h2=>hk q (by omega) (by omega) (by omega) (by omega)),l6 w' n' hs (fun q h1 h2 h3 h4=>hk q (by omega) h2 h3 h4) hp'⟩⟩
theorem flat_pos {β:Type} (L:Nat):∀ (xs:List (List β)) (_:∀ x∈xs,x.length=L) (j d:Nat) (x:List β),xs[j]?=some x->d<L->xs.flatten[j*L+d]?=x[d]?
 | [],_,j,d,x,h,_=>by simp at h
 | y::xs,hl,0,d,x,h,hd=>by
  simp at h;subst h
  have:=hl y (by simp)
  simp only [List.flatten_cons,Nat.zero_mul,Nat.zero_add]
  rw [List.getElem?_append_left (by omega)]
 | y::xs,hl,j+1,d,x,h,hd=>by
  have ih:=flat_pos L xs (fun z hz=>hl z (by simp [hz])) j d x (by simpa using h) hd
  have hy:=hl y (by simp)
  simp only [List.flatten_cons]
  rw [List.getElem?_append_right (by rw [hy,Nat.succ_mul];omega),<- ih]
  congr 1
  rw [hy,Nat.succ_mul];omega
theorem rowsC_snoc (T:List Sp.Tb) (t:Sp.Tb):∀ (l:List (Nat×Sp.Nd)) (x:Nat×Sp.Nd) (c:Sp.CS),Sp.rowsC T t (l ++ [x]) c=(Sp.fill t x.1 (Sp.ck T x.2 [] 0 (Sp.rowsC T t l c).1).1.dropLast (Sp.ck T x.2 [] 0 (Sp.rowsC T t l c).1).2.1,(Sp.rowsC T t l c).2 ++ [(x.1,(Sp.ck T x.2 [] 0 (Sp.rowsC T t l c).1).2.2)])
 | [],x,c=>rfl
 | (a,e)::l,x,c=>by
  have ih:=rowsC_snoc T t l x (Sp.fill t a (Sp.ck T e [] 0 c).1.dropLast (Sp.ck T e [] 0 c).2.1)
  simp only [List.cons_append,Sp.rowsC]
  rw [ih]
theorem rowsC_len (T:List Sp.Tb) (t:Sp.Tb):∀ (l:List (Nat×Sp.Nd)) (c:Sp.CS),(Sp.rowsC T t l c).2.length=l.length
 | [],_=>rfl
 | (a,e)::l,c=>by simp only [Sp.rowsC,List.length_cons,rowsC_len T t l]
theorem RowP.lenR {w:World} {n:Nat×Sp.Nd} {x:List Value} {m1 m2:Nat} (h:RowP w n x m1 m2):x.length=2:=by obtain ⟨v,e,_⟩:=h;rw [e];rfl
theorem nq_nil (w:World):Sem.run Tryz.prog (binOp BinOp.neq 179 .nilIface .nilIface) w = .ok (.bool false) w:=by kernel_rfl
theorem nq_sel (p:Value) (w:World):Sem.run Tryz.prog (binOp BinOp.neq 179 (.iface 278 p) .nilIface) w = .ok (.bool true) w:=by kernel_rfl
theorem nq_comb (p:Value) (w:World):Sem.run Tryz.prog (binOp BinOp.neq 179 (.iface 280 p) .nilIface) w = .ok (.bool true) w:=by kernel_rfl
theorem cinsertV_any {T:List Sp.Tb} {N k cb lo hi q a:Nat} {tv sl:Value} {c:Sp.CS} {w:World} {nm:Sp.Nm} {rows:List (Nat×Sp.Nd)} (hX:∀ x∈rows,ExsC T x.2/\x.2.dep<=100000/\Sp.wf N x.2 .list/\x.2.len<=90000) (hrl:rows.length<=90000)
  (hc:CB cb tv c w) (ht:Tbs k w T tv) (hkl:k<=lo) (hhc:hi<=cb) (hlq:lo<=q/\q<hi) (hA:At w q [.int .i64 (a:Nat), .string (bz nm.1), .int .i64 (nm.2:Nat),sl, .nilIface]) (hL:LsV RowP w rows (q+1) hi sl) :
  Calls Tryz.prog 137 #[.pointer (some ⟨cb,0,none⟩), .pointer (some ⟨q,0,none⟩)] w fun r w'=>r = .returned (.tuple #[])/\CB cb tv (Sp.rowsC T (Sp.tableC T nm c).1 rows (Sp.tableC T nm c).2).1 w'/\LsV RowP w' (Sp.rowsC T (Sp.tableC T nm c).1 rows (Sp.tableC T nm c).2).2 (q+1) hi sl/\Fc cb (q+1) hi w w':=by
 have hcw:=hc.lt
 obtain ⟨g,kc,xs,h0,rfl,hg1,hg2,hh0,hLs,hcells⟩:=hL
 have b1:=hA.k1
 have b2:=hA.k2
 have b3:=hA.k3
 have b4:=hA.k4
 have hqw:=hA.1
 have hle:=hLs.le
 have hlens:=LsR.lens (L:=2) (fun n x m1 m2 h=>RowP.lenR h) hLs
 obtain ⟨n,hn⟩:∃ n,n=rows.length:=⟨_,rfl⟩
 rw [<- hn] at b3 hrl
 have HN:=hid hn
 have HC:=hid hc
 have HT:=hid ht
 have HX:=hid hX
 have HLs:=hid hLs
 have HCe:=hid hcells
 have HLe:=hid hlens
 have HA:=hid hA
 obtain ⟨nw,na⟩:=nm
 simp only [] at b1 b2
 have hkw':=hid ht.2.1
 have HTC:=hid (ctable_any hc ht (nw,na))
 have u1:=nq_nil
 generalize Sp.tableC T (nw,na) c=TC at *
 obtain ⟨t,c0⟩:=TC
 simp only [] at HTC ⊢
 clear hc ht hX hLs hcells hlens hA hn
 go_enter Tryz.func137,Tryz.ntmps137
 go_wp2_with fail
 refine HTC.out.mono ?_
 rintro e w1 ⟨tt,rfl,ht1,h1,k1⟩
 have K1:=hid k1
 have HT1:=hid ht1
 have H1:=hid h1
 obtain ⟨tn,tca,tcl,tcc,tra,trl,trc⟩:=tt
 have hz1:=k1.size
 have c3:=(k1.cell (p:=⟨q,3,none⟩) hqw (by show q≠cb;omega)).trans b3
 have c4:=(k1.cell (p:=⟨q,4,none⟩) hqw (by show q≠cb;omega)).trans b4
 have hqw1:q<w1.heap.size:=by omega
 clear ht1 h1 k1 HTC b1 b2
 rw [show enT ⟨tn,tca,tcl,tcc,tra,trl,trc⟩ = .agg #[.string tn, .slice tca tcl tcc, .slice tra trl trc] from rfl]
 go_wp2_with fail
 go_loopw [18] (fun i wr=>∃ j:Nat,j<=n/\i = .int .i64 (j:Nat)/\Hid (CB cb tv (Sp.rowsC T t (rows.take j) c0).1 wr)/\Hid (LsR RowP wr g ((Sp.rowsC T t (rows.take j) c0).2++rows.drop j) xs (q+1) h0)/\Hid (Fc cb (q+1) hi w wr)/\Hid (Sb g w wr)/\Hid (B3 wr w1.heap.size (.string tn) (.slice tca tcl tcc) (.slice tra trl trc))/\Hid (Tb1 k wr t ⟨tn,tca,tcl,tcc,tra,trl,trc⟩)) (fun i _=>n - (intOf i).toNat)
 case atStart=>
  refine ⟨0,Nat.zero_le _,rfl,H1.out.alloc _,?_,(Fc.of (K1.out.alloc _)),?_,B3.new w1 _ _ _ _,HT1.out.low (Nat.le_trans hkw'.out hz1) (Low.of_gr ((Gr.refl w1).alloc _))⟩
  ·exact HLs.out.frame (fun n x m1 m2 h hk=>RowP.frame (Nat.le_trans hz1 (by simp)) n x m1 m2 h hk) fun u u1 u2 _=>(Below.heap_alloc _ _ _ (by omega)).trans (K1.out.block u (by omega) (by omega))
  ·exact (Below.heap_alloc _ _ _ (by omega)).trans (K1.out.block g (by omega) (by omega))
 case round=>
  obtain ⟨j,hj,rfl,HCr,HLr,HF,HBg,HB4,HTr⟩:=hrel
  have hwr:=HF.out.size
  have hq4:=HB4.out.lt
  by_cases hlt:j<n
  ·have hjz:j<rows.length:=by have:=HN.out;omega
   have HS:=hid (rowsC_snoc T t (rows.take j) rows[j] c0)
   rw [<- List.take_succ_eq_append_getElem hjz] at HS
   have hl2:=rowsC_len T t (rows.take j) c0
   rw [List.length_take,Nat.min_eq_left (by omega)] at hl2
   have hx:=HLr.out
   rw [List.drop_eq_getElem_cons hjz] at hx
   obtain ⟨m1,m2,x,ex,l1,l2,l3,l4,⟨xv,rfl,hrq⟩,l6⟩:=LsR.upd (fun w' n x m1 m2 hs h hk=>RowP.frame hs n x m1 m2 h hk) _ _ _ _ _ _ hx
   rw [hl2] at ex
   have f0:=flat_pos 2 xs HLe.out j 0 _ ex (by omega)
   have f1:=flat_pos 2 xs HLe.out j 1 _ ex (by omega)
   have e0:=(World.cell?_of_block (w:=w) (a:=⟨g,_,none⟩) HBg.out).trans (HCe.out _ _ f0)
   have e1:=(World.cell?_of_block (w:=w) (a:=⟨g,_,none⟩) HBg.out).trans (HCe.out _ _ f1)
   rw [Nat.add_zero] at e0
   have hXj:=HX.out _ (List.getElem_mem hjz)
   obtain ⟨xa,xn,xc,rfl⟩:=hrq.1.isSl hXj.2.2.1
   have HXj:=hid hXj
   have HRq:=hid hrq
   have HL6:=hid l6
   have HLen:=hid (fun c=>(ck_list_len T N rows[j].2 hXj.2.2.1 [] c).trans rfl)
   have hln:=hXj.2.2.2
   clear f0 f1 hx ex hl2 hXj hrq l6 HLr
   generalize Sp.rowsC T t (rows.take j) c0=R at *
   obtain ⟨R1,R2⟩:=R
   generalize rows[j]=rj at *
   obtain ⟨ra,re⟩:=rj
   simp only [] at e0 e1 HXj HRq HLen hln HS HCr HL6
   have hlen:=HLen.out R1
   have GX:=hid ((((Gr.refl wr).alloc (.cells #[.int .i64 (ra:Nat), .slice xa xn xc] 239)).drew))
   have hz6:=GX.out.size
   have HEn:Hid (En T k cb (cb+1) tv R1 [] (.pointer none) m1 m2 ((wr.alloc (.cells #[.int .i64 (ra:Nat), .slice xa xn xc] 239)).drew)):=
    ⟨HCr.out.gr GX.out,(HT.out.low (Low.of_fc HF.out (by omega) (by omega))).low (Low.of_gr GX.out),rfl,by omega,by omega,by omega,by omega⟩
   have HCx:=hid (HXj.out.1 k cb (cb+1) m1 m2 tv (.slice xa xn xc) (.pointer none) R1 [] _ HEn.out (by simpa using HXj.out.2.1) (HRq.out.1.gr GX.out (by omega) fun blk off n c e=>by have:=HRq.out.2 blk off n c e;omega) (fun blk off n c e=>by have:=HRq.out.2 blk off n c e;omega))
   generalize hCK:Sp.ck T re [] 0 R1=CK at *
   clear hCK
   obtain ⟨K1',K2',K3'⟩:=CK
   simp only [] at HCx HS hlen
   generalize K1'.dropLast=tys at *
   have hlb:tys.length<=90000:=by rw [hlen];exact hln
   clear hlen HLen
   obtain ⟨bl,z0,z1,z2,z3,z4,z5⟩:=HB4.out
   have q0:(wr.alloc (.cells #[.int .i64 (ra:Nat), .slice xa xn xc] 239)).cell? ⟨wr.heap.size,0,none⟩=some (.int .i64 (ra:Nat)):=by simp
   have q1:(wr.alloc (.cells #[.int .i64 (ra:Nat), .slice xa xn xc] 239)).cell? ⟨wr.heap.size,1,none⟩=some (.slice xa xn xc):=by simp
   have hq6:wr.heap.size<(wr.alloc (.cells #[.int .i64 (ra:Nat), .slice xa xn xc] 239)).heap.size:=by simp
   have y0:=(((Gr.refl wr).alloc (.cells #[.int .i64 (ra:Nat), .slice xa xn xc] 239)).cell (p:=⟨w1.heap.size,0,none⟩) hq4).trans z0
   have y1:=(((Gr.refl wr).alloc (.cells #[.int .i64 (ra:Nat), .slice xa xn xc] 239)).cell (p:=⟨w1.heap.size,1,none⟩) hq4).trans z1
   have y2:=(((Gr.refl wr).alloc (.cells #[.int .i64 (ra:Nat), .slice xa xn xc] 239)).cell (p:=⟨w1.heap.size,2,none⟩) hq4).trans z2
   go_wp2_with fail
   have hkr:k<=wr.heap.size:=Nat.le_trans hkw'.out hwr
   have hq4' : w1.heap.size<(wr.alloc (.cells #[.int .i64 (ra:Nat), .slice xa xn xc] 239)).heap.size:=by simp;omega
   have hqq:wr.heap.size≠cb/\w1.heap.size≠cb/\¬ (m1<=wr.heap.size/\wr.heap.size<m2)/\¬ (m1<=w1.heap.size/\w1.heap.size<m2):=by omega
   go_region_held3 (fun w'=>w'.cell? ⟨w1.heap.size,0,none⟩=some (.string tn)/\w'.cell? ⟨w1.heap.size,1,none⟩=some (.slice tca tcl tcc)/\w'.cell? ⟨w1.heap.size,2,none⟩=some (.slice tra trl trc)/\w'.cell? ⟨wr.heap.size,0,none⟩=some (.int .i64 (ra:Nat))/\w'.cell? ⟨wr.heap.size,1,none⟩=some (.slice xa xn xc)) (first | go_keep | exact ⟨y0,y1,y2,q0,q1⟩ | exact ⟨d0,d1,d2,d3,d4⟩ | exact ⟨s0,s1,s2,s3,s4⟩) (first | (go_at_call 180;refine HCx.out.mono ?_;rintro e2 w2 ⟨v2,rfl,o2,h2,r2,g2⟩;have d0:=(g2.cell (p:=⟨w1.heap.size,0,none⟩) hq4' hqq.2.1 hqq.2.2.2).trans y0;have d1:=(g2.cell (p:=⟨w1.heap.size,1,none⟩) hq4' hqq.2.1 hqq.2.2.2).trans y1;have d2:=(g2.cell (p:=⟨w1.heap.size,2,none⟩) hq4' hqq.2.1 hqq.2.2.2).trans y2;have d3:=(g2.cell (p:=⟨wr.heap.size,0,none⟩) hq6 hqq.1 hqq.2.2.1).trans q0;have d4:=(g2.cell (p:=⟨wr.heap.size,1,none⟩) hq6 hqq.1 hqq.2.2.1).trans q1;have hz2:(wr.alloc (.cells #[.int .i64 (ra:Nat), .slice xa xn xc] 239)).heap.size<=w2.heap.size:=g2.size;have hTb:=(HTr.out.low hkr (Low.of_gr GX.out)).low (Nat.le_trans hkr hz6) (Low.of_fc g2 (by omega) (by omega));obtain ⟨oa,oc,rfl⟩:=o2.sl) | (go_at_call 179;refine (fill_any (a:=ra) h2 (Nat.le_trans hkr (Nat.le_trans hz6 g2.size)) (by omega) hTb o2.si (fun b' o' n' c' e=>by have:=o2.fresh b' o' n' c' e;omega) (by omega)).mono ?_;rintro e3 w3 ⟨rfl,h3,k3⟩;have s0:=(k3.cell (p:=⟨w1.heap.size,0,none⟩) (Nat.lt_of_lt_of_le hq4' hz2) hqq.2.1).trans d0;have s1:=(k3.cell (p:=⟨w1.heap.size,1,none⟩) (Nat.lt_of_lt_of_le hq4' hz2) hqq.2.1).trans d1;have s2:=(k3.cell (p:=⟨w1.heap.size,2,none⟩) (Nat.lt_of_lt_of_le hq4' hz2) hqq.2.1).trans d2;have s3:=(k3.cell (p:=⟨wr.heap.size,0,none⟩) (Nat.lt_of_lt_of_le hq6 hz2) hqq.1).trans d3;have s4:=(k3.cell (p:=⟨wr.heap.size,1,none⟩) (Nat.lt_of_lt_of_le hq6 hz2) hqq.1).trans d4))
   have k3':=hid k3
   have F2:Hid (Fc cb m1 m2 wr w2):=(Fc.gr GX.out).trans g2
   have F3:Hid (Fc cb m1 m2 wr w3):=F2.out.trans (Fc.of k3)
   have hz3:=F3.out.size
   have HR3:Hid (RowP w3 (ra,K3') [.int .i64 (ra:Int), .slice xa xn xc] m1 m2):=⟨_,rfl,r2.frame k3.size _ _ _ _ (fun u _ u2=>k3.block u (by have:=F2.out.size;omega) (by omega)) (fun blk off n c e=>k3.block blk (by have:=HRq.out.2 blk off n c e;have:=F2.out.size;omega) (by have:=HRq.out.2 blk off n c e;omega)),HRq.out.2⟩
   have H3:=hid h3
   have HB3:Hid (B3 w3 w1.heap.size (.string tn) (.slice tca tcl tcc) (.slice tra trl trc)):=HB4.out.same hz3 (F3.out.block w1.heap.size hq4 (by omega) (by omega))
   have HT3:Hid (Tb1 k w3 t ⟨tn,tca,tcl,tcc,tra,trl,trc⟩):=HTr.out.low hkr (Low.of_fc F3.out (by omega) (by omega))
   have HL3:Hid (LsR RowP w3 g ((Sp.rowsC T t (rows.take (j+1)) c0).2++rows.drop (j+1)) xs (q+1) h0):=by
    show LsR _ _ _ _ _ _ _
    rw [HS.out]
    have E:=HL6.out w3 (ra,K3') hz3 (fun u u1 u2 u3 u4=>F3.out.block u (by omega) (by omega) u4) HR3.out
    simpa using E
   have HC3:Hid (CB cb tv (Sp.rowsC T t (rows.take (j+1)) c0).1 w3):=by show CB _ _ _ _;rw [HS.out];exact H3.out
   have HF3:Hid (Fc cb (q+1) hi w w3):=HF.out.trans (F3.out.wide l1 (by omega))
   have HG3:Hid (Sb g w w3):=(F3.out.block g (by omega) (by omega) l4).trans HBg.out
   clear h3 k3 h2 o2 r2 g2 hTb d0 d1 d2 d3 d4 s0 s1 s2 s3 s4 y0 y1 y2 q0 q1 z0 z1 z2 z3 z4 z5 e0 e1
   go_wp2_with fail
   go_roundw
   case rel=>exact ⟨j+1,by omega,by go_num,HC3,HL3,HF3,HG3,HB3,HT3⟩
   case measure=>simp [intOf];omega
  ·have hje:rows.take j=rows:=List.take_of_length_le (by have:=HN.out;omega)
   have hdr:rows.drop j = []:=List.drop_of_length_le (by have:=HN.out;omega)
   rw [hje] at HCr HLr
   rw [hdr,List.append_nil] at HLr
   have r4:=(HF.out.cell (p:=⟨q,4,none⟩) hqw (by show q≠cb;omega) (by show ¬ (q+1<=q/\q<hi);omega)).trans b4
   have hlen2:=rowsC_len T t rows c0
   clear hje hdr
   go_wp2_with fail
   go_end0
   refine ⟨rfl,HCr.out,⟨g,kc,xs,h0,?_,hg1,hg2,⟨hh0.1,by rw [hlen2];exact hh0.2⟩,HLr.out,fun u v hu=>(World.cell?_of_block (w:=w) (a:=⟨g,_,none⟩) HBg.out).trans (HCe.out u v hu)⟩,HF.out⟩
   rw [hlen2]
def colD (cols:List (Sp.Nm×Int)) (j:Nat):List (Sp.Bs×Int):=(cols.take j).map fun c=>(c.1.1,c.2)
theorem colD_step (cols:List (Sp.Nm×Int)) (j:Nat) (h:j<cols.length):colD cols (j+1)=colD cols j ++ [(cols[j].1.1,cols[j].2)]:=by
 unfold colD;rw [List.take_succ_eq_append_getElem h,List.map_append];rfl
theorem colD_len (cols:List (Sp.Nm×Int)) (j:Nat):(colD cols j).length<=j:=by unfold colD;rw [List.length_map,List.length_take];omega
theorem colsC_step (cols:List (Sp.Nm×Int)) (c:Sp.CS) (j:Nat) (h:j<cols.length):Sp.colsC (cols.drop j) (colD cols j) c=Sp.colsC (cols.drop (j+1)) (colD cols j ++ [(cols[j].1.1,cols[j].2)]) (if 0<=Sp.cellOf cols[j].1.1 (colD cols j) then c.fail 4 cols[j].1.2 else c):=by
 rw [List.drop_eq_getElem_cons h];rfl
def enC (c:Sp.Bs×Int):List Value := [.string (bz c.1), .int .i64 c.2]
def enCs (l:List (Sp.Bs×Int)):List Value:=l.flatMap enC
def OwC (base:Nat) (w:World) (v:Value) (l:List (Sp.Bs×Int)):Prop:=w.ownsRow base 264 2 v l.length (enCs l)
theorem OwC.nil (base:Nat) (w:World):OwC base w (.slice none 0 0) []:=World.ownsRow_nil _ _ _ _
theorem OwC.sl {base:Nat} {w:World} {v:Value} {l:List (Sp.Bs×Int)} (h:OwC base w v l):∃ a c,v = .slice a l.length c:=by
 obtain ⟨hl,h | ⟨g',cap,cur,hv,_⟩⟩:=h
 ·exact ⟨none,0,by rw [h.1,h.2]⟩
 ·exact ⟨_,_,hv⟩
theorem OwC.below {base:Nat} {w w' : World} {v:Value} {l:List (Sp.Bs×Int)} (h:OwC base w v l) (g:Below w.heap.size w w'):OwC base w' v l:=ownsV_below h g
theorem OwC.gr {base:Nat} {w w' : World} {v:Value} {l:List (Sp.Bs×Int)} (h:OwC base w v l) (g:Gr w w'):OwC base w' v l:=h.below g.below
theorem OwC.alloc {base:Nat} {w:World} {v:Value} {l:List (Sp.Bs×Int)} (h:OwC base w v l) (o:Obj):OwC base (w.alloc o) v l:=h.gr ((Gr.refl w).alloc o)
theorem OwC.kept {base cb:Nat} {w w' : World} {v:Value} {l:List (Sp.Bs×Int)} (h:OwC base w v l) (k:Kept cb w w') (hb:cb<base):OwC base w' v l:=by
 have hblk:=ownsV_block h
 obtain ⟨hl,h | ⟨g',cap,cur,hv,h0,hc,r⟩⟩:=h
 ·exact ⟨hl, .inl h⟩
 ·subst hv;exact ⟨hl, .inr ⟨g',cap,cur,rfl,h0,(k.block g' (hblk g' rfl).2 (by omega)).trans hc,r⟩⟩
theorem new2 (w:World) (x y:Value) (t:TypeId):∀ j u, [x,y][j]?=some u->(w.alloc (.cells #[x,y] t)).cell? (Addr.add ⟨w.heap.size,0,none⟩ j)=some u:=by
 intro j u hj
 rw [Addr.add_lit,Nat.zero_add,World.cell?_alloc_new,<- hj]
 match j with
 | 0=>rfl
 | 1=>rfl
 | j+2=>rfl
theorem two_one (x:ByteArray) (y:Int):∀ u∈([.string x, .int .i64 y]:List Value),u.oneCell'=true:=fun u hu=>by simp at hu;rcases hu with rfl | rfl <;> rfl
theorem enCs_snoc (l:List (Sp.Bs×Int)) (x:Sp.Bs×Int):enCs l ++ [.string (bz x.1), .int .i64 x.2]=enCs (l ++ [x]):=by simp [enCs,enC]
theorem enCs_at:∀ (l:List (Sp.Bs×Int)) (i d:Nat) (h:i<l.length) (_:d<2),(enCs l)[i*2+d]?=(enC l[i])[d]?
 | [],i,d,h,_=>by simp at h
 | p::l,0,d,_,hd=>by
  simp only [enCs,List.flatMap_cons,List.getElem_cons_zero,Nat.zero_mul,Nat.zero_add]
  rw [List.getElem?_append_left (by simp [enC];omega)]
 | p::l,i+1,d,h,hd=>by
  have ih:=enCs_at l i d (by simpa using h) hd
  simp only [enCs,List.flatMap_cons,List.getElem_cons_succ] at ih ⊢
  rw [List.getElem?_append_right (by simp [enC];omega),<- ih]
  congr 1
  simp [enC];omega
theorem OwC.tb {base:Nat} {w w' : World} {va:Option Addr} {n vc:Nat} {l:List (Sp.Bs×Int)} (h:OwC base w (.slice va n vc) l) (g:Gr w w') (hl:l.length<=50):Tb1 w'.heap.size w' ⟨[],l, []⟩ ⟨⟨#[]⟩,va,n,vc,none,0,0⟩:=by
 have hb:=ownsV_block h
 refine ⟨rfl,?_,hl,rfl, .inl ⟨rfl,rfl,rfl⟩,by simp⟩
 obtain ⟨hn,h | ⟨g',cap,cur,hv,h0,hc,r1,r2,r3,r4⟩⟩:=h
 ·left
  have:l = []:=List.eq_nil_of_length_eq_zero h.2
  subst this
  have h1:=h.1
  injection h1 with e1 e2 e3
  exact ⟨rfl,e1,e2,e3⟩
 ·right
  injection hv with e1 e2 e3
  subst e1 e2 e3
  have hlt:=(hb g' rfl).2
  refine ⟨g',0,rfl,rfl,Nat.lt_of_lt_of_le hlt g.size,Nat.lt_of_lt_of_le hlt g.size,fun j hj=>?_,fun j hj=>?_⟩
  ·have hj' : j<l.length:=by simpa using hj
   have e:=enCs_at l j 0 hj' (by omega)
   rw [<- r4,List.getElem?_take_of_lt (by omega)] at e
   rw [g.cell (p:=⟨g',_,none⟩) hlt]
   simp [World.cell?,hc]
   simpa [enC] using e
  ·have hj' : j<l.length:=by simpa using hj
   have e:=enCs_at l j 1 hj' (by omega)
   rw [<- r4,List.getElem?_take_of_lt (by omega)] at e
   rw [g.cell (p:=⟨g',_,none⟩) hlt]
   simp [World.cell?,hc]
   simpa [enC] using e
theorem tfind_both {k:Nat} {w:World} {T:List Sp.Tb} {v:Value} (h:Tbs k w T v) (x:Sp.Bs) :
  ∃ (tn:ByteArray) (ca:Option Addr) (cl cc:Nat) (ra:Option Addr) (rl rc:Nat),∀ w1,Gr w w1->Calls Tryz.prog 146 #[v, .string (bz x)] w1 fun e w'=>e = .returned (.tuple #[.agg #[.string tn, .slice ca cl cc, .slice ra rl rc], .bool (Sp.findTb x T).isSome])/\Gr w1 w':=by
 rcases tfind_any h x with ⟨e,F⟩ | ⟨t,⟨tn,ca,cl,cc,ra,rl,rc⟩,e,_,F⟩
 ·exact ⟨⟨#[]⟩,none,0,0,none,0,0,fun w1 g=>by rw [e];exact F w1 g⟩
 ·exact ⟨tn,ca,cl,cc,ra,rl,rc,fun w1 g=>by rw [e];exact F w1 g⟩
theorem B3.set1 {w:World} {b:Nat} {x y z:Value} (h:B3 w b x y z) (y' : Value):B3 (w.setCell ⟨b,1,none⟩ y') b x y' z:=by
 obtain ⟨lt,c0,c1,c2,f0,f1,f2⟩:=h
 refine ⟨by simpa [World.setCell] using lt,?_,?_,?_,?_,?_,?_⟩ <;> go_simp
theorem create_next {cb WQ L:Nat} {tv v v' : Value} {c:Sp.CS} {w w6 w7:World} {D:List (Sp.Bs×Int)} {cw:Sp.Bs} {cty:Int} (hW:w.heap.size<=WQ) (hcb:cb<w.heap.size) (hC:CB cb tv c w6) (hB:B3 w6 WQ (.string ⟨#[]⟩) v (.slice none 0 0)) (hO:OwC (WQ+1) w6 v D) (hK:Kept cb w w6) (hL:D.length=L)
  (hown:w7.ownsRow (WQ+1) 264 2 v' (L+1) (enCs D ++ [.string (bz cw), .int .i64 cty])) (hgrow:(w6.alloc (.cells #[.string (bz cw), .int .i64 cty] 264)).grownBy w7 v.ownBlock) :
  w7.cell? ⟨WQ,1,none⟩=some v/\w7.frozen? ⟨WQ,1,none⟩=false/\WQ<w7.heap.size/\(∃ va vc,v' = .slice va (L+1) vc)/\CB cb tv c (w7.setCell ⟨WQ,1,none⟩ v')/\OwC (WQ+1) (w7.setCell ⟨WQ,1,none⟩ v') v' (D ++ [(cw,cty)])/\B3 (w7.setCell ⟨WQ,1,none⟩ v') WQ (.string ⟨#[]⟩) v' (.slice none 0 0)/\Kept cb w (w7.setCell ⟨WQ,1,none⟩ v'):=by
 have hz:w6.heap.size<=w7.heap.size:=Nat.le_trans (by simp) hgrow.size
 have hbl:∀ u,u<=WQ->w7.heap[u]?=w6.heap[u]?:=fun u hu=>by
  have hu6:u<w6.heap.size:=by have:=hB.lt;omega
  refine (hgrow.block u (by simp;omega) (fun e=>?_)).trans (Below.heap_alloc w6 _ u hu6)
  have:=(ownsV_block hO u e.symm).1
  omega
 have hB7:=hB.same hz (hbl WQ (Nat.le_refl _))
 have hst:∀ u,u≠WQ->(w7.setCell ⟨WQ,1,none⟩ v').heap[u]?=w7.heap[u]?:=fun u hu=>Below.heap_setCell _ _ _ _ hu
 have hs8:(w7.setCell ⟨WQ,1,none⟩ v').heap.size=w7.heap.size:=by simp [World.setCell]
 have hO7:OwC (WQ+1) w7 v' (D ++ [(cw,cty)]):=by
  rw [show ([.string (bz cw), .int .i64 cty]:List Value) = [.string (bz (cw,cty).1), .int .i64 (cw,cty).2] from rfl,enCs_snoc] at hown
  simpa [OwC,hL] using hown
 have hsl:=hO7.sl
 rw [List.length_append,hL] at hsl
 refine ⟨hB7.c1,hB7.f1,hB7.lt,hsl,hC.same (by omega) ((hst cb (by omega)).trans (hbl cb (by omega))),?_,hB7.set1 _,?_⟩
 ·have hk:=ownsV_block hO7
  obtain ⟨hl,h | ⟨g',cap,cur,hv,h0,hc,r⟩⟩:=hO7
  ·exact ⟨hl, .inl h⟩
  ·refine ⟨hl, .inr ⟨g',cap,cur,hv,h0,(hst g' ?_).trans hc,r⟩⟩
   omega
 ·exact ⟨hgrow.os.trans hK.os,hgrow.tape.trans hK.tape,hgrow.output.trans hK.output,by have:=hK.size;omega,fun u hu hc=>(hst u (by omega)).trans ((hbl u (by omega)).trans (hK.block u hu hc))⟩
theorem infoCol:(Tryz.prog.info? 264).map (fun i=>(i.zero,i.size,i.bytes))=some (some (.agg #[.string ⟨#[]⟩, .int .i64 0]),2,24):=by kernel_rfl
theorem ClV.cells {w:World} {cols:List (Sp.Nm×Int)} {g:Nat} (h:∀ j u,(cols.flatMap colC)[j]?=some u->w.cell? ⟨g,j,none⟩=some u) (j:Nat) (hj:j<cols.length):w.cell? ⟨g,j*3,none⟩=some (.string (bz cols[j].1.1))/\w.cell? ⟨g,j*3+1,none⟩=some (.int .i64 (cols[j].1.2:Nat))/\w.cell? ⟨g,j*3+2,none⟩=some (.int .i64 cols[j].2):=by
 have key:∀ (l:List (Sp.Nm×Int)) (i d:Nat) (hi:i<l.length) (_:d<3),(l.flatMap colC)[i*3+d]?=(colC l[i])[d]?:=by
  intro l
  induction l with
  | nil=>intro i d hi;simp at hi
  | cons p l ih=>
   intro i d hi hd
   cases i with
   | zero=>
    simp only [List.flatMap_cons,List.getElem_cons_zero,Nat.zero_mul,Nat.zero_add]
    rw [List.getElem?_append_left (by simp [colC];omega)]
   | succ i=>
    have:=ih i d (by simpa using hi) hd
    simp only [List.flatMap_cons,List.getElem_cons_succ]
    rw [List.getElem?_append_right (by simp [colC];omega),<- this]
    congr 1
    simp [colC];omega
 exact ⟨h _ _ (by simpa [colC] using key cols j 0 hj (by omega)),h _ _ (by simpa [colC] using key cols j 1 hj (by omega)),h _ _ (by simpa [colC] using key cols j 2 hj (by omega))⟩
theorem ccreate_any {T:List Sp.Tb} {k cb lo hi q:Nat} {tv sl:Value} {c:Sp.CS} {w:World} {nm:Sp.Nm} {cols:List (Sp.Nm×Int)} (hc:CB cb tv c w) (ht:Tbs k w T tv) (_hkl:k<=lo) (hhc:hi<=cb) (hlq:lo<=q/\q<hi) (hA:At w q [.string (bz nm.1), .int .i64 (nm.2:Nat),sl]) (hL:ClV w cols lo hi sl) (hcl:cols.length<=50) :
  Calls Tryz.prog 135 #[.pointer (some ⟨cb,0,none⟩), .pointer (some ⟨q,0,none⟩)] w fun r w'=>r = .returned (.tuple #[])/\CB cb tv { Sp.colsC cols [] (match Sp.findTb nm.1 T with | some _=>c.fail 4 nm.2 | none=>c) with much:=decide (8<=T.length) } w'/\Kept cb w w':=by
 obtain ⟨i0,ji,jz0,jz1,jz2⟩:=info_parts infoCol
 have hcw:=hc.lt
 obtain ⟨g,kc,rfl,hg1,hg2,hcells⟩:=hL
 obtain ⟨nw,na⟩:=nm
 have b0:=hA.k0
 have b1:=hA.k1
 have b2:=hA.k2
 have hqw:=hA.1
 have hgw:g<w.heap.size:=by omega
 obtain ⟨tn,fca,fcl,fcc,fra,frl,frc,F⟩:=tfind_both ht nw
 have HF:=hid (fun w1 (g:Gr w w1)=>(F w1 g).mono fun e w' h=>(⟨h.1,h.2,g.trans h.2⟩:_/\Gr w1 w'/\Gr w w'))
 have HCe:=hid (fun j hj=>ClV.cells hcells j hj)
 have HC:=hid hc
 have HKC:=hid hcl
 obtain ⟨ta,tc,rfl⟩:∃ a c,tv = .slice a T.length c:=by
  rcases ht.2.2 with ⟨rfl,rfl⟩ | ⟨b,off,c,V,rfl,_⟩
  ·exact ⟨_,_,rfl⟩
  ·exact ⟨_,_,rfl⟩
 have hTl:=ht.1
 have c0:=hc.c0
 obtain ⟨n,hn⟩:∃ n,n=cols.length:=⟨_,rfl⟩
 have HN:=hid hn
 rw [<- hn] at b2 hcl
 obtain ⟨NT,hNT⟩:∃ NT,NT=T.length:=⟨_,rfl⟩
 rw [<- hNT] at hTl c0 HC HF ⊢
 clear hc ht hA hcells F hn hNT
 obtain ⟨kq,hkq⟩:∃ z,z=decide (8<=NT):=⟨_,rfl⟩
 rw [<- hkq]
 have HKQ:=hid hkq
 clear hkq
 obtain ⟨c1,hc1⟩:∃ z,z=(match Sp.findTb nw T with | some _=>c.fail 4 na | none=>c):=⟨_,rfl⟩
 simp only []
 rw [<- hc1]
 have HC1:Hid (c1=if (Sp.findTb nw T).isSome then c.fail 4 na else c):=by show _=_;rw [hc1];cases Sp.findTb nw T <;> rfl
 clear hc1
 generalize (Sp.findTb nw T).isSome=ok at *
 go_enter Tryz.func135,Tryz.ntmps135
 go_wp2_with fail
 go_region_held3 (fun w'=>w'.cell? ⟨cb,0,none⟩=some (.slice ta NT tc)/\w'.cell? ⟨q,0,none⟩=some (.string (bz nw))) (first | go_keep | exact ⟨c0,b0⟩ | exact ⟨y0,y1⟩ | (constructor <;> go_simp)) ((go_at_call 146;refine (HF.out _ (by repeat first | exact Gr.refl _ | apply Gr.alloc | apply Gr.drew | apply Gr.drewN)).mono ?_;rintro e w2 ⟨rfl,g2,gA⟩;have y0:=(gA.cell (p:=⟨cb,0,none⟩) hcw).trans c0;have y1:=(gA.cell (p:=⟨q,0,none⟩) hqw).trans b0;have hz2:=gA.size;have hqb:q<w2.heap.size:=Nat.lt_of_lt_of_le hqw hz2;try (have hB:B3 w2 w.heap.size (.string ⟨#[]⟩) (.slice none 0 0) (.slice none 0 0):=(by have h:=((B3.new w (.string ⟨#[]⟩) (.slice none 0 0) (.slice none 0 0) 187).gr (Gr.drew (Gr.refl _))).gr g2;simpa using h);obtain ⟨z0,z1,z2,z3,z4,z5,z6⟩:=hB)))
 all_goals
  first
   | (have HG:Hid (Gr w (((w2.setCell ⟨w.heap.size,0,none⟩ (.string tn)).setCell ⟨w.heap.size,1,none⟩ (.slice fca fcl fcc)).setCell ⟨w.heap.size,2,none⟩ (.slice fra frl frc))):=gA.set3 (Nat.le_refl _) _ _ _;rename_i hHeld;clear hHeld y0 y1 g2 gA HF c0 hqb hz2 z0 z1 z2 z3 z4 z5 z6;generalize ((w2.setCell ⟨w.heap.size,0,none⟩ (.string tn)).setCell ⟨w.heap.size,1,none⟩ (.slice fca fcl fcc)).setCell ⟨w.heap.size,2,none⟩ (.slice fra frl frc)=w3 at *)
   | (have HG:Hid (Gr w (w2.alloc (.cells #[.string tn, .slice fca fcl fcc, .slice fra frl frc] 187))):=gA.alloc _;rename_i hHeld;clear hHeld y0 y1 g2 gA HF c0 hqb hz2;generalize w2.alloc (.cells #[.string tn, .slice fca fcl fcc, .slice fra frl frc] 187)=w3 at *)
  have r1:=(HG.out.cell (p:=⟨q,1,none⟩) hqw).trans b1
  cases ok
  case' false=>
   have HE1:Hid (c1=c):=by rw [HC1.out];rfl
   have H4:Hid (CB cb (.slice ta NT tc) c1 w3):=by rw [HE1.out];exact HC.out.gr HG.out
   have K4:Hid (Kept cb w w3):=Kept.gr HG.out
   clear r1
  case' true=>
   have HE1:Hid (c1=c.fail 4 na):=by rw [HC1.out];rfl
   go_wp2_with fail
   refine (cfail_any (HC.out.gr HG.out) 4 na).mono ?_
   have HG3:=HG
   rintro e w3 ⟨rfl,h4,k4⟩
   have H4:Hid (CB cb (.slice ta NT tc) c1 w3):=by rw [HE1.out];exact h4
   have K4:Hid (Kept cb w w3):=(Kept.gr HG3.out).trans k4
   clear h4 k4 r1 HG HG3
  all_goals
   have hqw3:q<w3.heap.size:=by have:=K4.out.size;omega
   have hgw3:g<w3.heap.size:=by have:=K4.out.size;omega
   have r2:=(K4.out.cell (p:=⟨q,2,none⟩) hqw (by show q≠cb;omega)).trans b2
   go_wp2_with fail
   go_loopw [35] (fun i wr=>∃ (j:Nat) (c' : Sp.CS) (v:Value),j<=n/\i = .int .i64 (j:Nat)/\Hid (Sp.colsC cols [] c1=Sp.colsC (cols.drop j) (colD cols j) c')/\Hid (CB cb (.slice ta NT tc) c' wr)/\Hid (OwC (w3.heap.size+1) wr v (colD cols j))/\Hid (B3 wr w3.heap.size (.string ⟨#[]⟩) v (.slice none 0 0))/\Hid (Kept cb w wr)) (fun i _=>n - (intOf i).toNat)
   case atStart=>exact ⟨0,c1, .slice none 0 0,Nat.zero_le _,rfl,rfl,H4.out.alloc _,OwC.nil _ _,B3.new w3 _ _ _ _,K4.out.alloc _⟩
   case round=>
    obtain ⟨j,c',v,hj,rfl,HP,HCr,HO,HB,HK⟩:=hrel
    have hwr:=HK.out.size
    have hbr:=HB.out.lt
    by_cases hlt:j<n
    ·have hjz:j<cols.length:=by have:=HN.out;omega
     obtain ⟨x0,x1,x2⟩:=HCe.out j hjz
     have y0:=(HK.out.cell (p:=⟨g,j*3,none⟩) hgw (by show g≠cb;omega)).trans x0
     have y1:=(HK.out.cell (p:=⟨g,j*3+1,none⟩) hgw (by show g≠cb;omega)).trans x1
     have y2:=(HK.out.cell (p:=⟨g,j*3+2,none⟩) hgw (by show g≠cb;omega)).trans x2
     have HPn:=hid (HP.out.trans (colsC_step cols c' j hjz))
     have hD:=colD_len cols j
     have GX:=hid ((Gr.refl wr).alloc (.cells #[.string (bz cols[j].1.1), .int .i64 (cols[j].1.2:Nat), .int .i64 cols[j].2] 228))
     obtain ⟨va,vc,rfl⟩:=HO.out.sl
     have HCl:=hid (fun x=>tcellT_any (HO.out.tb GX.out (by omega)) x)
     clear x0 x1 x2 HP
     generalize hcj:cols[j]=cj at *
     obtain ⟨⟨cw,ca⟩,cty⟩:=cj
     have HCJ:=hid hcj
     clear hcj
     simp only [] at y0 y1 y2 HPn GX HCl
     obtain ⟨bl,z0,z1,z2,z3,z4,z5⟩:=HB.out
     have HCj:=hid (HCl.out cw)
     clear HCl
     generalize Sp.cellOf cw (colD cols j)=ce at *
     generalize hLn:(colD cols j).length=L at *
     have HLn:=hid hLn
     clear hLn
     go_wp2_with fail
     refine HCj.out.mono ?_
     rintro e w5 ⟨rfl,g5⟩
     have G5:=hid (GX.out.trans g5)
     have HX5:=hid ((Bk.new wr #[.string (bz cw), .int .i64 (ca:Nat), .int .i64 cty] 228).below g5.below)
     have hz5:=G5.out.size
     have x50:=HX5.out.k0
     have x51:=HX5.out.k1
     have x52:=HX5.out.k2
     have xl5:=HX5.out.lt
     obtain ⟨bl',z0',z1',z2',z3',z4',z5'⟩:=HB.out.gr G5.out
     have HC5:=hid (HCr.out.gr G5.out)
     have HO5:=hid (HO.out.gr G5.out)
     clear g5 HCj y0 y1 y2 z0 z1 z2 z3 z4 z5
     by_cases hce:0<=ce
     ·have HPm:=hid (HPn.out.trans (by rw [if_pos hce]))
      go_wp2_with fail
      refine (cfail_any HC5.out 4 ca).mono ?_
      rintro e w6 ⟨rfl,h6,k6⟩
      have H6:=hid h6
      have K6:=hid k6
      have hz6:=k6.size
      have HB6:=hid ((HB.out.gr G5.out).keptB k6 (by have:=K4.out.size;omega))
      have HO6:=hid (HO5.out.kept k6 (by have:=K4.out.size;omega))
      have HX6:=hid (HX5.out.kept k6 (by have:=K4.out.size;omega))
      have KK:=hid ((HK.out.trans (Kept.gr G5.out)).trans k6)
      have HOL:Hid (w6.ownsRow (w3.heap.size+1) 264 2 (.slice va L vc) L (enCs (colD cols j))):=by have h:=HO6.out;unfold OwC at h;rw [HLn.out] at h;exact h
      have x60:=HX6.out.k0
      have x62:=HX6.out.k2
      have xl6:=HX6.out.lt
      obtain ⟨bl6,p0,p1,p2,p3,p4,p5⟩:=HB6.out
      clear h6 k6 x50 x51 x52 z0' z1' z2' z3' z4' z5'
      have H3m:Hid (L+1<=maxLen):=by show _<=_;unfold maxLen;omega
      have H4m:Hid ((L+1)*24<=140737488355328):=by show _<=_;omega
      have H5m:Hid (w3.heap.size+1<=(w6.alloc (.cells #[.string (bz cw), .int .i64 cty] 264)).heap.size):=by show _<=_;simp;omega
      go_wp2_with (at_builtin;go_must (refine wpList_append_own _ rfl (.tmp 51) (.tmp 58) 185 rfl (w3.heap.size+1) 264 i0 (.agg #[.string ⟨#[]⟩, .int .i64 0]) 2 24 Tryz.underlying185 ji jz0 jz1 jz2 rfl (by decide) _ L _ rfl (HOL.out.alloc _) ⟨_,0,none⟩ 1 1 [.string (bz cw), .int .i64 cty] rfl rfl (new2 _ _ _ _) (two_one _ _) H3m.out H4m.out H5m.out ?_))
      intro v' w7 hown hgrow _
      obtain ⟨n1,n2,n3,⟨va',vc',rfl⟩,hnx⟩:=create_next (D:=colD cols j) (by have:=K4.out.size;omega) hcw H6.out HB6.out HO6.out KK.out HLn.out hown hgrow
      have HNX:=hid hnx
      clear hown hgrow hnx
      go_wp2_with fail
      go_roundw
      case rel=>exact ⟨j+1,_,_,by omega,by go_num,by rw [colD_step cols j hjz,HCJ.out];exact HPm.out,HNX.out.1,by rw [colD_step cols j hjz,HCJ.out];exact HNX.out.2.1,HNX.out.2.2.1,HNX.out.2.2.2⟩
      case measure=>simp [intOf];omega
     ·have HPm:=hid (HPn.out.trans (by rw [if_neg hce]))
      have HB5:=hid (HB.out.gr G5.out)
      have KK:=hid (HK.out.trans (Kept.gr G5.out))
      have HOL:Hid (w5.ownsRow (w3.heap.size+1) 264 2 (.slice va L vc) L (enCs (colD cols j))):=by have h:=HO5.out;unfold OwC at h;rw [HLn.out] at h;exact h
      have H3m:Hid (L+1<=maxLen):=by show _<=_;unfold maxLen;omega
      have H4m:Hid ((L+1)*24<=140737488355328):=by show _<=_;omega
      have H5m:Hid (w3.heap.size+1<=(w5.alloc (.cells #[.string (bz cw), .int .i64 cty] 264)).heap.size):=by show _<=_;simp;omega
      go_wp2_with (at_builtin;go_must (refine wpList_append_own _ rfl (.tmp 51) (.tmp 58) 185 rfl (w3.heap.size+1) 264 i0 (.agg #[.string ⟨#[]⟩, .int .i64 0]) 2 24 Tryz.underlying185 ji jz0 jz1 jz2 rfl (by decide) _ L _ rfl (HOL.out.alloc _) ⟨_,0,none⟩ 1 1 [.string (bz cw), .int .i64 cty] rfl rfl (new2 _ _ _ _) (two_one _ _) H3m.out H4m.out H5m.out ?_))
      intro v' w7 hown hgrow _
      obtain ⟨n1,n2,n3,⟨va',vc',rfl⟩,hnx⟩:=create_next (D:=colD cols j) (by have:=K4.out.size;omega) hcw HC5.out HB5.out HO5.out KK.out HLn.out hown hgrow
      have HNX:=hid hnx
      clear hown hgrow hnx
      go_wp2_with fail
      go_roundw
      case rel=>exact ⟨j+1,_,_,by omega,by go_num,by rw [colD_step cols j hjz,HCJ.out];exact HPm.out,HNX.out.1,by rw [colD_step cols j hjz,HCJ.out];exact HNX.out.2.1,HNX.out.2.2.1,HNX.out.2.2.2⟩
      case measure=>simp [intOf];omega
    ·have HPe:Hid (Sp.colsC cols [] c1=c'):=by show _=_;have:=HN.out;rw [HP.out,List.drop_eq_nil_of_le (by omega)];rfl
     have HCe:=HCr.out
     obtain ⟨lt,d0,d1,d2,d3,fz⟩:=HCr.out
     have f3:=fz 3
     have FZ:=hid fz
     clear fz HP HCe
     by_cases h8:8<=NT
     ·obtain rfl:kq=true:=by rw [HKQ.out];simpa using h8
      go_wp2_with fail
      go_end0
      refine ⟨rfl,?_,HK.out.trans ((Kept.refl cb wr).setCell 3 _)⟩
      rw [HPe.out]
      exact ⟨by simpa [World.setCell] using lt,by go_simp,by go_simp,by go_simp,(by go_simp;try omega),fun o=>by have:=FZ.out o;go_simp⟩
     ·obtain rfl:kq=false:=by rw [HKQ.out];simpa using h8
      go_wp2_with fail
      go_end0
      refine ⟨rfl,?_,HK.out.trans ((Kept.refl cb wr).setCell 3 _)⟩
      rw [HPe.out]
      exact ⟨by simpa [World.setCell] using lt,by go_simp,by go_simp,by go_simp,(by go_simp;try omega),fun o=>by have:=FZ.out o;go_simp⟩
end Go.Proofs.YtgnncnhkgmhngaaGreatDoor
