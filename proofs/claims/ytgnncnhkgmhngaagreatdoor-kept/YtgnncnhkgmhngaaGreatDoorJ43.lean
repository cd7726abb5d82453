import Derived.Test.YtgnncnhkgmhngaaGreatDoorJ42
set_option maxHeartbeats 4000000
set_option maxRecDepth 100000
namespace Go.Proofs.YtgnncnhkgmhngaaGreatDoor
open Go.RowKit Go.Sort
def wdF (T:List Sp.Tb) (l:List (Sp.Nm×Sp.Nm)):Nat:=(l.map fun s=>((Sp.findTb s.1.1 T).getD Sp.noTb).cols.length).sum
theorem wdF_snoc (T:List Sp.Tb) (l:List (Sp.Nm×Sp.Nm)) (x:Sp.Nm×Sp.Nm):wdF T (l ++ [x])=wdF T l+((Sp.findTb x.1.1 T).getD Sp.noTb).cols.length:=by simp [wdF]
theorem wdF_le {T:List Sp.Tb} (h:∀ t∈T,t.cols.length≤50) (l:List (Sp.Nm×Sp.Nm)):wdF T l≤50*l.length:=by
 induction l with
 | nil=>simp [wdF]
 | cons x l ih=>
  have h1:((Sp.findTb x.1.1 T).getD Sp.noTb).cols.length≤50:=by
   cases hf:Sp.findTb x.1.1 T with
   | none=>simp [Sp.noTb]
   | some t=>exact h t (Sp.findTb_mem hf)
  simp only [wdF,List.map_cons,List.sum_cons,List.length_cons] at ih ⊢
  omega
theorem run_neq_nil (w:World) (t e:TypeId) (a:Option Addr) (n c n' c' : Nat) (h:Tryz.prog.underlying t=some (.slice e)):(binOp .neq t (.slice a n c) (.slice none n' c')).run Tryz.prog w = .ok (.bool a.isSome) w:=by
 simp only [binOp]
 simp [Op.equal,Op.maxDepth,Lib.run_equalIn_slice_nil w 9999 t e a n c n' c' h]
theorem swidth_star {k sb st blk c:Nat} {T:List Sp.Tb} {src:List (Sp.Nm×Sp.Nm)} {di:Bool} {wv tv:Value} {w:World} (hs:At w sb [.bool di, .int .i64 (st:Int), .slice none 0 0, .slice (some ⟨blk,0,none⟩) src.length c,wv]) (ht:Tbs k w T tv) (hsr:Srcs w blk 0 src) (hb:blk<w.heap.size) (hm:src.length≤1000) (hf:∀ x∈src,(Sp.findTb x.1.1 T).isSome=true) (hTc:∀ t∈T,t.cols.length≤50) :
  Calls Tryz.prog 153 #[tv, .pointer (some ⟨sb,0,none⟩)] w fun e w'=>e = .returned (.int .i64 (wdF T src:Nat))∧RowKit.Below w.heap.size w w':=by
 have b2:=hs.k2
 have b3:=hs.k3
 have hbw:=hs.1
 have HT:=hid ht
 have HS:=hid hsr
 have HF:=hid hf
 have HTc:=hid hTc
 obtain ⟨ta,tn,tc0,rfl⟩:∃ a n c,tv = .slice a n c:=by
  rcases ht.2.2 with ⟨_,e⟩ | ⟨b,off,c,V,e,_⟩
  ·exact ⟨_,_,_,e⟩
  ·exact ⟨_,_,_,e⟩
 obtain ⟨n,hnn⟩:∃ n,n=src.length:=⟨_,rfl⟩
 have HN:=hid hnn
 rw [← hnn] at hm b3
 have hq:=fun (w' : World)=>run_neq_nil w' 237 _ none 0 0 0 0 Tryz.underlying237
 simp only [Option.isSome_none] at hq
 clear ht hsr hf hTc hnn hs
 go_enter Tryz.func153,Tryz.ntmps153
 go_wp2_with fail
 go_loopw [5,25] (fun v i wr=>∃ j:Nat,j≤n∧i = .int .i64 (j:Nat)∧v = .int .i64 (wdF T (src.take j):Nat)∧Hid (RowKit.Below w.heap.size w wr)) (fun _ i _=>n - (intOf i).toNat)
 case atStart=>exact ⟨0,Nat.zero_le _,rfl,rfl,Below.refl _ _⟩
 case round=>
  obtain ⟨j,hj,rfl,rfl,HB⟩:=hrel
  by_cases hlt:j<n
  ·have hjs:j<src.length:=by have:=HN.out;omega
   obtain ⟨q0,q1,q2,q3⟩:=Srcs.at_ src 0 j hjs HS.out
   have c0:=(HB.out.cell (p:=⟨blk,0+j*4,none⟩) hb).trans q0
   have c1:=(HB.out.cell (p:=⟨blk,0+j*4+1,none⟩) hb).trans q1
   have c2:=(HB.out.cell (p:=⟨blk,0+j*4+2,none⟩) hb).trans q2
   have c3:=(HB.out.cell (p:=⟨blk,0+j*4+3,none⟩) hb).trans q3
   rw [Nat.zero_add] at c0 c1 c2 c3
   clear q0 q1 q2 q3
   have HFj:=hid (HF.out _ (List.getElem_mem hjs))
   have HTk:=hid (congrArg (wdF T) (List.take_succ_eq_append_getElem hjs))
   rw [wdF_snoc] at HTk
   have hle:=wdF_le HTc.out (src.take j)
   have hlj:(src.take j).length≤1000:=by rw [List.length_take];omega
   obtain ⟨sx,hsx⟩:∃ sx,sx=src[j]:=⟨_,rfl⟩
   rw [← hsx] at c0 c1 c2 c3 HFj HTk
   clear hsx
   obtain ⟨⟨tw,ta'⟩,cw,ca⟩:=sx
   simp only [] at c0 c1 c2 c3 HFj HTk
   rcases tfind_low HT.out tw with ⟨e,_⟩ | ⟨t,V,e,hT1,F⟩
   ·have:=HFj.out;rw [e] at this;cases this
   rw [e,Option.getD_some] at HTk
   have hcl:V.cl=t.cols.length:=by
    rcases hT1.cols with ⟨e1,_,e2,_⟩ | ⟨b,off,_,e2,_⟩
    ·rw [e2,e1];rfl
    ·exact e2
   have hc50:=hT1.colN
   have HFd:=hid F
   clear e F hT1
   obtain ⟨vn,vca,vcl,vcc,vra,vrl,vrc⟩:=V
   simp only [] at hcl
   rw [← hcl] at HTk hc50
   clear hcl
   generalize wdF T (src.take j)=D at *
   have GA:=hid ((Gr.refl wr).alloc (.cells #[.string (bz tw), .int .i64 (ta' : Int), .string (bz cw), .int .i64 (ca:Int)] 337))
   have HLo:Hid (Low k w (wr.alloc (.cells #[.string (bz tw), .int .i64 (ta' : Int), .string (bz cw), .int .i64 (ca:Int)] 337))):=Low.of_bel (HB.out.trans (GA.out.below.mono HB.out.size))
   go_wp2_with fail
   refine (HFd.out _ HLo.out).mono ?_
   rintro e w2 ⟨rfl,g2⟩
   have HB2:Hid (RowKit.Below w.heap.size w w2):=HB.out.trans ((GA.out.trans g2).below.mono HB.out.size)
   have HB3:Hid (RowKit.Below w.heap.size w (w2.alloc (.cells #[.string vn, .slice vca vcl vcc, .slice vra vrl vrc] 187))):=HB2.out.alloc HB2.out.size _
   clear g2 c0 c1 c2 c3
   go_wp2_with fail
   go_roundw
   case rel=>exact ⟨j+1,by omega,by go_num,by rw [HTk.out];go_num,HB3⟩
   case measure=>simp [intOf];omega
  ·obtain rfl:j=n:=by omega
   have HE:Hid (wdF T (src.take j)=wdF T src):=by show _=_;rw [HN.out,List.take_length]
   clear hlt
   go_wp2_with fail
   go_ret
   exact ⟨by rw [← HE.out];rfl,HB.out⟩
theorem swidth_exprs {sb st g off n cap:Nat} {di:Bool} {fv wv:Value} {ta:Option Addr} {tn tc:Nat} {w:World} (hs:At w sb [.bool di, .int .i64 (st:Int), .slice (some ⟨g,off,none⟩) n cap,fv,wv]) :
  Calls Tryz.prog 153 #[.slice ta tn tc, .pointer (some ⟨sb,0,none⟩)] w fun e w'=>e = .returned (.int .i64 (n:Nat))∧RowKit.Below w.heap.size w w':=by
 have b2:=hs.k2
 have hbw:=hs.1
 have hq:=fun (w' : World)=>run_neq_nil w' 237 _ (some ⟨g,off,none⟩) n cap 0 0 Tryz.underlying237
 simp only [Option.isSome_some] at hq
 clear hs
 go_enter Tryz.func153,Tryz.ntmps153
 go_wp2_with fail
 go_ret
 exact ⟨rfl,Below.refl _ _⟩
theorem width_sel {b:Nat} {ta:Option Addr} {tn tc:Nat} {z:Int} {w:World} (hC:Calls Tryz.prog 153 #[.slice ta tn tc, .pointer (some ⟨b,0,none⟩)] w fun r w'=>r = .returned (.int .i64 z)∧RowKit.Below w.heap.size w w') :
  Calls Tryz.prog 92 #[.slice ta tn tc, .iface 278 (.pointer (some ⟨b,0,none⟩))] w fun r w'=>r = .returned (.int .i64 z)∧RowKit.Below w.heap.size w w':=by
 have HC:=hid hC
 have t1:=ta_rs
 clear hC
 go_enter Tryz.func92,Tryz.ntmps92
 go_wp2_with fail
 refine HC.out.mono ?_
 rintro e w1 ⟨rfl,h⟩
 have H:=hid h
 clear h
 go_wp2_with fail
 exact bodyPost_ret (v := .int .i64 z) (by simp [results,Tryz.results92,go_sem]) rfl ⟨rfl,H.out⟩
abbrev res0 (w:World):World:=w.alloc (.cells #[.int .i64 0, .int .i64 0, .int .i64 0, .slice none 0 0, .int .i64 0] 56)
abbrev resW (w:World) (q:Nat) (a b c:Int) (v:Value) (d:Int):World:=((((w.setCell ⟨q,0,none⟩ (.int .i64 a)).setCell ⟨q,1,none⟩ (.int .i64 b)).setCell ⟨q,2,none⟩ (.int .i64 c)).setCell ⟨q,3,none⟩ v).setCell ⟨q,4,none⟩ (.int .i64 d)
theorem rs_insert {q:Nat} {ta:Option Addr} {tn tc:Nat} {w:World} {P:Value→Int→Int→Int→Value→Int→World→Prop} (hC:Calls Tryz.prog 89 #[.slice ta tn tc, .pointer (some ⟨q,0,none⟩)] (res0 w) fun r w'=>∃ va vn vc e a d ra rn rc c,r = .returned (.tuple #[.slice va vn vc,enRes e a d (.slice ra rn rc) c])∧P (.slice va vn vc) e a d (.slice ra rn rc) c w'∧RowKit.Below (res0 w).heap.size (res0 w) w') :
  Calls Tryz.prog 52 #[.slice ta tn tc, .iface 169 (.pointer (some ⟨q,0,none⟩))] w fun r w'=>∃ va vn vc e a d ra rn rc c w1,r = .returned (.tuple #[.slice va vn vc,enRes e a d (.slice ra rn rc) c])∧P (.slice va vn vc) e a d (.slice ra rn rc) c w1∧RowKit.Below (res0 w).heap.size (res0 w) w1∧w'=resW w1 w.heap.size e a d (.slice ra rn rc) c:=by
 have HC:=hid hC
 have t0:=ts_Insert_Create
 have t1:=ts_Insert_Drop
 have t2:=ts_Insert_Insert
 clear hC
 go_enter Tryz.func52,Tryz.ntmps52
 go_wp2_with fail
 refine HC.out.mono ?_
 rintro x w1 ⟨va,vn,vc,e,a,d,ra,rn,rc,c,rfl,hP,hb⟩
 have HP:=hid hP
 have HB:=hid hb
 have HR:Hid (Bk w1 w.heap.size [.int .i64 0, .int .i64 0, .int .i64 0, .slice none 0 0, .int .i64 0]):=(Bk.new w #[.int .i64 0, .int .i64 0, .int .i64 0, .slice none 0 0, .int .i64 0] 56).below hb
 obtain ⟨⟨k0,k1,k2,k3,k4⟩,f0,f1,f2,f3,f4⟩:=HR.out.five
 clear hP hb
 go_wp2_with fail
 exact bodyPost_ret (v := .tuple #[.slice va vn vc,enRes e a d (.slice ra rn rc) c]) (by simp [results,Tryz.results52,go_sem,k0,k1,k2,k3,k4]) rfl ⟨va,vn,vc,e,a,d,ra,rn,rc,c,w1,rfl,HP.out,HB.out,rfl⟩
theorem rs_remove {q:Nat} {ta:Option Addr} {tn tc:Nat} {w:World} {P:Value→Int→Int→Int→Value→Int→World→Prop} (hC:Calls Tryz.prog 90 #[.slice ta tn tc, .pointer (some ⟨q,0,none⟩)] (res0 w) fun r w'=>∃ va vn vc e a d ra rn rc c,r = .returned (.tuple #[.slice va vn vc,enRes e a d (.slice ra rn rc) c])∧P (.slice va vn vc) e a d (.slice ra rn rc) c w'∧RowKit.Below (res0 w).heap.size (res0 w) w') :
  Calls Tryz.prog 52 #[.slice ta tn tc, .iface 171 (.pointer (some ⟨q,0,none⟩))] w fun r w'=>∃ va vn vc e a d ra rn rc c w1,r = .returned (.tuple #[.slice va vn vc,enRes e a d (.slice ra rn rc) c])∧P (.slice va vn vc) e a d (.slice ra rn rc) c w1∧RowKit.Below (res0 w).heap.size (res0 w) w1∧w'=resW w1 w.heap.size e a d (.slice ra rn rc) c:=by
 have HC:=hid hC
 have t0:=ts_Delete_Create
 have t1:=ts_Delete_Drop
 have t2:=ts_Delete_Insert
 have t3:=ts_Delete_Delete
 clear hC
 go_enter Tryz.func52,Tryz.ntmps52
 go_wp2_with fail
 refine HC.out.mono ?_
 rintro x w1 ⟨va,vn,vc,e,a,d,ra,rn,rc,c,rfl,hP,hb⟩
 have HP:=hid hP
 have HB:=hid hb
 have HR:Hid (Bk w1 w.heap.size [.int .i64 0, .int .i64 0, .int .i64 0, .slice none 0 0, .int .i64 0]):=(Bk.new w #[.int .i64 0, .int .i64 0, .int .i64 0, .slice none 0 0, .int .i64 0] 56).below hb
 obtain ⟨⟨k0,k1,k2,k3,k4⟩,f0,f1,f2,f3,f4⟩:=HR.out.five
 clear hP hb
 go_wp2_with fail
 exact bodyPost_ret (v := .tuple #[.slice va vn vc,enRes e a d (.slice ra rn rc) c]) (by simp [results,Tryz.results52,go_sem,k0,k1,k2,k3,k4]) rfl ⟨va,vn,vc,e,a,d,ra,rn,rc,c,w1,rfl,HP.out,HB.out,rfl⟩
theorem CrV.bel {w w' : World} {nm:Sp.Nm} {ns:List (Sp.Nm×Int)} {lo hi:Nat} {v:Value} (h:CrV w nm ns lo hi v) (g:RowKit.Below w.heap.size w w') (hh:hi≤w.heap.size):CrV w' nm ns lo hi v:=by
 obtain ⟨q,sl,e,a,b,hA,hC⟩:=h
 exact ⟨q,sl,e,a,b,hA.same g.size (g.block q hA.1),hC.frame fun k _ h2=>g.block k (by omega)⟩
theorem TbsC.resW {C:Nat→Prop} {w w1:World} {T:List Sp.Tb} {tv:Value} {a b c d:Int} {v:Value} (hC:∀ j,w.heap.size≤j→C j) (h:TbsC (fun b=>(C b∧b<w.heap.size)∨w.heap.size+1≤b) w1 T tv):TbsC C (Go.Proofs.YtgnncnhkgmhngaaGreatDoor.resW w1 w.heap.size a b c v d) T tv:=by
 refine (h.blk (by simp [World.setCell]) fun b hb _=>heap_set5 (show b≠w.heap.size by rcases hb with hb | hb <;> omega) _ _ _ _ _).to fun b hb _=>?_
 rcases hb with hb | hb
 ·exact hb.1
 ·exact hC b (by omega)
theorem rs_create {C:Nat→Prop} {nm:Sp.Nm} {ns:List (Sp.Nm×Int)} {lo hi q:Nat} {T:List Sp.Tb} {tv:Value} {w:World} (hC:∀ j,w.heap.size≤j→C j) (ht:TbsC C w T tv) (hV:CrV w nm ns lo hi (.pointer (some ⟨q,0,none⟩))) (hh:hi≤w.heap.size) (hn:ns.length≤50) (hs:(bz nm.1).size≤100000) (hs2:∀ x∈ns,(bz x.1.1).size≤100000) (hTl:T.length≤800) :
  Calls Tryz.prog 52 #[tv, .iface 160 (.pointer (some ⟨q,0,none⟩))] w fun r w'=>∃ v,r = .returned v∧(∃ tv',v = .tuple #[tv',enRes 0 0 0 (.slice none 0 0) 0]∧TbsC C w' (Sp.withT ⟨nm.1,ns.map fun x=>(x.1.1,x.2), []⟩ T) tv')∧RowKit.Below w.heap.size w w':=by
 obtain ⟨ta,tn,tc,rfl⟩:=ht.sl
 have HC:=hid hC
 have G0:=hid ((Gr.refl w).alloc (.cells #[.int .i64 0, .int .i64 0, .int .i64 0, .slice none 0 0, .int .i64 0] 56))
 have hz0:(res0 w).heap.size=w.heap.size+1:=by simp [res0]
 have HT:Hid (TbsC (fun b=>(C b∧b<w.heap.size)∨w.heap.size+1≤b) (res0 w) T (.slice ta tn tc)):=(ht.to fun b h1 h2 => .inl ⟨h1,h2⟩).bel G0.out.below
 have HN:=hid (newTable_any (C:=fun b=>(C b∧b<w.heap.size)∨w.heap.size+1≤b) (w:=res0 w) (fun j hj => .inr (by omega)) (hV.bel G0.out.below hh) (by omega) hn hs hs2)
 have t0:=ts_Create_Create
 clear ht hV hC hs2
 go_enter Tryz.func52,Tryz.ntmps52
 go_wp2_with fail
 refine HN.out.mono ?_
 rintro x w1 ⟨v1,rfl,⟨V1,rfl,hV1⟩,b1⟩
 have HB1:=hid b1
 obtain ⟨VL,hVL,hAL,hLL⟩:=(HT.out.bel b1).ltv
 have hLT:VL.length=T.length:=hAL.len.symm
 have HWi:=hid (twith_any (t:=V1) hVL (by omega))
 have HV1:=hid hV1
 have HAL:=hid hAL
 clear hV1 b1 hVL hAL HN
 go_wp2_with fail
 refine HWi.out.mono ?_
 rintro x w2 ⟨v2,rfl,o2,b2⟩
 have hz1:=HB1.out.size
 have HTF:=hid (with_tbs (fun j hj => .inr (by omega)) HAL.out HV1.out o2 b2 (by omega))
 have HB2:Hid (RowKit.Below (res0 w).heap.size (res0 w) w2):=HB1.out.trans (b2.mono HB1.out.size)
 have HR:Hid (Bk w2 w.heap.size [.int .i64 0, .int .i64 0, .int .i64 0, .slice none 0 0, .int .i64 0]):=(Bk.new w #[.int .i64 0, .int .i64 0, .int .i64 0, .slice none 0 0, .int .i64 0] 56).below HB2.out
 obtain ⟨⟨k0,k1,k2,k3,k4⟩,f0,f1,f2,f3,f4⟩:=HR.out.five
 obtain ⟨va,vc,rfl⟩:=o2.sl
 clear o2 b2 HWi
 go_wp2_with fail
 refine bodyPost_ret (v := .tuple #[_,enRes 0 0 0 (.slice none 0 0) 0]) (by simp [results,Tryz.results52,go_sem,k0,k1,k2,k3,k4]) rfl ⟨_,rfl,⟨_,rfl,TbsC.resW HC.out HTF.out⟩,?_⟩
 exact below_set5 (G0.out.below.trans (HB2.out.mono G0.out.size)) (Nat.le_refl _) _ _ _ _ _
theorem ts_sel (v:Option Addr) (w:World):Sem.run Tryz.prog (Instr.typeAssert (.iface 278 (.pointer v)) 90 179 true) w = .ok (.tuple #[.iface 278 (.pointer v), .bool true]) w:=ts_Select_Query v w
theorem rs_select {q:Nat} {ta:Option Addr} {tn tc:Nat} {z:Int} {P:Value→World→Prop} {w:World}
  (hW:∀ W,RowKit.Below w.heap.size w W→Calls Tryz.prog 92 #[.slice ta tn tc, .iface 278 (.pointer (some ⟨q,0,none⟩))] W fun r w'=>r = .returned (.int .i64 z)∧RowKit.Below W.heap.size W w')
  (hQ:∀ W iv,RowKit.Below w.heap.size w W→w.heap.size<W.heap.size→Arn W (.slice ta tn tc) [] iv→Calls Tryz.prog 93 #[.iface 278 (.pointer (some ⟨q,0,none⟩)),iv] W fun r w'=>∃ a n c,r = .returned (.slice a n c)∧P (.slice a n c) w'∧RowKit.Below W.heap.size W w') :
  Calls Tryz.prog 52 #[.slice ta tn tc, .iface 278 (.pointer (some ⟨q,0,none⟩))] w fun r w'=>∃ a n c w1,r = .returned (.tuple #[.slice ta tn tc,enRes 0 0 z (.slice a n c) 0])∧P (.slice a n c) w1∧RowKit.Below (res0 w).heap.size (res0 w) w1∧w'=resW w1 w.heap.size 0 0 z (.slice a n c) 0:=by
 have G0:=hid ((Gr.refl w).alloc (.cells #[.int .i64 0, .int .i64 0, .int .i64 0, .slice none 0 0, .int .i64 0] 56))
 have HW:=hid hW
 have HQ:=hid hQ
 have t0:=ts_Select_Create
 have t1:=ts_Select_Drop
 have t2:=ts_Select_Insert
 have t3:=ts_Select_Delete
 have t4:=ts_Select_Update
 have t5:=ts_Select_Query
 clear hW hQ
 go_enter Tryz.func52,Tryz.ntmps52
 go_wp2_with fail
 refine (HW.out _ G0.out.below).mono ?_
 rintro x w1 ⟨rfl,b1⟩
 have HB1:=hid b1
 have HBw1:Hid (RowKit.Below w.heap.size w w1):=G0.out.below.trans (b1.mono G0.out.size)
 clear b1
 go_wp2_with fail
 refine (nothing_any ta tn tc w1).mono ?_
 rintro x w2 ⟨v2,rfl,ar2,g2⟩
 obtain ⟨nb,rfl,hnb,_⟩:=ar2.ptr
 have HBw2:Hid (RowKit.Below w.heap.size w w2):=HBw1.out.trans (g2.below.mono HBw1.out.size)
 have HB2:Hid (RowKit.Below (res0 w).heap.size (res0 w) w2):=HB1.out.trans (g2.below.mono HB1.out.size)
 have HQ2:=hid (HQ.out w2 _ HBw2.out (by have:=HB2.out.size;simp [res0] at this;omega) ar2)
 clear ar2 g2
 go_wp2_with fail
 refine HQ2.out.mono ?_
 rintro x w3 ⟨a,n,c,rfl,hP,b3⟩
 have HP:=hid hP
 have HB3:Hid (RowKit.Below (res0 w).heap.size (res0 w) w3):=HB2.out.trans (b3.mono HB2.out.size)
 have HR:Hid (Bk w3 w.heap.size [.int .i64 0, .int .i64 0, .int .i64 0, .slice none 0 0, .int .i64 0]):=(Bk.new w #[.int .i64 0, .int .i64 0, .int .i64 0, .slice none 0 0, .int .i64 0] 56).below HB3.out
 obtain ⟨⟨k0,k1,k2,k3,k4⟩,f0,f1,f2,f3,f4⟩:=HR.out.five
 clear hP b3 HQ2
 go_wp2_with fail
 exact bodyPost_ret (v := .tuple #[.slice ta tn tc,enRes 0 0 z (.slice a n c) 0]) (by simp [results,Tryz.results52,go_sem,k0,k1,k2,k3,k4]) rfl ⟨a,n,c,w3,rfl,HP.out,HB3.out,rfl⟩
theorem do_any {bb:Nat} {ta:Option Addr} {tn tc:Nat} {t:TypeId} {p:Option Addr} {P:World→Value→Int→Int→Int→Value→Int→World→Prop} {w:World}
  (htx:∀ w' : World,Sem.run Tryz.prog (Instr.typeAssert (.iface t (.pointer p)) 90 122 true) w' = .ok (.tuple #[.pointer none, .bool false]) w')
  (hbb:Bk w bb [.slice ta tn tc, .bool false, .slice none 0 0])
  (hC:Calls Tryz.prog 51 #[.slice ta tn tc, .iface t (.pointer p)] (res0 w) fun r w1=>r = .returned (.tuple #[.int .i64 0, .int .i64 0])∧Bk w1 bb [.slice ta tn tc, .bool false, .slice none 0 0]∧Bk w1 w.heap.size [.int .i64 0, .int .i64 0, .int .i64 0, .slice none 0 0, .int .i64 0]∧
   (Calls Tryz.prog 52 #[.slice ta tn tc, .iface t (.pointer p)] (res0 w1) fun r w3=>∃ va vn vc e a d ra rn rc c,r = .returned (.tuple #[.slice va vn vc,enRes e a d (.slice ra rn rc) c])∧P w1 (.slice va vn vc) e a d (.slice ra rn rc) c w3∧RowKit.Below (res0 w1).heap.size (res0 w1) w3)) :
  Calls Tryz.prog 38 #[.pointer (some ⟨bb,0,none⟩), .iface t (.pointer p)] w fun r w'=>∃ va vn vc e a d ra rn rc c w1 w3,r = .returned (enRes e a d (.slice ra rn rc) c)∧P w1 (.slice va vn vc) e a d (.slice ra rn rc) c w3∧w.heap.size<w1.heap.size∧RowKit.Below (res0 w1).heap.size (res0 w1) w3∧
   w'=resW (resW (w3.setCell ⟨bb,0,none⟩ (.slice va vn vc)) w1.heap.size e a d (.slice ra rn rc) c) w.heap.size e a d (.slice ra rn rc) c:=by
 have c0:=hbb.k0
 have hlt:=hbb.lt
 have HC:=hid hC
 have t0:=htx
 have HN:bb≠w.heap.size:=by omega
 have HN' : w.heap.size≠bb:=by omega
 clear hC
 go_enter Tryz.func38,Tryz.ntmps38
 go_wp2_with fail
 refine HC.out.mono ?_
 rintro x w1 ⟨rfl,hb1,hr1,h3⟩
 have HB1:=hid hb1
 have HR1:=hid hr1
 have H3:=hid h3
 have HB2:=hid (hb1.alloc (.cells #[.int .i64 0, .int .i64 0, .int .i64 0, .slice none 0 0, .int .i64 0] 56))
 have HR2:=hid (hr1.alloc (.cells #[.int .i64 0, .int .i64 0, .int .i64 0, .slice none 0 0, .int .i64 0] 56))
 have hlt1:=hb1.lt
 have hlr1:=hr1.lt
 have d0:=HB2.out.k0
 clear hb1 hr1 h3 HC c0
 go_wp2_with fail
 refine H3.out.mono ?_
 rintro x w3 ⟨va,vn,vc,e,a,d,ra,rn,rc,c,rfl,hP,b3⟩
 have HP:=hid hP
 have HB3:=hid b3
 have HR:=hid (HR2.out.below b3)
 have HBB:=hid (HB2.out.below b3)
 have HS:Hid (Bk w3 w1.heap.size [.int .i64 0, .int .i64 0, .int .i64 0, .slice none 0 0, .int .i64 0]):=(Bk.new w1 #[.int .i64 0, .int .i64 0, .int .i64 0, .slice none 0 0, .int .i64 0] 56).below b3
 obtain ⟨⟨k0,k1,k2,k3,k4⟩,f0,f1,f2,f3,f4⟩:=HR.out.five
 obtain ⟨⟨j0,j1,j2,j3,j4⟩,h0,h1,h2,h3,h4⟩:=HS.out.five
 have n1:bb≠w1.heap.size:=by omega
 have n2:w1.heap.size≠bb:=by omega
 have n3:w.heap.size≠w1.heap.size:=by omega
 have n4:w1.heap.size≠w.heap.size:=by omega
 have g0:=HBB.out.k0
 have gf:=HBB.out.f 0
 clear hP b3 H3
 go_wp2_with fail
 exact bodyPost_ret (v:=enRes e a d (.slice ra rn rc) c) (by simp [results,Tryz.results38,go_sem,enRes, *]) rfl ⟨va,vn,vc,e,a,d,ra,rn,rc,c,w1,w3,rfl,HP.out,hlr1,HB3.out,rfl⟩
theorem sc_os (w:World) (a:Addr) (v:Value):(w.setCell a v).os=w.os:=rfl
theorem sc_tape (w:World) (a:Addr) (v:Value):(w.setCell a v).tape=w.tape:=rfl
theorem sc_output (w:World) (a:Addr) (v:Value):(w.setCell a v).output=w.output:=rfl
theorem al_os (w:World) (o:Obj):(w.alloc o).os=w.os:=rfl
theorem al_tape (w:World) (o:Obj):(w.alloc o).tape=w.tape:=rfl
theorem al_output (w:World) (o:Obj):(w.alloc o).output=w.output:=rfl
def BasB (w:World) (bb:Nat) (tv:Value):Prop:=w.heap[bb]?=some (.cells #[tv, .bool false, .slice none 0 0] 115 (0,0))
structure Bas (bb:Nat) (w:World) (T:List Sp.Tb) (tv:Value):Prop where
 blk:BasB w bb tv
 tbs:TbsC (·≠bb) w T tv
theorem BasB.lt {w:World} {bb:Nat} {tv:Value} (h:BasB w bb tv):bb<w.heap.size:=(Array.getElem?_eq_some_iff.1 h).1
theorem BasB.bk {w:World} {bb:Nat} {tv:Value} (h:BasB w bb tv):Bk w bb [tv, .bool false, .slice none 0 0]:=by
 have e:w.heap[bb]?=_:=h
 refine ⟨h.lt,fun j hj=>?_,fun j=>?_⟩
 ·match j,hj with
  | 0,_=>simp [World.cell?,e]
  | 1,_=>simp [World.cell?,e]
  | 2,_=>simp [World.cell?,e]
 ·simp [World.frozen?,e]
theorem BasB.set {w:World} {bb:Nat} {tv:Value} (h:BasB w bb tv) (tv' : Value):BasB (w.setCell ⟨bb,0,none⟩ tv') bb tv':=by
 obtain ⟨hlt,hk⟩:=Array.getElem?_eq_some_iff.1 h
 show (w.heap.modify bb _)[bb]?=_
 rw [Array.getElem?_eq_getElem (by rw [Array.size_modify];exact hlt),Array.getElem_modify_self,hk]
 rfl
def NoS (w:World) (q:Nat):Prop:=∀ o s,w.cell? ⟨q,o,none⟩≠some (.string s)
theorem BasB.noS {w:World} {bb:Nat} {ta:Option Addr} {tn tc:Nat} (h:BasB w bb (.slice ta tn tc)):NoS w bb:=by
 intro o s e
 have hb:w.heap[bb]?=_:=h
 simp only [World.cell?,hb] at e
 match o,e with
 | 0,e=>simp at e
 | 1,e=>simp at e
 | 2,e=>simp at e
 | o+3,e=>simp at e
theorem res_noS {w:World} {q:Nat} {t:TypeId} (h:w.heap[q]?=some (.cells #[.int .i64 0, .int .i64 0, .int .i64 0, .slice none 0 0, .int .i64 0] t (0,0))):NoS w q:=by
 intro o s e
 simp only [World.cell?,h] at e
 match o,e with
 | 0,e=>simp at e
 | 1,e=>simp at e
 | 2,e=>simp at e
 | 3,e=>simp at e
 | 4,e=>simp at e
 | o+5,e=>simp at e
theorem Hv.noS {A B:World} {Q:Nat→Prop} {b off:Nat} {r:List Sv.Val} (h:Hv A b off r) (hq:∀ q,Q q→NoS A q) (hs:A.heap.size≤B.heap.size) (hb:∀ j,j<A.heap.size→¬ Q j→B.heap[j]?=A.heap[j]?):Hv B b off r:=by
 by_cases e:Q b
 ·have hr:r = []:=by
   cases r with
   | nil=>rfl
   | cons x l=>exact absurd (h.s 0 (by simp)) (hq b e _ _)
  subst hr
  exact ⟨Nat.lt_of_lt_of_le h.lb hs,fun j hj=>by simp at hj,fun j hj=>by simp at hj,fun j hj=>by simp at hj⟩
 ·exact h.blk hs (hb b h.lb e)
theorem RsO.noS {base k:Nat} {A B:World} {Q:Nat→Prop} {v:Value} {rows:List (List Sv.Val)} (h:RsO base k A v rows) (hq:∀ q,Q q→NoS A q) (hqb:∀ q,Q q→q<base) (hs:A.heap.size≤B.heap.size) (hb:∀ j,j<A.heap.size→¬ Q j→B.heap[j]?=A.heap[j]?):RsO base k B v rows:=by
 rcases h with h | ⟨blk,c,e,h1,h2,hr⟩
 ·exact .inl h
 ·have eb:=hb blk h2 (fun hx=>by have:=hqb blk hx;omega)
  refine .inr ⟨blk,c,e,h1,by omega,fun j hj=>?_⟩
  obtain ⟨u,p1,p2,p3,p4⟩:=hr j hj
  refine ⟨u,(World.cell?_of_block (w:=A) (a:=⟨blk,0+j,none⟩) eb).trans p1,(World.frozen?_of_block (w:=A) (a:=⟨blk,0+j,none⟩) eb).trans p2,?_,p4⟩
  rcases p3 with p3 | ⟨b,o,c,e,hne,hv⟩
  ·exact .inl p3
  ·exact .inr ⟨b,o,c,e,hne,hv.noS hq hs hb⟩
def Ran (D:Nat→Prop) (bb:Nat) (w:World) (T' : List Sp.Tb) (wd:Nat) (e a d c:Int) (rows:List (List Sv.Val)) (r:Ending) (w' : World):Prop:=
 ∃ rv tv',r = .returned (enRes e a d rv c)∧(BasB w' bb tv'∧TbsC D w' T' tv')∧RsO w.heap.size wd w' rv rows∧Kept bb w w'
def Runs (T:List Sp.Tb) (s:Sp.Stm) (T' : List Sp.Tb) (wd:Nat) (e a d c:Int) (rows:List (List Sv.Val)):Prop:=
 ∀ (C:Nat→Prop) (W:World) (tv v:Value) (lo hi:Nat),(∀ j,W.heap.size≤j→C j)→TbsC C W T tv→StV W s lo hi v→hi≤W.heap.size→
  Calls Tryz.prog 52 #[tv,v] W fun r w3=>∃ va vn vc ra rn rc,r = .returned (.tuple #[.slice va vn vc,enRes e a d (.slice ra rn rc) c])∧(TbsC C w3 T' (.slice va vn vc)∧RsO W.heap.size wd w3 (.slice ra rn rc) rows)∧RowKit.Below W.heap.size W w3
theorem do_ok {bb lo hi:Nat} {T T' : List Sp.Tb} {s:Sp.Stm} {wd:Nat} {e a d c:Int} {rows:List (List Sv.Val)} {tv v:Value} {wE w:World} {D:Nat→Prop} (hD:∀ j,w.heap.size≤j→D j) (hDb:¬ D bb) (hbb:BasB wE bb tv) (hbt:TbsC D wE T tv) (hE:RowKit.Below wE.heap.size wE w) (hV:StV w s lo hi v) (hlo:wE.heap.size≤lo) (hh:hi≤w.heap.size)
  (hs:Sp.okS 90000 s) (hnt:∀ z,s ≠ .trans z) (hck:(Sp.check T s).1.out=(0,0)) (htx:∀ w' : World,Sem.run Tryz.prog (Instr.typeAssert v 90 122 true) w' = .ok (.tuple #[.pointer none, .bool false]) w')
  (hR:Runs T (Sp.check T s).2 T' wd e a d c rows) :
  Calls Tryz.prog 38 #[.pointer (some ⟨bb,0,none⟩),v] w fun r w'=>∃ rv tv',r = .returned (enRes e a d rv c)∧(BasB w' bb tv'∧TbsC D w' T' tv')∧RsO wE.heap.size wd w' rv rows∧Kept bb wE w':=by
 obtain ⟨ta,tn,tc,rfl⟩:=hbt.sl
 obtain ⟨vt,va,rfl⟩:=stv_if hs hV
 have hbl:=hbb.lt
 have hsE:=hE.size
 have hz0:(res0 w).heap.size=w.heap.size+1:=by simp [res0]
 have b0:∀ j,j<w.heap.size→(res0 w).heap[j]?=w.heap[j]?:=fun j hj=>Below.heap_alloc _ _ _ hj
 have hBw:BasB w bb (.slice ta tn tc):=(hE.block bb hbl).trans hbb
 have hT0:Tbs wE.heap.size (res0 w) T (.slice ta tn tc):=hbt.tbs.low ⟨by omega,fun j hj _=>(b0 j (by omega)).trans (hE.block j hj)⟩
 have hV0:StV (res0 w) s lo hi (.iface vt (.pointer va)):=StV.frame (by omega) hV (.inr ⟨_,_,rfl⟩) fun u _ u2=>b0 u (by omega)
 refine (do_any (P:=fun w1 tv' e' a' d' rv c' w3=>e'=e∧a'=a∧d'=d∧c'=c∧TbsC (fun j=>D j∧j≠w.heap.size∧j≠w1.heap.size) w3 T' tv'∧RsO (res0 w1).heap.size wd w3 rv rows∧Fc (res0 w).heap.size lo hi (res0 w) w1) htx hBw.bk ?_).mono ?_
 ·refine (check_any hs hnt hT0 hlo (by omega) hV0).mono ?_
  rintro r w1 ⟨rfl,hV1,hF⟩
  have hz1:=hF.size
  have hz2:(res0 w1).heap.size=w1.heap.size+1:=by simp [res0]
  have b1:∀ j,j<w1.heap.size→(res0 w1).heap[j]?=w1.heap[j]?:=fun j hj=>Below.heap_alloc _ _ _ hj
  have eB:w1.heap[bb]?=w.heap[bb]?:=(hF.block bb (by omega) (by omega) (by omega)).trans (b0 bb (by omega))
  refine ⟨by rw [hck];rfl,hBw.bk.same (by omega) eB,(Bk.new w #[.int .i64 0, .int .i64 0, .int .i64 0, .slice none 0 0, .int .i64 0] 56).same (by simpa using hz1) (hF.block _ (by omega) (by omega) (by omega)),?_⟩
  have hTC:TbsC (fun j=>D j∧j≠w.heap.size∧j≠w1.heap.size) (res0 w1) T (.slice ta tn tc):=by
   refine (hbt.to fun b h1 h2=>⟨h1,by omega,by omega⟩).blk (by omega) fun b _ h2=>?_
   exact (b1 b (by omega)).trans ((hF.block b (by omega) (by omega) (by omega)).trans ((b0 b (by omega)).trans (hE.block b h2)))
  refine (hR (fun j=>D j∧j≠w.heap.size∧j≠w1.heap.size) (res0 w1) _ _ lo hi (fun j hj=>⟨hD j (by omega),by omega,by omega⟩) hTC (StV.frame (by omega) hV1 (.inr ⟨_,_,rfl⟩) fun u _ u2=>b1 u (by omega)) (by omega)).mono ?_
  rintro r w3 ⟨va,vn,vc,ra,rn,rc,rfl,⟨h1,h2⟩,h3⟩
  exact ⟨va,vn,vc,e,a,d,ra,rn,rc,c,rfl,⟨rfl,rfl,rfl,rfl,h1,h2,hF⟩,h3⟩
 ·rintro r w' ⟨va,vn,vc,e',a',d',ra,rn,rc,c',w1,w3,rfl,⟨rfl,rfl,rfl,rfl,h1,h2,hF⟩,hw1,h3,rfl⟩
  have hz1:=hF.size
  have hz2:(res0 w1).heap.size=w1.heap.size+1:=by simp [res0]
  have hz3:=h3.size
  have b1:∀ j,j<w1.heap.size→(res0 w1).heap[j]?=w1.heap[j]?:=fun j hj=>Below.heap_alloc _ _ _ hj
  have e1:w3.heap[w1.heap.size]?=some (.cells #[.int .i64 0, .int .i64 0, .int .i64 0, .slice none 0 0, .int .i64 0] 56 (0,0)):=(h3.block _ (by omega)).trans (World.alloc_heap_new w1 _)
  have e2:w3.heap[w.heap.size]?=some (.cells #[.int .i64 0, .int .i64 0, .int .i64 0, .slice none 0 0, .int .i64 0] 56 (0,0)):=(h3.block _ (by omega)).trans ((b1 _ (by omega)).trans ((hF.block _ (by omega) (by omega) (by omega)).trans (World.alloc_heap_new w _)))
  have e3:BasB w3 bb (.slice ta tn tc):=(h3.block _ (by omega)).trans ((b1 _ (by omega)).trans ((hF.block _ (by omega) (by omega) (by omega)).trans ((b0 _ (by omega)).trans hBw)))
  have hk:∀ j,j≠bb→j≠w.heap.size→j≠w1.heap.size→(resW (resW (w3.setCell ⟨bb,0,none⟩ (.slice va vn vc)) w1.heap.size e' a' d' (.slice ra rn rc) c') w.heap.size e' a' d' (.slice ra rn rc) c').heap[j]?=w3.heap[j]?:=fun j n1 n2 n3=>(heap_set5 n2 _ _ _ _ _).trans ((heap_set5 n3 _ _ _ _ _).trans (Below.heap_setCell _ _ _ _ n1))
  have hsz:(resW (resW (w3.setCell ⟨bb,0,none⟩ (.slice va vn vc)) w1.heap.size e' a' d' (.slice ra rn rc) c') w.heap.size e' a' d' (.slice ra rn rc) c').heap.size=w3.heap.size:=by simp [World.setCell]
  refine ⟨.slice ra rn rc, .slice va vn vc,rfl,⟨?_,?_⟩,?_,?_⟩
  ·exact (heap_set5 (by omega) _ _ _ _ _).trans ((heap_set5 (by omega) _ _ _ _ _).trans (e3.set _))
  ·exact (h1.blk (by omega) fun b hb _=>hk b (fun h=>hDb (h ▸ hb.1)) hb.2.1 hb.2.2).to fun b hb _=>hb.1
  ·refine RsO.lower (b:=(res0 w1).heap.size) (h2.noS (Q:=fun q=>q=bb∨q=w.heap.size∨q=w1.heap.size) ?_ ?_ (by omega) (fun j _ hn=>hk j (fun h=>hn (.inl h)) (fun h=>hn (.inr (.inl h))) (fun h=>hn (.inr (.inr h))))) (by omega)
   ·rintro q (rfl | rfl | rfl)
    ·exact e3.noS
    ·exact res_noS e2
    ·exact res_noS e1
   ·rintro q (rfl | rfl | rfl) <;> omega
  ·refine ⟨?_,?_,?_,by omega,fun j hj hn=>?_⟩
   ·simp only [sc_os]
    exact h3.os.trans ((al_os _ _).trans (hF.os.trans ((al_os _ _).trans hE.os)))
   ·simp only [sc_tape]
    exact h3.tape.trans ((al_tape _ _).trans (hF.tape.trans ((al_tape _ _).trans hE.tape)))
   ·simp only [sc_output]
    exact h3.output.trans ((al_output _ _).trans (hF.output.trans ((al_output _ _).trans hE.output)))
   ·exact (hk j hn (by omega) (by omega)).trans ((h3.block j (by omega)).trans ((b1 j (by omega)).trans ((hF.block j (by omega) (by omega) (by omega)).trans ((b0 j (by omega)).trans (hE.block j hj)))))
end Go.Proofs.YtgnncnhkgmhngaaGreatDoor
