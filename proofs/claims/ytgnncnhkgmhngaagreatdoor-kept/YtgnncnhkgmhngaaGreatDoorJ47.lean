import Derived.Test.YtgnncnhkgmhngaaGreatDoorJ46
set_option maxHeartbeats 4000000
set_option maxRecDepth 100000
namespace Go.Proofs.YtgnncnhkgmhngaaGreatDoor
open Go.RowKit Go.Sort
theorem OwC.tbC {C:Nat->Prop} {base:Nat} {w:World} {va:Option Addr} {n vc:Nat} {l:List (Sp.Bs×Int)} {x:Sp.Bs} (h:OwC base w (.slice va n vc) l) (hC:∀ b,base<=b->C b) (hl:l.length<=50):Tb1C C w ⟨x,l, []⟩ ⟨bz x,va,n,vc,none,0,0⟩:=by
 have h1:=h.tb (Gr.refl w) hl
 have hb:=ownsV_block h
 refine ⟨rfl,?_,hl,rfl, .inl ⟨rfl,rfl,rfl⟩,by simp⟩
 rcases h1.cols with h2 | ⟨b,off,e1,e2,e3,e4⟩
 ·exact .inl h2
 ·refine .inr ⟨b,off,e1,e2,?_,e4⟩
  have e1' : va=some ⟨b,off,none⟩:=e1
  exact hC b (hb b (by rw [e1'];rfl)).1
theorem flat3 (ns:List (Sp.Nm×Int)) (j d:Nat) (hj:j<ns.length) (hd:d<3):(ns.flatMap colC)[j*3+d]?=(colC ns[j])[d]?:=by
 have h:=flat_pos 3 (ns.map colC) (fun x hx=>by obtain ⟨n,_,rfl⟩:=List.mem_map.1 hx;rfl) j d (colC ns[j]) (by simp [hj]) hd
 rw [List.flatMap_def]
 exact h
theorem cell_alD {w:World} {b o:Nat} {v:Value} {ob:Obj} (h:w.cell? ⟨b,o,none⟩=some v):(w.alloc ob).cell? ⟨b,o,none⟩=some v:=(((Gr.refl w).alloc ob).cell (p:=⟨b,o,none⟩) (cell_lt h)).trans h
theorem col_box {w1 wr w3 w5:World} {x y z:Value} {va:Option Addr} {j vc:Nat} {xs:List Value} {o:Obj} (hB:B3 wr w1.heap.size x y z) (_hBl:RowKit.Below w1.heap.size w1 wr) (h3:RowKit.Below wr.heap.size wr w3) (hg:(w3.alloc o).grownBy w5 (Value.slice va j vc).ownBlock) (hO:(w3.alloc o).ownsRow (w1.heap.size+1) 264 2 (.slice va j vc) j xs):B3 w5 w1.heap.size x y z:=by
 have hz:=h3.size
 have hlt:=hB.lt
 refine hB.same (by have:=hg.size;simp at this;omega) ?_
 refine (hg.block _ (by simp;omega) (fun e=>by have:=(ownsV_block hO _ e.symm).1;omega)).trans ((Below.heap_alloc w3 _ _ (by omega)).trans (h3.block _ hlt))
theorem col_next {w1 wr w3 w5:World} {nv:Value} {va:Option Addr} {j vc g' c' : Nat} {cs:List (Sp.Bs×Int)} {cw:Sp.Bs} {ct:Int} {o:Obj} (hB:B3 w5 w1.heap.size nv (.slice va j vc) (.slice none 0 0)) (hBl:RowKit.Below w1.heap.size w1 wr) (h3:RowKit.Below wr.heap.size wr w3) (hg:(w3.alloc o).grownBy w5 (Value.slice va j vc).ownBlock) (hO:(w3.alloc o).ownsRow (w1.heap.size+1) 264 2 (.slice va j vc) j (enCs cs)) (hown:w5.ownsRow (w1.heap.size+1) 264 2 (.slice (some ⟨g',0,none⟩) (j+1) c') (j+1) (enCs cs ++ [.string (bz cw), .int .i64 ct])) (hl:cs.length=j) :
  B3 (w5.setCell ⟨w1.heap.size,1,none⟩ (.slice (some ⟨g',0,none⟩) (j+1) c')) w1.heap.size nv (.slice (some ⟨g',0,none⟩) (j+1) c') (.slice none 0 0)/\OwC (w1.heap.size+1) (w5.setCell ⟨w1.heap.size,1,none⟩ (.slice (some ⟨g',0,none⟩) (j+1) c')) (.slice (some ⟨g',0,none⟩) (j+1) c') (cs ++ [(cw,ct)])/\RowKit.Below w1.heap.size w1 (w5.setCell ⟨w1.heap.size,1,none⟩ (.slice (some ⟨g',0,none⟩) (j+1) c')):=by
 have hz:wr.heap.size<=w3.heap.size:=h3.size
 have hz1:w1.heap.size<=wr.heap.size:=hBl.size
 refine ⟨?_,?_,?_⟩
 ·obtain ⟨lt,c0,c1,c2,f0,f1,f2⟩:=hB
  refine ⟨by simpa [World.setCell] using lt,?_,?_,?_,?_,?_,?_⟩ <;> go_simp
 ·unfold OwC
  rw [<- enCs_snoc,List.length_append,hl]
  have hk:=ownsV_block hown
  obtain ⟨h1,h | ⟨g,cap,cur,hv,h0,hc,r⟩⟩:=hown
  ·cases h.1
  ·have hgg:g=g':=by injection hv with e1 _ _;injection e1 with e1;injection e1 with e1;exact e1.symm
   subst hgg
   exact ⟨h1, .inr ⟨g,cap,cur,hv,h0,(Below.heap_setCell _ _ _ _ (show g≠w1.heap.size by omega)).trans hc,r⟩⟩
 ·have hb:RowKit.Below w1.heap.size w1 (w3.alloc o):=(hBl.trans (h3.mono hz1)).alloc (by omega) _
  have h5:RowKit.Below w1.heap.size w1 w5:=⟨hg.os.trans hb.os,hg.tape.trans hb.tape,hg.output.trans hb.output,Nat.le_trans hb.size hg.size,fun k hk=>(hg.block k (by have:=hb.size;omega) (fun e=>by have:=(ownsV_block hO k e.symm).1;omega)).trans (hb.block k hk)⟩
  exact h5.setCell (p:=⟨w1.heap.size,1,none⟩) (Nat.le_refl _) _
theorem newTable_any {C:Nat->Prop} {nm:Sp.Nm} {ns:List (Sp.Nm×Int)} {lo hi:Nat} {pv:Value} {w:World} (hC:∀ j,w.heap.size<=j->C j) (hV:CrV w nm ns lo hi pv) (hh:hi<=w.heap.size) (hn:ns.length<=50) (hs:(bz nm.1).size<=100000) (hs2:∀ x∈ns,(bz x.1.1).size<=100000) :
  Calls Tryz.prog 87 #[pv] w fun e w'=>∃ v,e = .returned v/\(∃ V,v=enT V/\Tb1C C w' ⟨nm.1,ns.map fun x=>(x.1.1,x.2), []⟩ V)/\RowKit.Below w.heap.size w w':=by
 obtain ⟨q,sl,rfl,l1,l2,hA,g,kc,rfl,g1,g2,hcl⟩:=hV
 have b0:=hA.k0
 have b2:=hA.k2
 have hqw:=hA.1
 have HCl:=hid hcl
 have HC:=hid hC
 have HK:=hid (fun w'=>clone_any (bz nm.1) w' hs)
 have HS2:=hid hs2
 obtain ⟨n,hnn⟩:∃ n,n=ns.length:=⟨_,rfl⟩
 have HN:=hid hnn
 rw [<- hnn] at b2 hn
 obtain ⟨i0,ji,jz0,jz1,jz2⟩:=info_parts infoCol
 have G0:=hid ((Gr.refl w).alloc (.cells #[.string ⟨#[]⟩, .slice none 0 0, .slice none 0 0] 187))
 clear hA hcl hC hs2 hnn
 go_enter Tryz.func87,Tryz.ntmps87
 go_wp2_with fail
 refine (HK.out _).mono ?_
 rintro e w1 ⟨rfl,b1⟩
 have HRs:Hid (B3 w1 w.heap.size (.string ⟨#[]⟩) (.slice none 0 0) (.slice none 0 0)):=(B3.new w _ _ _ _).same b1.size (b1.block _ (by simp))
 have HB1:Hid (RowKit.Below w.heap.size w w1):=G0.out.below.trans (b1.mono G0.out.size)
 have hz1:w.heap.size+1<=w1.heap.size:=by have:=b1.size;simpa using this
 have c2:=(HB1.out.cell (p:=⟨q,2,none⟩) hqw).trans b2
 have hqw1:q<w1.heap.size:=by omega
 clear b1
 go_wp2_with fail
 go_loopw [18] (fun i wr=>∃ (j:Nat) (va:Option Addr) (vc:Nat),j<=n/\i = .int .i64 (j:Nat)/\Hid (B3 wr w1.heap.size (.string (bz nm.1)) (.slice va j vc) (.slice none 0 0))/\Hid (OwC (w1.heap.size+1) wr (.slice va j vc) ((ns.take j).map fun x=>(x.1.1,x.2)))/\Hid (RowKit.Below w1.heap.size w1 wr)) (fun i _=>n - (intOf i).toNat)
 case atStart=>exact ⟨0,none,0,Nat.zero_le _,rfl,B3.new w1 _ _ _ _,OwC.nil _ _,((Gr.refl w1).alloc _).below⟩
 case round=>
  obtain ⟨j,va,vc,hj,rfl,HBm,HOw,HBl⟩:=hrel
  by_cases hlt:j<n
  ·have hjs:j<ns.length:=by have:=HN.out;omega
   have y0:=HCl.out (j*3+0) _ ((flat3 ns j 0 hjs (by omega)).trans rfl)
   have y1:=HCl.out (j*3+1) _ ((flat3 ns j 1 hjs (by omega)).trans rfl)
   have y2:=HCl.out (j*3+2) _ ((flat3 ns j 2 hjs (by omega)).trans rfl)
   rw [Nat.add_zero] at y0
   have hgw:g<w.heap.size:=by omega
   have hgw1:g<w1.heap.size:=by omega
   have a0:=(HBl.out.cell (p:=⟨g,j*3,none⟩) hgw1).trans ((HB1.out.cell (p:=⟨g,j*3,none⟩) hgw).trans y0)
   have a1:=(HBl.out.cell (p:=⟨g,j*3+1,none⟩) hgw1).trans ((HB1.out.cell (p:=⟨g,j*3+1,none⟩) hgw).trans y1)
   have a2:=(HBl.out.cell (p:=⟨g,j*3+2,none⟩) hgw1).trans ((HB1.out.cell (p:=⟨g,j*3+2,none⟩) hgw).trans y2)
   have HTk:Hid ((ns.take (j+1)).map (fun x=>(x.1.1,x.2))=(ns.take j).map (fun x=>(x.1.1,x.2)) ++ [(ns[j].1.1,ns[j].2)]):=by show _=_;rw [List.take_succ_eq_append_getElem hjs,List.map_append];rfl
   have HKc:=hid (fun w'=>clone_any (bz ns[j].1.1) w' (HS2.out _ (List.getElem_mem hjs)))
   have hlj:((ns.take j).map fun x=>(x.1.1,x.2)).length=j:=by rw [List.length_map,List.length_take];omega
   obtain ⟨sx,hsx⟩:∃ sx,sx=ns[j]:=⟨_,rfl⟩
   rw [<- hsx] at a0 a1 a2 HTk HKc
   clear hsx y0 y1 y2
   obtain ⟨⟨cw,ca⟩,ct⟩:=sx
   simp only [] at a0 a1 a2 HTk HKc
   have hO:wr.ownsRow (w1.heap.size+1) 264 2 (.slice va j vc) j (enCs ((ns.take j).map fun x=>(x.1.1,x.2))):=by have h:=HOw.out;unfold OwC at h;rw [hlj] at h;exact h
   have HO:=hid hO
   generalize hcs:(ns.take j).map (fun x=>(x.1.1,x.2))=cs at *
   clear hcs hO
   obtain ⟨m0,m1,m2,m3,m4,m5,m6⟩:=HBm.out
   have hz:=HBl.out.size
   have hjb:j<50:=by omega
   obtain ⟨wA,hwA⟩:∃ wA,wA=wr.alloc (.cells #[.string (bz cw), .int .i64 (ca:Int), .int .i64 ct] 228):=⟨_,rfl⟩
   have GA:Hid (Gr wr wA):=by show Gr _ _;rw [hwA];exact (Gr.refl wr).alloc _
   have hzA:wA.heap.size=wr.heap.size+1:=by rw [hwA];simp
   have z0:wA.cell? ⟨wr.heap.size,0,none⟩=some (.string (bz cw)):=by rw [hwA];simp
   have z2:wA.cell? ⟨wr.heap.size,2,none⟩=some (.int .i64 ct):=by rw [hwA];simp
   have p0:=(GA.out.cell (p:=⟨w1.heap.size,1,none⟩) m0).trans m2
   have p1:=(GA.out.frozen (p:=⟨w1.heap.size,1,none⟩) m0).trans m5
   go_wp2_with fail
   rw [<- hwA]
   clear hwA a0 a1 a2
   go_region_law (first
    | (have _hx:=hO5;refine step_append_lies _ (by rfl) _ _ _ (by rfl) (w1.heap.size+1) 264 i0 (.agg #[.string ⟨#[]⟩, .int .i64 0]) 2 24 Tryz.underlying185 ji jz0 jz1 jz2 rfl (by omega) (.slice va j vc) j (enCs cs) (by rfl) hO5 ⟨w3.heap.size,0,none⟩ 1 1 [.string (bz cw), .int .i64 ct] (by rfl) (by rfl) (World.news_of_block (cs:=#[.string (bz cw), .int .i64 ct]) (t:=264) (fr:=(0,0)) (heap_alloc_new w3 _)) (two_one _ _) (by omega) (by unfold maxLen;omega) (by omega) (by simp;omega) (w3.heap.size+1) (by simp) ?_;intro g' kc' w5 hown hgrow hat hlt';have hB5:=col_box HBm.out (HBl.out) HB3.out hgrow hO5;obtain ⟨v0,v1,v2,v3,v4,v5,v6⟩:=hB5)
    | (go_simp;go_at_call 142;refine (HKc.out _).mono ?_;rintro e3 w3 ⟨rfl,bl3⟩;have HB3:Hid (RowKit.Below wr.heap.size wr w3):=((GA.out.drew).below.trans (bl3.mono GA.out.drew.size));have hz3:=HB3.out.size;have hzw:wr.heap.size+1<=w3.heap.size:=(by have h:=bl3.size;have h' : wA.heap.size<=w3.heap.size:=h;omega);have q0:=(bl3.cell (p:=⟨wr.heap.size,0,none⟩) (by show wr.heap.size<wA.heap.size;omega)).trans z0;have q2:=(bl3.cell (p:=⟨wr.heap.size,2,none⟩) (by show wr.heap.size<wA.heap.size;omega)).trans z2;have r0:=(bl3.cell (p:=⟨w1.heap.size,1,none⟩) (by show w1.heap.size<wA.heap.size;omega)).trans p0;have hlt3:w1.heap.size<w3.heap.size:=(by omega);have hlt4:wr.heap.size<w3.heap.size:=(by omega);have r1:=cell_alD (ob := .cells #[.string (bz cw), .int .i64 ct] 264) r0;have hO5:(w3.alloc (.cells #[.string (bz cw), .int .i64 ct] 264)).ownsRow (w1.heap.size+1) 264 2 (.slice va j vc) j (enCs cs):=ownsV_below (ownsV_below HO.out HB3.out) ((Gr.refl w3).alloc _).below;clear bl3))
   all_goals
    have HX:=hid (col_next ⟨v0,v1,v2,v3,v4,v5,v6⟩ HBl.out HB3.out hgrow hO5 hown hlj)
    clear hown hgrow hat hO5 _hx
    go_wp2_with fail
    go_roundw
    case rel=>exact ⟨j+1,some ⟨g',0,none⟩,kc',by omega,by go_num,HX.out.1,by rw [HTk.out];exact HX.out.2.1,HX.out.2.2⟩
    case measure=>simp [intOf];omega
  ·obtain rfl:j=n:=by omega
   have HOf:Hid (OwC (w1.heap.size+1) wr (.slice va j vc) (ns.map fun x=>(x.1.1,x.2))):=by
    have h:=HOw.out
    rw [HN.out,List.take_length] at h
    rw [HN.out]
    exact h
   have hz:=HBl.out.size
   have HRr:Hid (B3 wr w.heap.size (.string ⟨#[]⟩) (.slice none 0 0) (.slice none 0 0)):=HRs.out.same HBl.out.size (HBl.out.block _ HRs.out.lt)
   obtain ⟨m0,m1,m2,m3,m4,m5,m6⟩:=HBm.out
   obtain ⟨r0,r1,r2,r3,r4,r5,r6⟩:=HRr.out
   have HBw:Hid (RowKit.Below w.heap.size w wr):=HB1.out.trans (HBl.out.mono (by omega))
   clear hlt
   go_wp2_with fail
   refine bodyPost_ret (v := .agg #[.string (bz nm.1), .slice va j vc, .slice none 0 0]) (by simp [results,Tryz.results87,go_sem,r1,r2,r3]) rfl ⟨_,rfl,⟨⟨bz nm.1,va,j,vc,none,0,0⟩,rfl,?_⟩,?_⟩
   ·have h1:Tb1C (fun b=>w1.heap.size+1<=b) wr ⟨nm.1,ns.map fun x=>(x.1.1,x.2), []⟩ ⟨bz nm.1,va,j,vc,none,0,0⟩:=HOf.out.tbC (fun b hb=>hb) (by rw [List.length_map,<- HN.out];exact hn)
    refine (h1.blk (by simp [World.setCell]) fun b hb _=>?_).to fun b hb _=>HC.out b (by omega)
    exact (Below.heap_setCell _ _ _ _ (show b≠w.heap.size by omega)).trans ((Below.heap_setCell _ _ _ _ (show b≠w.heap.size by omega)).trans (Below.heap_setCell _ _ _ _ (show b≠w.heap.size by omega)))
   ·exact ((HBw.out.setCell (p:=⟨w.heap.size,0,none⟩) (Nat.le_refl _) _).setCell (p:=⟨w.heap.size,1,none⟩) (Nat.le_refl _) _).setCell (p:=⟨w.heap.size,2,none⟩) (Nat.le_refl _) _
def wdF (T:List Sp.Tb) (l:List (Sp.Nm×Sp.Nm)):Nat:=(l.map fun s=>((Sp.findTb s.1.1 T).getD Sp.noTb).cols.length).sum
theorem wdF_snoc (T:List Sp.Tb) (l:List (Sp.Nm×Sp.Nm)) (x:Sp.Nm×Sp.Nm):wdF T (l ++ [x])=wdF T l+((Sp.findTb x.1.1 T).getD Sp.noTb).cols.length:=by simp [wdF]
theorem wdF_le {T:List Sp.Tb} (h:∀ t∈T,t.cols.length<=50) (l:List (Sp.Nm×Sp.Nm)):wdF T l<=50*l.length:=by
 induction l with
 | nil=>simp [wdF]
 | cons x l ih=>
  have h1:((Sp.findTb x.1.1 T).getD Sp.noTb).cols.length<=50:=by
   cases hf:Sp.findTb x.1.1 T with
   | none=>simp [Sp.noTb]
   | some t=>exact h t (Sp.findTb_mem hf)
  simp only [wdF,List.map_cons,List.sum_cons,List.length_cons] at ih ⊢
  omega
theorem run_neq_nil (w:World) (t e:TypeId) (a:Option Addr) (n c n' c' : Nat) (h:Tryz.prog.underlying t=some (.slice e)):(binOp .neq t (.slice a n c) (.slice none n' c')).run Tryz.prog w = .ok (.bool a.isSome) w:=by
 simp only [binOp]
 simp [Op.equal,Op.maxDepth,Lib.run_equalIn_slice_nil w 9999 t e a n c n' c' h]
theorem swidth_star {k sb st blk c:Nat} {T:List Sp.Tb} {src:List (Sp.Nm×Sp.Nm)} {di:Bool} {wv tv:Value} {w:World} (hs:At w sb [.bool di, .int .i64 (st:Int), .slice none 0 0, .slice (some ⟨blk,0,none⟩) src.length c,wv]) (ht:Tbs k w T tv) (hsr:Srcs w blk 0 src) (hb:blk<w.heap.size) (hm:src.length<=1000) (hf:∀ x∈src,(Sp.findTb x.1.1 T).isSome=true) (hTc:∀ t∈T,t.cols.length<=50) :
  Calls Tryz.prog 153 #[tv, .pointer (some ⟨sb,0,none⟩)] w fun e w'=>e = .returned (.int .i64 (wdF T src:Nat))/\RowKit.Below w.heap.size w w':=by
 have b2:=hs.k2
 have b3:=hs.k3
 have hbw:=hs.1
 have HT:=hid ht
 have HS:=hid hsr
 have HF:=hid hf
 have HTc:=hid hTc
 obtain ⟨ta,tn,tc0,rfl⟩:∃ a n c,tv = .slice a n c:=by
  rcases ht.2.2 with ⟨_,e⟩ | ⟨b,off,c,V,e,_⟩
  ·exact ⟨_,_,_,e⟩
  ·exact ⟨_,_,_,e⟩
 obtain ⟨n,hnn⟩:∃ n,n=src.length:=⟨_,rfl⟩
 have HN:=hid hnn
 rw [<- hnn] at hm b3
 have hq:=fun (w' : World)=>run_neq_nil w' 237 _ none 0 0 0 0 Tryz.underlying237
 simp only [Option.isSome_none] at hq
 clear ht hsr hf hTc hnn hs
 go_enter Tryz.func153,Tryz.ntmps153
 go_wp2_with fail
 go_loopw [5,25] (fun v i wr=>∃ j:Nat,j<=n/\i = .int .i64 (j:Nat)/\v = .int .i64 (wdF T (src.take j):Nat)/\Hid (RowKit.Below w.heap.size w wr)) (fun _ i _=>n - (intOf i).toNat)
 case atStart=>exact ⟨0,Nat.zero_le _,rfl,rfl,Below.refl _ _⟩
 case round=>
  obtain ⟨j,hj,rfl,rfl,HB⟩:=hrel
  by_cases hlt:j<n
  ·have hjs:j<src.length:=by have:=HN.out;omega
   obtain ⟨q0,q1,q2,q3⟩:=Srcs.at_ src 0 j hjs HS.out
   have c0:=(HB.out.cell (p:=⟨blk,0+j*4,none⟩) hb).trans q0
   have c1:=(HB.out.cell (p:=⟨blk,0+j*4+1,none⟩) hb).trans q1
   have c2:=(HB.out.cell (p:=⟨blk,0+j*4+2,none⟩) hb).trans q2
   have c3:=(HB.out.cell (p:=⟨blk,0+j*4+3,none⟩) hb).trans q3
   rw [Nat.zero_add] at c0 c1 c2 c3
   clear q0 q1 q2 q3
   have HFj:=hid (HF.out _ (List.getElem_mem hjs))
   have HTk:=hid (congrArg (wdF T) (List.take_succ_eq_append_getElem hjs))
   rw [wdF_snoc] at HTk
   have hle:=wdF_le HTc.out (src.take j)
   have hlj:(src.take j).length<=1000:=by rw [List.length_take];omega
   obtain ⟨sx,hsx⟩:∃ sx,sx=src[j]:=⟨_,rfl⟩
   rw [<- hsx] at c0 c1 c2 c3 HFj HTk
   clear hsx
   obtain ⟨⟨tw,ta'⟩,cw,ca⟩:=sx
   simp only [] at c0 c1 c2 c3 HFj HTk
   rcases tfind_low HT.out tw with ⟨e,_⟩ | ⟨t,V,e,hT1,F⟩
   ·have:=HFj.out;rw [e] at this;cases this
   rw [e,Option.getD_some] at HTk
   have hcl:V.cl=t.cols.length:=by
    rcases hT1.cols with ⟨e1,_,e2,_⟩ | ⟨b,off,_,e2,_⟩
    ·rw [e2,e1];rfl
    ·exact e2
   have hc50:=hT1.colN
   have HFd:=hid F
   clear e F hT1
   obtain ⟨vn,vca,vcl,vcc,vra,vrl,vrc⟩:=V
   simp only [] at hcl
   rw [<- hcl] at HTk hc50
   clear hcl
   generalize wdF T (src.take j)=D at *
   have GA:=hid ((Gr.refl wr).alloc (.cells #[.string (bz tw), .int .i64 (ta' : Int), .string (bz cw), .int .i64 (ca:Int)] 337))
   have HLo:Hid (Low k w (wr.alloc (.cells #[.string (bz tw), .int .i64 (ta' : Int), .string (bz cw), .int .i64 (ca:Int)] 337))):=Low.of_bel (HB.out.trans (GA.out.below.mono HB.out.size))
   go_wp2_with fail
   refine (HFd.out _ HLo.out).mono ?_
   rintro e w2 ⟨rfl,g2⟩
   have HB2:Hid (RowKit.Below w.heap.size w w2):=HB.out.trans ((GA.out.trans g2).below.mono HB.out.size)
   have HB3:Hid (RowKit.Below w.heap.size w (w2.alloc (.cells #[.string vn, .slice vca vcl vcc, .slice vra vrl vrc] 187))):=HB2.out.alloc HB2.out.size _
   clear g2 c0 c1 c2 c3
   go_wp2_with fail
   go_roundw
   case rel=>exact ⟨j+1,by omega,by go_num,by rw [HTk.out];go_num,HB3⟩
   case measure=>simp [intOf];omega
  ·obtain rfl:j=n:=by omega
   have HE:Hid (wdF T (src.take j)=wdF T src):=by show _=_;rw [HN.out,List.take_length]
   clear hlt
   go_wp2_with fail
   go_ret
   exact ⟨by rw [<- HE.out];rfl,HB.out⟩
theorem swidth_exprs {sb st g off n cap:Nat} {di:Bool} {fv wv:Value} {ta:Option Addr} {tn tc:Nat} {w:World} (hs:At w sb [.bool di, .int .i64 (st:Int), .slice (some ⟨g,off,none⟩) n cap,fv,wv]) :
  Calls Tryz.prog 153 #[.slice ta tn tc, .pointer (some ⟨sb,0,none⟩)] w fun e w'=>e = .returned (.int .i64 (n:Nat))/\RowKit.Below w.heap.size w w':=by
 have b2:=hs.k2
 have hbw:=hs.1
 have hq:=fun (w' : World)=>run_neq_nil w' 237 _ (some ⟨g,off,none⟩) n cap 0 0 Tryz.underlying237
 simp only [Option.isSome_some] at hq
 clear hs
 go_enter Tryz.func153,Tryz.ntmps153
 go_wp2_with fail
 go_ret
 exact ⟨rfl,Below.refl _ _⟩
theorem width_sel {b:Nat} {ta:Option Addr} {tn tc:Nat} {z:Int} {w:World} (hC:Calls Tryz.prog 153 #[.slice ta tn tc, .pointer (some ⟨b,0,none⟩)] w fun r w'=>r = .returned (.int .i64 z)/\RowKit.Below w.heap.size w w') :
  Calls Tryz.prog 92 #[.slice ta tn tc, .iface 278 (.pointer (some ⟨b,0,none⟩))] w fun r w'=>r = .returned (.int .i64 z)/\RowKit.Below w.heap.size w w':=by
 have HC:=hid hC
 have t1:=ta_rs
 clear hC
 go_enter Tryz.func92,Tryz.ntmps92
 go_wp2_with fail
 refine HC.out.mono ?_
 rintro e w1 ⟨rfl,h⟩
 have H:=hid h
 clear h
 go_wp2_with fail
 exact bodyPost_ret (v := .int .i64 z) (by simp [results,Tryz.results92,go_sem]) rfl ⟨rfl,H.out⟩
abbrev res0 (w:World):World:=w.alloc (.cells #[.int .i64 0, .int .i64 0, .int .i64 0, .slice none 0 0, .int .i64 0] 56)
abbrev resW (w:World) (q:Nat) (a b c:Int) (v:Value) (d:Int):World:=((((w.setCell ⟨q,0,none⟩ (.int .i64 a)).setCell ⟨q,1,none⟩ (.int .i64 b)).setCell ⟨q,2,none⟩ (.int .i64 c)).setCell ⟨q,3,none⟩ v).setCell ⟨q,4,none⟩ (.int .i64 d)
theorem rs_insert {q:Nat} {ta:Option Addr} {tn tc:Nat} {w:World} {P:Value->Int->Int->Int->Value->Int->World->Prop} (hC:Calls Tryz.prog 89 #[.slice ta tn tc, .pointer (some ⟨q,0,none⟩)] (res0 w) fun r w'=>∃ va vn vc e a d ra rn rc c,r = .returned (.tuple #[.slice va vn vc,enRes e a d (.slice ra rn rc) c])/\P (.slice va vn vc) e a d (.slice ra rn rc) c w'/\RowKit.Below (res0 w).heap.size (res0 w) w') :
  Calls Tryz.prog 52 #[.slice ta tn tc, .iface 169 (.pointer (some ⟨q,0,none⟩))] w fun r w'=>∃ va vn vc e a d ra rn rc c w1,r = .returned (.tuple #[.slice va vn vc,enRes e a d (.slice ra rn rc) c])/\P (.slice va vn vc) e a d (.slice ra rn rc) c w1/\RowKit.Below (res0 w).heap.size (res0 w) w1/\w'=resW w1 w.heap.size e a d (.slice ra rn rc) c:=by
 have HC:=hid hC
 have t0:=ts_Insert_Create
 have t1:=ts_Insert_Drop
 have t2:=ts_Insert_Insert
 clear hC
 go_enter Tryz.func52,Tryz.ntmps52
 go_wp2_with fail
 refine HC.out.mono ?_
 rintro x w1 ⟨va,vn,vc,e,a,d,ra,rn,rc,c,rfl,hP,hb⟩
 have HP:=hid hP
 have HB:=hid hb
 have HR:Hid (Bk w1 w.heap.size [.int .i64 0, .int .i64 0, .int .i64 0, .slice none 0 0, .int .i64 0]):=(Bk.new w #[.int .i64 0, .int .i64 0, .int .i64 0, .slice none 0 0, .int .i64 0] 56).below hb
 obtain ⟨⟨k0,k1,k2,k3,k4⟩,f0,f1,f2,f3,f4⟩:=HR.out.five
 clear hP hb
 go_wp2_with fail
 exact bodyPost_ret (v := .tuple #[.slice va vn vc,enRes e a d (.slice ra rn rc) c]) (by simp [results,Tryz.results52,go_sem,k0,k1,k2,k3,k4]) rfl ⟨va,vn,vc,e,a,d,ra,rn,rc,c,w1,rfl,HP.out,HB.out,rfl⟩
theorem rs_remove {q:Nat} {ta:Option Addr} {tn tc:Nat} {w:World} {P:Value->Int->Int->Int->Value->Int->World->Prop} (hC:Calls Tryz.prog 90 #[.slice ta tn tc, .pointer (some ⟨q,0,none⟩)] (res0 w) fun r w'=>∃ va vn vc e a d ra rn rc c,r = .returned (.tuple #[.slice va vn vc,enRes e a d (.slice ra rn rc) c])/\P (.slice va vn vc) e a d (.slice ra rn rc) c w'/\RowKit.Below (res0 w).heap.size (res0 w) w') :
  Calls Tryz.prog 52 #[.slice ta tn tc, .iface 171 (.pointer (some ⟨q,0,none⟩))] w fun r w'=>∃ va vn vc e a d ra rn rc c w1,r = .returned (.tuple #[.slice va vn vc,enRes e a d (.slice ra rn rc) c])/\P (.slice va vn vc) e a d (.slice ra rn rc) c w1/\RowKit.Below (res0 w).heap.size (res0 w) w1/\w'=resW w1 w.heap.size e a d (.slice ra rn rc) c:=by
 have HC:=hid hC
 have t0:=ts_Delete_Create
 have t1:=ts_Delete_Drop
 have t2:=ts_Delete_Insert
 have t3:=ts_Delete_Delete
 clear hC
 go_enter Tryz.func52,Tryz.ntmps52
 go_wp2_with fail
 refine HC.out.mono ?_
 rintro x w1 ⟨va,vn,vc,e,a,d,ra,rn,rc,c,rfl,hP,hb⟩
 have HP:=hid hP
 have HB:=hid hb
 have HR:Hid (Bk w1 w.heap.size [.int .i64 0, .int .i64 0, .int .i64 0, .slice none 0 0, .int .i64 0]):=(Bk.new w #[.int .i64 0, .int .i64 0, .int .i64 0, .slice none 0 0, .int .i64 0] 56).below hb
 obtain ⟨⟨k0,k1,k2,k3,k4⟩,f0,f1,f2,f3,f4⟩:=HR.out.five
 clear hP hb
 go_wp2_with fail
 exact bodyPost_ret (v := .tuple #[.slice va vn vc,enRes e a d (.slice ra rn rc) c]) (by simp [results,Tryz.results52,go_sem,k0,k1,k2,k3,k4]) rfl ⟨va,vn,vc,e,a,d,ra,rn,rc,c,w1,rfl,HP.out,HB.out,rfl⟩
theorem CrV.bel {w w' : World} {nm:Sp.Nm} {ns:List (Sp.Nm×Int)} {lo hi:Nat} {v:Value} (h:CrV w nm ns lo hi v) (g:RowKit.Below w.heap.size w w') (hh:hi<=w.heap.size):CrV w' nm ns lo hi v:=by
 obtain ⟨q,sl,e,a,b,hA,hC⟩:=h
 exact ⟨q,sl,e,a,b,hA.same g.size (g.block q hA.1),hC.frame fun k _ h2=>g.block k (by omega)⟩
theorem TbsC.resW {C:Nat->Prop} {w w1:World} {T:List Sp.Tb} {tv:Value} {a b c d:Int} {v:Value} (hC:∀ j,w.heap.size<=j->C j) (h:TbsC (fun b=>(C b/\b<w.heap.size)\/w.heap.size+1<=b) w1 T tv):TbsC C (Go.Proofs.YtgnncnhkgmhngaaGreatDoor.resW w1 w.heap.size a b c v d) T tv:=by
 refine (h.blk (by simp [World.setCell]) fun b hb _=>heap_set5 (show b≠w.heap.size by rcases hb with hb | hb <;> omega) _ _ _ _ _).to fun b hb _=>?_
 rcases hb with hb | hb
 ·exact hb.1
 ·exact hC b (by omega)
theorem rs_create {C:Nat->Prop} {nm:Sp.Nm} {ns:List (Sp.Nm×Int)} {lo hi q:Nat} {T:List Sp.Tb} {tv:Value} {w:World} (hC:∀ j,w.heap.size<=j->C j) (ht:TbsC C w T tv) (hV:CrV w nm ns lo hi (.pointer (some ⟨q,0,none⟩))) (hh:hi<=w.heap.size) (hn:ns.length<=50) (hs:(bz nm.1).size<=100000) (hs2:∀ x∈ns,(bz x.1.1).size<=100000) (hTl:T.length<=800) :
  Calls Tryz.prog 52 #[tv, .iface 160 (.pointer (some ⟨q,0,none⟩))] w fun r w'=>∃ v,r = .returned v/\(∃ tv',v = .tuple #[tv',enRes 0 0 0 (.slice none 0 0) 0]/\TbsC C w' (Sp.withT ⟨nm.1,ns.map fun x=>(x.1.1,x.2), []⟩ T) tv')/\RowKit.Below w.heap.size w w':=by
 obtain ⟨ta,tn,tc,rfl⟩:=ht.sl
 have HC:=hid hC
 have G0:=hid ((Gr.refl w).alloc (.cells #[.int .i64 0, .int .i64 0, .int .i64 0, .slice none 0 0, .int .i64 0] 56))
 have hz0:(res0 w).heap.size=w.heap.size+1:=by simp [res0]
 have HT:Hid (TbsC (fun b=>(C b/\b<w.heap.size)\/w.heap.size+1<=b) (res0 w) T (.slice ta tn tc)):=(ht.to fun b h1 h2 => .inl ⟨h1,h2⟩).bel G0.out.below
 have HN:=hid (newTable_any (C:=fun b=>(C b/\b<w.heap.size)\/w.heap.size+1<=b) (w:=res0 w) (fun j hj => .inr (by omega)) (hV.bel G0.out.below hh) (by omega) hn hs hs2)
 have t0:=ts_Create_Create
 clear ht hV hC hs2
 go_enter Tryz.func52,Tryz.ntmps52
 go_wp2_with fail
 refine HN.out.mono ?_
 rintro x w1 ⟨v1,rfl,⟨V1,rfl,hV1⟩,b1⟩
 have HB1:=hid b1
 obtain ⟨VL,hVL,hAL,hLL⟩:=(HT.out.bel b1).ltv
 have hLT:VL.length=T.length:=hAL.len.symm
 have HWi:=hid (twith_any (t:=V1) hVL (by omega))
 have HV1:=hid hV1
 have HAL:=hid hAL
 clear hV1 b1 hVL hAL HN
 go_wp2_with fail
 refine HWi.out.mono ?_
 rintro x w2 ⟨v2,rfl,o2,b2⟩
 have hz1:=HB1.out.size
 have HTF:=hid (with_tbs (fun j hj => .inr (by omega)) HAL.out HV1.out o2 b2 (by omega))
 have HB2:Hid (RowKit.Below (res0 w).heap.size (res0 w) w2):=HB1.out.trans (b2.mono HB1.out.size)
 have HR:Hid (Bk w2 w.heap.size [.int .i64 0, .int .i64 0, .int .i64 0, .slice none 0 0, .int .i64 0]):=(Bk.new w #[.int .i64 0, .int .i64 0, .int .i64 0, .slice none 0 0, .int .i64 0] 56).below HB2.out
 obtain ⟨⟨k0,k1,k2,k3,k4⟩,f0,f1,f2,f3,f4⟩:=HR.out.five
 obtain ⟨va,vc,rfl⟩:=o2.sl
 clear o2 b2 HWi
 go_wp2_with fail
 refine bodyPost_ret (v := .tuple #[_,enRes 0 0 0 (.slice none 0 0) 0]) (by simp [results,Tryz.results52,go_sem,k0,k1,k2,k3,k4]) rfl ⟨_,rfl,⟨_,rfl,TbsC.resW HC.out HTF.out⟩,?_⟩
 exact below_set5 (G0.out.below.trans (HB2.out.mono G0.out.size)) (Nat.le_refl _) _ _ _ _ _
theorem ts_sel (v:Option Addr) (w:World):Sem.run Tryz.prog (Instr.typeAssert (.iface 278 (.pointer v)) 90 179 true) w = .ok (.tuple #[.iface 278 (.pointer v), .bool true]) w:=ts_Select_Query v w
theorem rs_select {q:Nat} {ta:Option Addr} {tn tc:Nat} {z:Int} {P:Value->World->Prop} {w:World}
  (hW:∀ W,RowKit.Below w.heap.size w W->Calls Tryz.prog 92 #[.slice ta tn tc, .iface 278 (.pointer (some ⟨q,0,none⟩))] W fun r w'=>r = .returned (.int .i64 z)/\RowKit.Below W.heap.size W w')
  (hQ:∀ W iv,RowKit.Below w.heap.size w W->w.heap.size<W.heap.size->Arn W (.slice ta tn tc) [] iv->Calls Tryz.prog 93 #[.iface 278 (.pointer (some ⟨q,0,none⟩)),iv] W fun r w'=>∃ a n c,r = .returned (.slice a n c)/\P (.slice a n c) w'/\RowKit.Below W.heap.size W w') :
  Calls Tryz.prog 52 #[.slice ta tn tc, .iface 278 (.pointer (some ⟨q,0,none⟩))] w fun r w'=>∃ a n c w1,r = .returned (.tuple #[.slice ta tn tc,enRes 0 0 z (.slice a n c) 0])/\P (.slice a n c) w1/\RowKit.Below (res0 w).heap.size (res0 w) w1/\w'=resW w1 w.heap.size 0 0 z (.slice a n c) 0:=by
 have G0:=hid ((Gr.refl w).alloc (.cells #[.int .i64 0, .int .i64 0, .int .i64 0, .slice none 0 0, .int .i64 0] 56))
 have HW:=hid hW
 have HQ:=hid hQ
 have t0:=ts_Select_Create
 have t1:=ts_Select_Drop
 have t2:=ts_Select_Insert
 have t3:=ts_Select_Delete
 have t4:=ts_Select_Update
 have t5:=ts_Select_Query
 clear hW hQ
 go_enter Tryz.func52,Tryz.ntmps52
 go_wp2_with fail
 refine (HW.out _ G0.out.below).mono ?_
 rintro x w1 ⟨rfl,b1⟩
 have HB1:=hid b1
 have HBw1:Hid (RowKit.Below w.heap.size w w1):=G0.out.below.trans (b1.mono G0.out.size)
 clear b1
 go_wp2_with fail
 refine (nothing_any ta tn tc w1).mono ?_
 rintro x w2 ⟨v2,rfl,ar2,g2⟩
 obtain ⟨nb,rfl,hnb,_⟩:=ar2.ptr
 have HBw2:Hid (RowKit.Below w.heap.size w w2):=HBw1.out.trans (g2.below.mono HBw1.out.size)
 have HB2:Hid (RowKit.Below (res0 w).heap.size (res0 w) w2):=HB1.out.trans (g2.below.mono HB1.out.size)
 have HQ2:=hid (HQ.out w2 _ HBw2.out (by have:=HB2.out.size;simp [res0] at this;omega) ar2)
 clear ar2 g2
 go_wp2_with fail
 refine HQ2.out.mono ?_
 rintro x w3 ⟨a,n,c,rfl,hP,b3⟩
 have HP:=hid hP
 have HB3:Hid (RowKit.Below (res0 w).heap.size (res0 w) w3):=HB2.out.trans (b3.mono HB2.out.size)
 have HR:Hid (Bk w3 w.heap.size [.int .i64 0, .int .i64 0, .int .i64 0, .slice none 0 0, .int .i64 0]):=(Bk.new w #[.int .i64 0, .int .i64 0, .int .i64 0, .slice none 0 0, .int .i64 0] 56).below HB3.out
 obtain ⟨⟨k0,k1,k2,k3,k4⟩,f0,f1,f2,f3,f4⟩:=HR.out.five
 clear hP b3 HQ2
 go_wp2_with fail
 exact bodyPost_ret (v := .tuple #[.slice ta tn tc,enRes 0 0 z (.slice a n c) 0]) (by simp [results,Tryz.results52,go_sem,k0,k1,k2,k3,k4]) rfl ⟨a,n,c,w3,rfl,HP.out,HB3.out,rfl⟩
theorem do_any {bb:Nat} {ta:Option Addr} {tn tc:Nat} {t:TypeId} {p:Option Addr} {P:World->Value->Int->Int->Int->Value->Int->World->Prop} {w:World}
  (htx:∀ w' : World,Sem.run Tryz.prog (Instr.typeAssert (.iface t (.pointer p)) 90 122 true) w' = .ok (.tuple #[.pointer none, .bool false]) w')
  (hbb:Bk w bb [.slice ta tn tc, .bool false, .slice none 0 0])
  (hC:Calls Tryz.prog 51 #[.slice ta tn tc, .iface t (.pointer p)] (res0 w) fun r w1=>r = .returned (.tuple #[.int .i64 0, .int .i64 0])/\Bk w1 bb [.slice ta tn tc, .bool false, .slice none 0 0]/\Bk w1 w.heap.size [.int .i64 0, .int .i64 0, .int .i64 0, .slice none 0 0, .int .i64 0]/\
   (Calls Tryz.prog 52 #[.slice ta tn tc, .iface t (.pointer p)] (res0 w1) fun r w3=>∃ va vn vc e a d ra rn rc c,r = .returned (.tuple #[.slice va vn vc,enRes e a d (.slice ra rn rc) c])/\P w1 (.slice va vn vc) e a d (.slice ra rn rc) c w3/\RowKit.Below (res0 w1).heap.size (res0 w1) w3)) :
  Calls Tryz.prog 38 #[.pointer (some ⟨bb,0,none⟩), .iface t (.pointer p)] w fun r w'=>∃ va vn vc e a d ra rn rc c w1 w3,r = .returned (enRes e a d (.slice ra rn rc) c)/\P w1 (.slice va vn vc) e a d (.slice ra rn rc) c w3/\w.heap.size<w1.heap.size/\RowKit.Below (res0 w1).heap.size (res0 w1) w3/\
   w'=resW (resW (w3.setCell ⟨bb,0,none⟩ (.slice va vn vc)) w1.heap.size e a d (.slice ra rn rc) c) w.heap.size e a d (.slice ra rn rc) c:=by
 have c0:=hbb.k0
 have hlt:=hbb.lt
 have HC:=hid hC
 have t0:=htx
 have HN:bb≠w.heap.size:=by omega
 have HN' : w.heap.size≠bb:=by omega
 clear hC
 go_enter Tryz.func38,Tryz.ntmps38
 go_wp2_with fail
 refine HC.out.mono ?_
 rintro x w1 ⟨rfl,hb1,hr1,h3⟩
 have HB1:=hid hb1
 have HR1:=hid hr1
 have H3:=hid h3
 have HB2:=hid (hb1.alloc (.cells #[.int .i64 0, .int .i64 0, .int .i64 0, .slice none 0 0, .int .i64 0] 56))
 have HR2:=hid (hr1.alloc (.cells #[.int .i64 0, .int .i64 0, .int .i64 0, .slice none 0 0, .int .i64 0] 56))
 have hlt1:=hb1.lt
 have hlr1:=hr1.lt
 have d0:=HB2.out.k0
 clear hb1 hr1 h3 HC c0
 go_wp2_with fail
 refine H3.out.mono ?_
 rintro x w3 ⟨va,vn,vc,e,a,d,ra,rn,rc,c,rfl,hP,b3⟩
 have HP:=hid hP
 have HB3:=hid b3
 have HR:=hid (HR2.out.below b3)
 have HBB:=hid (HB2.out.below b3)
 have HS:Hid (Bk w3 w1.heap.size [.int .i64 0, .int .i64 0, .int .i64 0, .slice none 0 0, .int .i64 0]):=(Bk.new w1 #[.int .i64 0, .int .i64 0, .int .i64 0, .slice none 0 0, .int .i64 0] 56).below b3
 obtain ⟨⟨k0,k1,k2,k3,k4⟩,f0,f1,f2,f3,f4⟩:=HR.out.five
 obtain ⟨⟨j0,j1,j2,j3,j4⟩,h0,h1,h2,h3,h4⟩:=HS.out.five
 have n1:bb≠w1.heap.size:=by omega
 have n2:w1.heap.size≠bb:=by omega
 have n3:w.heap.size≠w1.heap.size:=by omega
 have n4:w1.heap.size≠w.heap.size:=by omega
 have g0:=HBB.out.k0
 have gf:=HBB.out.f 0
 clear hP b3 H3
 go_wp2_with fail
 exact bodyPost_ret (v:=enRes e a d (.slice ra rn rc) c) (by simp [results,Tryz.results38,go_sem,enRes, *]) rfl ⟨va,vn,vc,e,a,d,ra,rn,rc,c,w1,w3,rfl,HP.out,hlr1,HB3.out,rfl⟩
end Go.Proofs.YtgnncnhkgmhngaaGreatDoor
