import Derived.Test.YtgnncnhkgmhngaaGreatDoorJ45
set_option maxHeartbeats 4000000
set_option maxRecDepth 100000
namespace Go.Proofs.YtgnncnhkgmhngaaGreatDoor
open Sp
open Go.RowKit Go.Sort
theorem nO.Zd {C:Nat->Prop} {base:Nat} {w:World} {va:Option Addr} {n vc:Nat} {l:List (Sp.Bs×Int)} {x:Sp.Bs} (h:nO base w (.slice va n vc) l) (hC:∀ b,base<=b->C b) (hl:l.length<=50):eL C w ⟨x,l, []⟩ ⟨bz x,va,n,vc,none,0,0⟩:=by
 have h1:=h.tb (Gr.refl w) hl
 have hb:=aB h
 refine ⟨rfl,?_,hl,rfl, .inl ⟨rfl,rfl,rfl⟩,by simp⟩
 rcases h1.cols with h2 | ⟨b,off,e1,e2,e3,e4⟩
 ·exact .inl h2
 ·refine .inr ⟨b,off,e1,e2,?_,e4⟩
  have e1' : va=some ⟨b,off,none⟩:=e1
  exact hC b (hb b (by rw [e1'];rfl)).1
theorem flat3 (ns:List (Nm×Int)) (j d:Nat) (hj:j<ns.length) (hd:d<3):(ns.flatMap mM)[j*3+d]?=(mM ns[j])[d]?:=by
 have h:=mO 3 (ns.map mM) (λx hx=>by obtain ⟨n,_,rfl⟩:=List.mem_map.1 hx;rfl) j d (mM ns[j]) (by simp [hj]) hd
 rw [List.flatMap_def]
 exact h
theorem Kc {w:World} {b o:Nat} {v:Value} {ob:Obj} (h:w.cell? ⟨b,o,none⟩=some v):(w.alloc ob).cell? ⟨b,o,none⟩=some v:=(((Gr.refl w).alloc ob).cell (p:=⟨b,o,none⟩) (cell_lt h)).trans h
theorem L2 {w1 wr w3 w5:World} {x y z:Value} {va:Option Addr} {j vc:Nat} {xs:List Value} {o:Obj} (hB:B3 wr w1.heap.size x y z) (_hBl:RowKit.Below w1.heap.size w1 wr) (h3:RowKit.Below wr.heap.size wr w3) (hg:(w3.alloc o).grownBy w5 (Value.slice va j vc).ownBlock) (hO:(w3.alloc o).ownsRow (w1.heap.size+1) 264 2 (.slice va j vc) j xs):B3 w5 w1.heap.size x y z:=by
 have hz:=h3.size
 have hlt:=hB.lt
 refine hB.same (by have:=hg.size;simp at this;omega) ?_
 refine (hg.block _ (by simp;omega) (λe=>by have:=(aB hO _ e.symm).1;omega)).trans ((kX w3 _ _ (by omega)).trans (h3.block _ hlt))
theorem Ke {w1 wr w3 w5:World} {nv:Value} {va:Option Addr} {j vc g' c' : Nat} {cs:List (Sp.Bs×Int)} {cw:Sp.Bs} {ct:Int} {o:Obj} (hB:B3 w5 w1.heap.size nv (.slice va j vc) (.slice none 0 0)) (hBl:RowKit.Below w1.heap.size w1 wr) (h3:RowKit.Below wr.heap.size wr w3) (hg:(w3.alloc o).grownBy w5 (Value.slice va j vc).ownBlock) (hO:(w3.alloc o).ownsRow (w1.heap.size+1) 264 2 (.slice va j vc) j (oQ cs)) (hown:w5.ownsRow (w1.heap.size+1) 264 2 (.slice (some ⟨g',0,none⟩) (j+1) c') (j+1) (oQ cs ++ [.string (bz cw), .int .i64 ct])) (hl:cs.length=j) :
  B3 (w5.setCell ⟨w1.heap.size,1,none⟩ (.slice (some ⟨g',0,none⟩) (j+1) c')) w1.heap.size nv (.slice (some ⟨g',0,none⟩) (j+1) c') (.slice none 0 0)/\nO (w1.heap.size+1) (w5.setCell ⟨w1.heap.size,1,none⟩ (.slice (some ⟨g',0,none⟩) (j+1) c')) (.slice (some ⟨g',0,none⟩) (j+1) c') (cs ++ [(cw,ct)])/\RowKit.Below w1.heap.size w1 (w5.setCell ⟨w1.heap.size,1,none⟩ (.slice (some ⟨g',0,none⟩) (j+1) c')):=by
 have hz:wr.heap.size<=w3.heap.size:=h3.size
 have hz1:w1.heap.size<=wr.heap.size:=hBl.size
 refine ⟨?_,?_,?_⟩
 ·obtain ⟨lt,c0,c1,c2,f0,f1,f2⟩:=hB
  refine ⟨by simpa [World.setCell] using lt,?_,?_,?_,?_,?_,?_⟩ <;> go_simp
 ·unfold nO
  rw [<- xH,List.length_append,hl]
  have hk:=aB hown
  obtain ⟨h1,h | ⟨g,cap,cur,hv,h0,hc,r⟩⟩:=hown
  ·cases h.1
  ·have hgg:g=g':=by injection hv with e1 _ _;injection e1 with e1;injection e1 with e1;exact e1.symm
   subst hgg
   exact ⟨h1, .inr ⟨g,cap,cur,hv,h0,(dQ _ _ _ _ (show g≠w1.heap.size by omega)).trans hc,r⟩⟩
 ·have hb:RowKit.Below w1.heap.size w1 (w3.alloc o):=(hBl.trans (h3.mono hz1)).alloc (by omega) _
  have h5:RowKit.Below w1.heap.size w1 w5:=⟨hg.os.trans hb.os,hg.tape.trans hb.tape,hg.output.trans hb.output,cE hb.size hg.size,λk hk=>(hg.block k (by have:=hb.size;omega) (λe=>by have:=(aB hO k e.symm).1;omega)).trans (hb.block k hk)⟩
  exact h5.setCell (p:=⟨w1.heap.size,1,none⟩) (aF _) _
theorem An {C:Nat->Prop} {nm:Nm} {ns:List (Nm×Int)} {lo hi:Nat} {pv:Value} {w:World} (hC:∀ j,w.heap.size<=j->C j) (hV:Jo w nm ns lo hi pv) (hh:hi<=w.heap.size) (hn:ns.length<=50) (hs:(bz nm.1).size<=100000) (hs2:∀ x∈ns,(bz x.1.1).size<=100000) :
  Calls Tryz.prog 87 #[pv] w λe w'=>∃ v,e = .returned v/\(∃ V,v=sE V/\eL C w' ⟨nm.1,ns.map λx=>(x.1.1,x.2), []⟩ V)/\RowKit.Below w.heap.size w w':=by
 obtain ⟨q,sl,rfl,l1,l2,hA,g,kc,rfl,g1,g2,hcl⟩:=hV
 have b0:=hA.k0
 have b2:=hA.k2
 have AC:=hA.1
 have vF:=hid hcl
 have HC:=hid hC
 have HK:=hid (λw'=>clone_any (bz nm.1) w' hs)
 have HS2:=hid hs2
 obtain ⟨n,hnn⟩:∃ n,n=ns.length:=⟨_,rfl⟩
 have HN:=hid hnn
 rw [<- hnn] at b2 hn
 obtain ⟨i0,ji,fR,jz1,fS⟩:=info_parts Fi
 have G0:=hid ((Gr.refl w).alloc (.cells #[.string ⟨#[]⟩, .slice none 0 0, .slice none 0 0] 187))
 clear hA hcl hC hs2 hnn
 go_enter Tryz.func87,Tryz.ntmps87
 go_wp2_with fail
 refine (HK.out _).mono ?_
 rintro e w1 ⟨rfl,b1⟩
 have HRs:Hid (B3 w1 w.heap.size (.string ⟨#[]⟩) (.slice none 0 0) (.slice none 0 0)):=(B3.new w _ _ _ _).same b1.size (b1.block _ (by simp))
 have HB1:Hid (RowKit.Below w.heap.size w w1):=G0.out.below.trans (b1.mono G0.out.size)
 have hz1:w.heap.size+1<=w1.heap.size:=by have:=b1.size;simpa using this
 have c2:=(HB1.out.cell (p:=⟨q,2,none⟩) AC).trans b2
 have Ud:q<w1.heap.size:=by omega
 clear b1
 go_wp2_with fail
 go_loopw [18] (λi wr=>∃ (j:Nat) (va:Option Addr) (vc:Nat),j<=n/\i = .int .i64 (j:Nat)/\Hid (B3 wr w1.heap.size (.string (bz nm.1)) (.slice va j vc) (.slice none 0 0))/\Hid (nO (w1.heap.size+1) wr (.slice va j vc) ((ns.take j).map λx=>(x.1.1,x.2)))/\Hid (RowKit.Below w1.heap.size w1 wr)) (λi _=>n - (intOf i).toNat)
 case atStart=>exact ⟨0,none,0,fO _,rfl,B3.new w1 _ _ _ _,nO.nil _ _,((Gr.refl w1).alloc _).below⟩
 case round=>
  obtain ⟨j,va,vc,hj,rfl,UK,WE,AD⟩:=hrel
  by_cases hlt:j<n
  ·have hjs:j<ns.length:=by have:=HN.out;omega
   have y0:=vF.out (j*3+0) _ ((flat3 ns j 0 hjs (by omega)).trans rfl)
   have y1:=vF.out (j*3+1) _ ((flat3 ns j 1 hjs (by omega)).trans rfl)
   have y2:=vF.out (j*3+2) _ ((flat3 ns j 2 hjs (by omega)).trans rfl)
   rw [Nat.add_zero] at y0
   have hgw:g<w.heap.size:=by omega
   have hgw1:g<w1.heap.size:=by omega
   have a0:=(AD.out.cell (p:=⟨g,j*3,none⟩) hgw1).trans ((HB1.out.cell (p:=⟨g,j*3,none⟩) hgw).trans y0)
   have a1:=(AD.out.cell (p:=⟨g,j*3+1,none⟩) hgw1).trans ((HB1.out.cell (p:=⟨g,j*3+1,none⟩) hgw).trans y1)
   have a2:=(AD.out.cell (p:=⟨g,j*3+2,none⟩) hgw1).trans ((HB1.out.cell (p:=⟨g,j*3+2,none⟩) hgw).trans y2)
   have o9:Hid ((ns.take (j+1)).map (λx=>(x.1.1,x.2))=(ns.take j).map (λx=>(x.1.1,x.2)) ++ [(ns[j].1.1,ns[j].2)]):=by show _=_;rw [uV hjs,List.map_append];rfl
   have Az:=hid (λw'=>clone_any (bz ns[j].1.1) w' (HS2.out _ (jD hjs)))
   have hlj:((ns.take j).map λx=>(x.1.1,x.2)).length=j:=by rw [List.length_map,List.length_take];omega
   obtain ⟨sx,hsx⟩:∃ sx,sx=ns[j]:=⟨_,rfl⟩
   rw [<- hsx] at a0 a1 a2 o9 Az
   clear hsx y0 y1 y2
   obtain ⟨⟨cw,ca⟩,ct⟩:=sx
   simp only [] at a0 a1 a2 o9 Az
   have hO:wr.ownsRow (w1.heap.size+1) 264 2 (.slice va j vc) j (oQ ((ns.take j).map λx=>(x.1.1,x.2))):=by have h:=WE.out;unfold nO at h;rw [hlj] at h;exact h
   have HO:=hid hO
   generalize hcs:(ns.take j).map (λx=>(x.1.1,x.2))=cs at *
   clear hcs hO
   obtain ⟨m0,m1,m2,m3,m4,m5,m6⟩:=UK.out
   have hz:=AD.out.size
   have hjb:j<50:=by omega
   obtain ⟨wA,hwA⟩:∃ wA,wA=wr.alloc (.cells #[.string (bz cw), .int .i64 (ca:Int), .int .i64 ct] 228):=⟨_,rfl⟩
   have GA:Hid (Gr wr wA):=by show Gr _ _;rw [hwA];exact (Gr.refl wr).alloc _
   have QY:wA.heap.size=wr.heap.size+1:=by rw [hwA];simp
   have z0:wA.cell? ⟨wr.heap.size,0,none⟩=some (.string (bz cw)):=by rw [hwA];simp
   have z2:wA.cell? ⟨wr.heap.size,2,none⟩=some (.int .i64 ct):=by rw [hwA];simp
   have p0:=(GA.out.cell (p:=⟨w1.heap.size,1,none⟩) m0).trans m2
   have p1:=(GA.out.frozen (p:=⟨w1.heap.size,1,none⟩) m0).trans m5
   go_wp2_with fail
   rw [<- hwA]
   clear hwA a0 a1 a2
   go_region_law (first
    | (have _hx:=qC;refine step_append_lies _ (by rfl) _ _ _ (by rfl) (w1.heap.size+1) 264 i0 (.agg #[.string ⟨#[]⟩, .int .i64 0]) 2 24 Tryz.underlying185 ji fR jz1 fS rfl (by omega) (.slice va j vc) j (oQ cs) (by rfl) qC ⟨w3.heap.size,0,none⟩ 1 1 [.string (bz cw), .int .i64 ct] (by rfl) (by rfl) (World.news_of_block (cs:=#[.string (bz cw), .int .i64 ct]) (t:=264) (fr:=(0,0)) (heap_alloc_new w3 _)) (zO _ _) (by omega) (by unfold maxLen;omega) (by omega) (by simp;omega) (w3.heap.size+1) (by simp) ?_;intro g' gE w5 hown hgrow hat hlt';have xA:=L2 UK.out (AD.out) HB3.out hgrow qC;obtain ⟨v0,v1,v2,v3,v4,v5,v6⟩:=xA)
    | (go_simp;go_at_call 142;refine (Az.out _).mono ?_;rintro e3 w3 ⟨rfl,Ib⟩;have HB3:Hid (RowKit.Below wr.heap.size wr w3):=((GA.out.drew).below.trans (Ib.mono GA.out.drew.size));have hz3:=HB3.out.size;have hzw:wr.heap.size+1<=w3.heap.size:=(by have h:=Ib.size;have h' : wA.heap.size<=w3.heap.size:=h;omega);have q0:=(Ib.cell (p:=⟨wr.heap.size,0,none⟩) (by show wr.heap.size<wA.heap.size;omega)).trans z0;have q2:=(Ib.cell (p:=⟨wr.heap.size,2,none⟩) (by show wr.heap.size<wA.heap.size;omega)).trans z2;have r0:=(Ib.cell (p:=⟨w1.heap.size,1,none⟩) (by show w1.heap.size<wA.heap.size;omega)).trans p0;have hlt3:w1.heap.size<w3.heap.size:=(by omega);have hlt4:wr.heap.size<w3.heap.size:=(by omega);have r1:=Kc (ob := .cells #[.string (bz cw), .int .i64 ct] 264) r0;have qC:(w3.alloc (.cells #[.string (bz cw), .int .i64 ct] 264)).ownsRow (w1.heap.size+1) 264 2 (.slice va j vc) j (oQ cs):=aH (aH HO.out HB3.out) ((Gr.refl w3).alloc _).below;clear Ib))
   all_goals
    have HX:=hid (Ke ⟨v0,v1,v2,v3,v4,v5,v6⟩ AD.out HB3.out hgrow qC hown hlj)
    clear hown hgrow hat qC _hx
    go_wp2_with fail
    go_roundw
    case rel=>exact ⟨j+1,some ⟨g',0,none⟩,gE,by omega,by go_num,HX.out.1,by rw [o9.out];exact HX.out.2.1,HX.out.2.2⟩
    case measure=>simp [intOf];omega
  ·obtain rfl:j=n:=by omega
   have SL:Hid (nO (w1.heap.size+1) wr (.slice va j vc) (ns.map λx=>(x.1.1,x.2))):=by
    have h:=WE.out
    rw [HN.out,List.take_length] at h
    rw [HN.out]
    exact h
   have hz:=AD.out.size
   have sJ:Hid (B3 wr w.heap.size (.string ⟨#[]⟩) (.slice none 0 0) (.slice none 0 0)):=HRs.out.same AD.out.size (AD.out.block _ HRs.out.lt)
   obtain ⟨m0,m1,m2,m3,m4,m5,m6⟩:=UK.out
   obtain ⟨r0,r1,r2,r3,r4,r5,r6⟩:=sJ.out
   have Uq:Hid (RowKit.Below w.heap.size w wr):=HB1.out.trans (AD.out.mono (by omega))
   clear hlt
   go_wp2_with fail
   refine cL (v := .agg #[.string (bz nm.1), .slice va j vc, .slice none 0 0]) (by simp [results,Tryz.results87,go_sem,r1,r2,r3]) rfl ⟨_,rfl,⟨⟨bz nm.1,va,j,vc,none,0,0⟩,rfl,?_⟩,?_⟩
   ·have h1:eL (λb=>w1.heap.size+1<=b) wr ⟨nm.1,ns.map λx=>(x.1.1,x.2), []⟩ ⟨bz nm.1,va,j,vc,none,0,0⟩:=SL.out.Zd (λb hb=>hb) (by rw [List.length_map,<- HN.out];exact hn)
    refine (h1.blk (by simp [World.setCell]) λb hb _=>?_).to λb hb _=>HC.out b (by omega)
    exact (dQ _ _ _ _ (show b≠w.heap.size by omega)).trans ((dQ _ _ _ _ (show b≠w.heap.size by omega)).trans (dQ _ _ _ _ (show b≠w.heap.size by omega)))
   ·exact ((Uq.out.setCell (p:=⟨w.heap.size,0,none⟩) (aF _) _).setCell (p:=⟨w.heap.size,1,none⟩) (aF _) _).setCell (p:=⟨w.heap.size,2,none⟩) (aF _) _
def Er (T:List Sp.Tb) (l:List (Nm×Nm)):Nat:=(l.map λs=>((aG s.1.1 T).getD iR).cols.length).sum
theorem Kf (T:List Sp.Tb) (l:List (Nm×Nm)) (x:Nm×Nm):Er T (l ++ [x])=Er T l+((aG x.1.1 T).getD iR).cols.length:=by simp [Er]
theorem OI {T:List Sp.Tb} (h:∀ t∈T,t.cols.length<=50) (l:List (Nm×Nm)):Er T l<=50*l.length:=by
 induction l with
 | nil=>simp [Er]
 | cons x l ih=>
  have h1:((aG x.1.1 T).getD iR).cols.length<=50:=by
   cases hf:aG x.1.1 T with
   | none=>simp [iR]
   | some t=>exact h t (iK hf)
  simp only [Er,List.map_cons,List.sum_cons,List.length_cons] at ih ⊢
  omega
theorem rZ (w:World) (t e:TypeId) (a:Option Addr) (n c n' c' : Nat) (h:Tryz.prog.underlying t=some (.slice e)):(binOp .neq t (.slice a n c) (.slice none n' c')).run Tryz.prog w = .ok (.bool a.isSome) w:=by
 simp only [binOp]
 simp [Op.equal,Op.maxDepth,Lib.run_equalIn_slice_nil w 9999 t e a n c n' c' h]
theorem r7 {k sb st blk c:Nat} {T:List Sp.Tb} {src:List (Nm×Nm)} {di:Bool} {wv tv:Value} {w:World} (hs:At w sb [.bool di, .int .i64 (st:Int), .slice none 0 0, .slice (some ⟨blk,0,none⟩) src.length c,wv]) (ht:sF k w T tv) (hsr:fX w blk 0 src) (hb:blk<w.heap.size) (hm:src.length<=1000) (hf:∀ x∈src,(aG x.1.1 T).isSome=true) (hTc:∀ t∈T,t.cols.length<=50) :
  Calls Tryz.prog 153 #[tv, .pointer (some ⟨sb,0,none⟩)] w λe w'=>e = .returned (.int .i64 (Er T src:Nat))/\RowKit.Below w.heap.size w w':=by
 have b2:=hs.k2
 have b3:=hs.k3
 have hbw:=hs.1
 have HT:=hid ht
 have HS:=hid hsr
 have HF:=hid hf
 have HTc:=hid hTc
 obtain ⟨ta,tn,YB,rfl⟩:∃ a n c,tv = .slice a n c:=by
  rcases ht.2.2 with ⟨_,e⟩ | ⟨b,off,c,V,e,_⟩
  ·exact ⟨_,_,_,e⟩
  ·exact ⟨_,_,_,e⟩
 obtain ⟨n,hnn⟩:∃ n,n=src.length:=⟨_,rfl⟩
 have HN:=hid hnn
 rw [<- hnn] at hm b3
 have hq:=λ(w' : World)=>rZ w' 237 _ none 0 0 0 0 Tryz.underlying237
 simp only [Option.isSome_none] at hq
 clear ht hsr hf hTc hnn hs
 go_enter Tryz.func153,Tryz.ntmps153
 go_wp2_with fail
 go_loopw [5,25] (λv i wr=>∃ j:Nat,j<=n/\i = .int .i64 (j:Nat)/\v = .int .i64 (Er T (src.take j):Nat)/\Hid (RowKit.Below w.heap.size w wr)) (λ_ i _=>n - (intOf i).toNat)
 case atStart=>exact ⟨0,fO _,rfl,rfl,Below.refl _ _⟩
 case round=>
  obtain ⟨j,hj,rfl,rfl,HB⟩:=hrel
  by_cases hlt:j<n
  ·have hjs:j<src.length:=by have:=HN.out;omega
   obtain ⟨q0,q1,q2,q3⟩:=fX.at_ src 0 j hjs HS.out
   have c0:=(HB.out.cell (p:=⟨blk,0+j*4,none⟩) hb).trans q0
   have c1:=(HB.out.cell (p:=⟨blk,0+j*4+1,none⟩) hb).trans q1
   have c2:=(HB.out.cell (p:=⟨blk,0+j*4+2,none⟩) hb).trans q2
   have c3:=(HB.out.cell (p:=⟨blk,0+j*4+3,none⟩) hb).trans q3
   rw [Nat.zero_add] at c0 c1 c2 c3
   clear q0 q1 q2 q3
   have HFj:=hid (HF.out _ (jD hjs))
   have o9:=hid (congrArg (Er T) (uV hjs))
   rw [Kf] at o9
   have hle:=OI HTc.out (src.take j)
   have hlj:(src.take j).length<=1000:=by rw [List.length_take];omega
   obtain ⟨sx,hsx⟩:∃ sx,sx=src[j]:=⟨_,rfl⟩
   rw [<- hsx] at c0 c1 c2 c3 HFj o9
   clear hsx
   obtain ⟨⟨tw,ta'⟩,cw,ca⟩:=sx
   simp only [] at c0 c1 c2 c3 HFj o9
   rcases xS HT.out tw with ⟨e,_⟩ | ⟨t,V,e,hT1,F⟩
   ·have:=HFj.out;rw [e] at this;cases this
   rw [e,Option.getD_some] at o9
   have hcl:V.cl=t.cols.length:=by
    rcases hT1.cols with ⟨e1,_,e2,_⟩ | ⟨b,off,_,e2,_⟩
    ·rw [e2,e1];rfl
    ·exact e2
   have UL:=hT1.iC
   have Nb:=hid F
   clear e F hT1
   obtain ⟨vn,Om,On,Oo,CY,CZ,C0⟩:=V
   simp only [] at hcl
   rw [<- hcl] at o9 UL
   clear hcl
   generalize Er T (src.take j)=D at *
   have GA:=hid ((Gr.refl wr).alloc (.cells #[.string (bz tw), .int .i64 (ta' : Int), .string (bz cw), .int .i64 (ca:Int)] 337))
   have Un:Hid (Low k w (wr.alloc (.cells #[.string (bz tw), .int .i64 (ta' : Int), .string (bz cw), .int .i64 (ca:Int)] 337))):=Low.JY (HB.out.trans (GA.out.below.mono HB.out.size))
   go_wp2_with fail
   refine (Nb.out _ Un.out).mono ?_
   rintro e w2 ⟨rfl,g2⟩
   have HB2:Hid (RowKit.Below w.heap.size w w2):=HB.out.trans ((GA.out.trans g2).below.mono HB.out.size)
   have HB3:Hid (RowKit.Below w.heap.size w (w2.alloc (.cells #[.string vn, .slice Om On Oo, .slice CY CZ C0] 187))):=HB2.out.alloc HB2.out.size _
   clear g2 c0 c1 c2 c3
   go_wp2_with fail
   go_roundw
   case rel=>exact ⟨j+1,by omega,by go_num,by rw [o9.out];go_num,HB3⟩
   case measure=>simp [intOf];omega
  ·obtain rfl:j=n:=by omega
   have HE:Hid (Er T (src.take j)=Er T src):=by show _=_;rw [HN.out,List.take_length]
   clear hlt
   go_wp2_with fail
   go_ret
   exact ⟨by rw [<- HE.out];rfl,HB.out⟩
theorem p8 {sb st g off n cap:Nat} {di:Bool} {fv wv:Value} {ta:Option Addr} {tn tc:Nat} {w:World} (hs:At w sb [.bool di, .int .i64 (st:Int), .slice (some ⟨g,off,none⟩) n cap,fv,wv]) :
  Calls Tryz.prog 153 #[.slice ta tn tc, .pointer (some ⟨sb,0,none⟩)] w λe w'=>e = .returned (.int .i64 (n:Nat))/\RowKit.Below w.heap.size w w':=by
 have b2:=hs.k2
 have hbw:=hs.1
 have hq:=λ(w' : World)=>rZ w' 237 _ (some ⟨g,off,none⟩) n cap 0 0 Tryz.underlying237
 simp only [Option.isSome_some] at hq
 clear hs
 go_enter Tryz.func153,Tryz.ntmps153
 go_wp2_with fail
 go_ret
 exact ⟨rfl,Below.refl _ _⟩
theorem x7 {b:Nat} {ta:Option Addr} {tn tc:Nat} {z:Int} {w:World} (hC:Calls Tryz.prog 153 #[.slice ta tn tc, .pointer (some ⟨b,0,none⟩)] w λr w'=>r = .returned (.int .i64 z)/\RowKit.Below w.heap.size w w') :
  Calls Tryz.prog 92 #[.slice ta tn tc, .iface 278 (.pointer (some ⟨b,0,none⟩))] w λr w'=>r = .returned (.int .i64 z)/\RowKit.Below w.heap.size w w':=by
 have HC:=hid hC
 have t1:=Nl
 clear hC
 go_enter Tryz.func92,Tryz.ntmps92
 go_wp2_with fail
 refine HC.out.mono ?_
 rintro e w1 ⟨rfl,h⟩
 have H:=hid h
 clear h
 go_wp2_with fail
 exact cL (v := .int .i64 z) (by simp [results,Tryz.results92,go_sem]) rfl ⟨rfl,H.out⟩
abbrev res0 (w:World):World:=w.alloc (.cells #[.int .i64 0, .int .i64 0, .int .i64 0, .slice none 0 0, .int .i64 0] 56)
abbrev oX (w:World) (q:Nat) (a b c:Int) (v:Value) (d:Int):World:=((((w.setCell ⟨q,0,none⟩ (.int .i64 a)).setCell ⟨q,1,none⟩ (.int .i64 b)).setCell ⟨q,2,none⟩ (.int .i64 c)).setCell ⟨q,3,none⟩ v).setCell ⟨q,4,none⟩ (.int .i64 d)
theorem Hk {q:Nat} {ta:Option Addr} {tn tc:Nat} {w:World} {P:Value->Int->Int->Int->Value->Int->World->Prop} (hC:Calls Tryz.prog 89 #[.slice ta tn tc, .pointer (some ⟨q,0,none⟩)] (res0 w) λr w'=>∃ va vn vc e a d ra rn rc c,r = .returned (.tuple #[.slice va vn vc,eZ e a d (.slice ra rn rc) c])/\P (.slice va vn vc) e a d (.slice ra rn rc) c w'/\RowKit.Below (res0 w).heap.size (res0 w) w') :
  Calls Tryz.prog 52 #[.slice ta tn tc, .iface 169 (.pointer (some ⟨q,0,none⟩))] w λr w'=>∃ va vn vc e a d ra rn rc c w1,r = .returned (.tuple #[.slice va vn vc,eZ e a d (.slice ra rn rc) c])/\P (.slice va vn vc) e a d (.slice ra rn rc) c w1/\RowKit.Below (res0 w).heap.size (res0 w) w1/\w'=oX w1 w.heap.size e a d (.slice ra rn rc) c:=by
 have HC:=hid hC
 have t0:=jV
 have t1:=mP
 have t2:=jW
 clear hC
 go_enter Tryz.func52,Tryz.ntmps52
 go_wp2_with fail
 refine HC.out.mono ?_
 rintro x w1 ⟨va,vn,vc,e,a,d,ra,rn,rc,c,rfl,hP,hb⟩
 have HP:=hid hP
 have HB:=hid hb
 have HR:Hid (Bk w1 w.heap.size [.int .i64 0, .int .i64 0, .int .i64 0, .slice none 0 0, .int .i64 0]):=(Bk.new w #[.int .i64 0, .int .i64 0, .int .i64 0, .slice none 0 0, .int .i64 0] 56).below hb
 obtain ⟨⟨k0,k1,k2,k3,k4⟩,f0,f1,f2,f3,f4⟩:=HR.out.five
 clear hP hb
 go_wp2_with fail
 exact cL (v := .tuple #[.slice va vn vc,eZ e a d (.slice ra rn rc) c]) (by simp [results,Tryz.results52,go_sem,k0,k1,k2,k3,k4]) rfl ⟨va,vn,vc,e,a,d,ra,rn,rc,c,w1,rfl,HP.out,HB.out,rfl⟩
theorem Jo.bel {w w' : World} {nm:Nm} {ns:List (Nm×Int)} {lo hi:Nat} {v:Value} (h:Jo w nm ns lo hi v) (g:RowKit.Below w.heap.size w w') (hh:hi<=w.heap.size):Jo w' nm ns lo hi v:=by
 obtain ⟨q,sl,e,a,b,hA,hC⟩:=h
 exact ⟨q,sl,e,a,b,hA.same g.size (g.block q hA.1),hC.frame λk _ h2=>g.block k (by omega)⟩
theorem cD.oX {C:Nat->Prop} {w w1:World} {T:List Sp.Tb} {tv:Value} {a b c d:Int} {v:Value} (hC:∀ j,w.heap.size<=j->C j) (h:cD (λb=>(C b/\b<w.heap.size)\/w.heap.size+1<=b) w1 T tv):cD C (Go.Proofs.YtgnncnhkgmhngaaGreatDoor.oX w1 w.heap.size a b c v d) T tv:=by
 refine (h.blk (by simp [World.setCell]) λb hb _=>cW (show b≠w.heap.size by rcases hb with hb | hb <;> omega) _ _ _ _ _).to λb hb _=>?_
 rcases hb with hb | hb
 ·exact hb.1
 ·exact hC b (by omega)
theorem Hl {C:Nat->Prop} {nm:Nm} {ns:List (Nm×Int)} {lo hi q:Nat} {T:List Sp.Tb} {tv:Value} {w:World} (hC:∀ j,w.heap.size<=j->C j) (ht:cD C w T tv) (hV:Jo w nm ns lo hi (.pointer (some ⟨q,0,none⟩))) (hh:hi<=w.heap.size) (hn:ns.length<=50) (hs:(bz nm.1).size<=100000) (hs2:∀ x∈ns,(bz x.1.1).size<=100000) (hTl:T.length<=800) :
  Calls Tryz.prog 52 #[tv, .iface 160 (.pointer (some ⟨q,0,none⟩))] w λr w'=>∃ v,r = .returned v/\(∃ tv',v = .tuple #[tv',eZ 0 0 0 (.slice none 0 0) 0]/\cD C w' (i8 ⟨nm.1,ns.map λx=>(x.1.1,x.2), []⟩ T) tv')/\RowKit.Below w.heap.size w w':=by
 obtain ⟨ta,tn,tc,rfl⟩:=ht.sl
 have HC:=hid hC
 have G0:=hid ((Gr.refl w).alloc (.cells #[.int .i64 0, .int .i64 0, .int .i64 0, .slice none 0 0, .int .i64 0] 56))
 have hz0:(res0 w).heap.size=w.heap.size+1:=by simp [res0]
 have HT:Hid (cD (λb=>(C b/\b<w.heap.size)\/w.heap.size+1<=b) (res0 w) T (.slice ta tn tc)):=(ht.to λb h1 h2 => .inl ⟨h1,h2⟩).bel G0.out.below
 have HN:=hid (An (C:=λb=>(C b/\b<w.heap.size)\/w.heap.size+1<=b) (w:=res0 w) (λj hj => .inr (by omega)) (hV.bel G0.out.below hh) (by omega) hn hs hs2)
 have t0:=jU
 clear ht hV hC hs2
 go_enter Tryz.func52,Tryz.ntmps52
 go_wp2_with fail
 refine HN.out.mono ?_
 rintro x w1 ⟨v1,rfl,⟨V1,rfl,hV1⟩,b1⟩
 have HB1:=hid b1
 obtain ⟨VL,Rk,OH,Y9⟩:=(HT.out.bel b1).Wd
 have Za:VL.length=T.length:=OH.len.symm
 have OA:=hid (xQ (t:=V1) Rk (by omega))
 have Ze:=hid hV1
 have UJ:=hid OH
 clear hV1 b1 Rk OH HN
 go_wp2_with fail
 refine OA.out.mono ?_
 rintro x w2 ⟨v2,rfl,o2,b2⟩
 have hz1:=HB1.out.size
 have Jw:=hid (Cx (λj hj => .inr (by omega)) UJ.out Ze.out o2 b2 (by omega))
 have HB2:Hid (RowKit.Below (res0 w).heap.size (res0 w) w2):=HB1.out.trans (b2.mono HB1.out.size)
 have HR:Hid (Bk w2 w.heap.size [.int .i64 0, .int .i64 0, .int .i64 0, .slice none 0 0, .int .i64 0]):=(Bk.new w #[.int .i64 0, .int .i64 0, .int .i64 0, .slice none 0 0, .int .i64 0] 56).below HB2.out
 obtain ⟨⟨k0,k1,k2,k3,k4⟩,f0,f1,f2,f3,f4⟩:=HR.out.five
 obtain ⟨va,vc,rfl⟩:=o2.sl
 clear o2 b2 OA
 go_wp2_with fail
 refine cL (v := .tuple #[_,eZ 0 0 0 (.slice none 0 0) 0]) (by simp [results,Tryz.results52,go_sem,k0,k1,k2,k3,k4]) rfl ⟨_,rfl,⟨_,rfl,cD.oX HC.out Jw.out⟩,?_⟩
 exact kQ (G0.out.below.trans (HB2.out.mono G0.out.size)) (aF _) _ _ _ _ _
theorem x8 {ty:TypeId} (hty:ty=278\/ty=280) {q:Nat} {ta:Option Addr} {tn tc:Nat} {z:Int} {P:Value->World->Prop} {w:World}
  (hW:∀ W,RowKit.Below w.heap.size w W->Calls Tryz.prog 92 #[.slice ta tn tc, .iface ty (.pointer (some ⟨q,0,none⟩))] W λr w'=>r = .returned (.int .i64 z)/\RowKit.Below W.heap.size W w')
  (hQ:∀ W iv,RowKit.Below w.heap.size w W->w.heap.size<W.heap.size->pW W (.slice ta tn tc) [] iv->Calls Tryz.prog 93 #[.iface ty (.pointer (some ⟨q,0,none⟩)),iv] W λr w'=>∃ a n c,r = .returned (.slice a n c)/\P (.slice a n c) w'/\RowKit.Below W.heap.size W w') :
  Calls Tryz.prog 52 #[.slice ta tn tc, .iface ty (.pointer (some ⟨q,0,none⟩))] w λr w'=>∃ a n c w1,r = .returned (.tuple #[.slice ta tn tc,eZ 0 0 z (.slice a n c) 0])/\P (.slice a n c) w1/\RowKit.Below (res0 w).heap.size (res0 w) w1/\w'=oX w1 w.heap.size 0 0 z (.slice a n c) 0:=by
 have G0:=hid ((Gr.refl w).alloc (.cells #[.int .i64 0, .int .i64 0, .int .i64 0, .slice none 0 0, .int .i64 0] 56))
 have HW:=hid hW
 have HQ:=hid hQ
 have t0:∀ (v:Option Addr) (w:World),Sem.run Tryz.prog (Instr.typeAssert (.iface ty (.pointer v)) 90 160 true) w = .ok (.tuple #[.pointer none, .bool false]) w:=by rcases hty with rfl | rfl <;> first | exact jX | exact iE
 have t1:∀ (v:Option Addr) (w:World),Sem.run Tryz.prog (Instr.typeAssert (.iface ty (.pointer v)) 90 163 true) w = .ok (.tuple #[.pointer none, .bool false]) w:=by rcases hty with rfl | rfl <;> first | exact mQ | exact j6
 have t2:∀ (v:Option Addr) (w:World),Sem.run Tryz.prog (Instr.typeAssert (.iface ty (.pointer v)) 90 169 true) w = .ok (.tuple #[.pointer none, .bool false]) w:=by rcases hty with rfl | rfl <;> first | exact jY | exact iF
 have t3:∀ (v:Option Addr) (w:World),Sem.run Tryz.prog (Instr.typeAssert (.iface ty (.pointer v)) 90 171 true) w = .ok (.tuple #[.pointer none, .bool false]) w:=by rcases hty with rfl | rfl <;> first | exact jZ | exact iG
 have t4:∀ (v:Option Addr) (w:World),Sem.run Tryz.prog (Instr.typeAssert (.iface ty (.pointer v)) 90 176 true) w = .ok (.tuple #[.pointer none, .bool false]) w:=by rcases hty with rfl | rfl <;> first | exact j5 | exact iH
 have t5:∀ (v:Option Addr) (w:World),Sem.run Tryz.prog (Instr.typeAssert (.iface ty (.pointer v)) 90 179 true) w = .ok (.tuple #[.iface ty (.pointer v), .bool true]) w:=by rcases hty with rfl | rfl <;> first | exact kV | exact i7
 clear hty
 clear hW hQ
 go_enter Tryz.func52,Tryz.ntmps52
 go_wp2_with fail
 refine (HW.out _ G0.out.below).mono ?_
 rintro x w1 ⟨rfl,b1⟩
 have HB1:=hid b1
 have Rm:Hid (RowKit.Below w.heap.size w w1):=G0.out.below.trans (b1.mono G0.out.size)
 clear b1
 go_wp2_with fail
 refine (rV ta tn tc w1).mono ?_
 rintro x w2 ⟨v2,rfl,UM,g2⟩
 obtain ⟨nb,rfl,hnb,_⟩:=UM.ptr
 have UN:Hid (RowKit.Below w.heap.size w w2):=Rm.out.trans (g2.below.mono Rm.out.size)
 have HB2:Hid (RowKit.Below (res0 w).heap.size (res0 w) w2):=HB1.out.trans (g2.below.mono HB1.out.size)
 have KD:=hid (HQ.out w2 _ UN.out (by have:=HB2.out.size;simp [res0] at this;omega) UM)
 clear UM g2
 go_wp2_with fail
 refine KD.out.mono ?_
 rintro x w3 ⟨a,n,c,rfl,hP,b3⟩
 have HP:=hid hP
 have HB3:Hid (RowKit.Below (res0 w).heap.size (res0 w) w3):=HB2.out.trans (b3.mono HB2.out.size)
 have HR:Hid (Bk w3 w.heap.size [.int .i64 0, .int .i64 0, .int .i64 0, .slice none 0 0, .int .i64 0]):=(Bk.new w #[.int .i64 0, .int .i64 0, .int .i64 0, .slice none 0 0, .int .i64 0] 56).below HB3.out
 obtain ⟨⟨k0,k1,k2,k3,k4⟩,f0,f1,f2,f3,f4⟩:=HR.out.five
 clear hP b3 KD
 go_wp2_with fail
 exact cL (v := .tuple #[.slice ta tn tc,eZ 0 0 z (.slice a n c) 0]) (by simp [results,Tryz.results52,go_sem,k0,k1,k2,k3,k4]) rfl ⟨a,n,c,w3,rfl,HP.out,HB3.out,rfl⟩
theorem OJ {bb:Nat} {ta:Option Addr} {tn tc:Nat} {t:TypeId} {p:Option Addr} {P:World->Value->Int->Int->Int->Value->Int->World->Prop} {w:World}
  (htx:∀ w' : World,Sem.run Tryz.prog (Instr.typeAssert (.iface t (.pointer p)) 90 122 true) w' = .ok (.tuple #[.pointer none, .bool false]) w')
  (hbb:Bk w bb [.slice ta tn tc, .bool false, .slice none 0 0])
  (hC:Calls Tryz.prog 51 #[.slice ta tn tc, .iface t (.pointer p)] (res0 w) λr w1=>r = .returned (.tuple #[.int .i64 0, .int .i64 0])/\Bk w1 bb [.slice ta tn tc, .bool false, .slice none 0 0]/\Bk w1 w.heap.size [.int .i64 0, .int .i64 0, .int .i64 0, .slice none 0 0, .int .i64 0]/\
   (Calls Tryz.prog 52 #[.slice ta tn tc, .iface t (.pointer p)] (res0 w1) λr w3=>∃ va vn vc e a d ra rn rc c,r = .returned (.tuple #[.slice va vn vc,eZ e a d (.slice ra rn rc) c])/\P w1 (.slice va vn vc) e a d (.slice ra rn rc) c w3/\RowKit.Below (res0 w1).heap.size (res0 w1) w3)) :
  Calls Tryz.prog 38 #[.pointer (some ⟨bb,0,none⟩), .iface t (.pointer p)] w λr w'=>∃ va vn vc e a d ra rn rc c w1 w3,r = .returned (eZ e a d (.slice ra rn rc) c)/\P w1 (.slice va vn vc) e a d (.slice ra rn rc) c w3/\w.heap.size<w1.heap.size/\RowKit.Below (res0 w1).heap.size (res0 w1) w3/\
   w'=oX (oX (w3.setCell ⟨bb,0,none⟩ (.slice va vn vc)) w1.heap.size e a d (.slice ra rn rc) c) w.heap.size e a d (.slice ra rn rc) c:=by
 have c0:=hbb.k0
 have hlt:=hbb.lt
 have HC:=hid hC
 have t0:=htx
 have HN:bb≠w.heap.size:=by omega
 have HN' : w.heap.size≠bb:=by omega
 clear hC
 go_enter Tryz.func38,Tryz.ntmps38
 go_wp2_with fail
 refine HC.out.mono ?_
 rintro x w1 ⟨rfl,hb1,hr1,h3⟩
 have HB1:=hid hb1
 have HR1:=hid hr1
 have H3:=hid h3
 have HB2:=hid (hb1.alloc (.cells #[.int .i64 0, .int .i64 0, .int .i64 0, .slice none 0 0, .int .i64 0] 56))
 have HR2:=hid (hr1.alloc (.cells #[.int .i64 0, .int .i64 0, .int .i64 0, .slice none 0 0, .int .i64 0] 56))
 have hlt1:=hb1.lt
 have UO:=hr1.lt
 have d0:=HB2.out.k0
 clear hb1 hr1 h3 HC c0
 go_wp2_with fail
 refine H3.out.mono ?_
 rintro x w3 ⟨va,vn,vc,e,a,d,ra,rn,rc,c,rfl,hP,b3⟩
 have HP:=hid hP
 have HB3:=hid b3
 have HR:=hid (HR2.out.below b3)
 have SI:=hid (HB2.out.below b3)
 have HS:Hid (Bk w3 w1.heap.size [.int .i64 0, .int .i64 0, .int .i64 0, .slice none 0 0, .int .i64 0]):=(Bk.new w1 #[.int .i64 0, .int .i64 0, .int .i64 0, .slice none 0 0, .int .i64 0] 56).below b3
 obtain ⟨⟨k0,k1,k2,k3,k4⟩,f0,f1,f2,f3,f4⟩:=HR.out.five
 obtain ⟨⟨j0,j1,j2,j3,j4⟩,h0,h1,h2,h3,h4⟩:=HS.out.five
 have n1:bb≠w1.heap.size:=by omega
 have n2:w1.heap.size≠bb:=by omega
 have n3:w.heap.size≠w1.heap.size:=by omega
 have n4:w1.heap.size≠w.heap.size:=by omega
 have g0:=SI.out.k0
 have gf:=SI.out.f 0
 clear hP b3 H3
 go_wp2_with fail
 exact cL (v:=eZ e a d (.slice ra rn rc) c) (by simp [results,Tryz.results38,go_sem,eZ, *]) rfl ⟨va,vn,vc,e,a,d,ra,rn,rc,c,w1,w3,rfl,HP.out,UO,HB3.out,rfl⟩
end Go.Proofs.YtgnncnhkgmhngaaGreatDoor
