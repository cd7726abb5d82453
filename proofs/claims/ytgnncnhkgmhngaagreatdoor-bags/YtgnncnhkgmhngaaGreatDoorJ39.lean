import Derived.Test.YtgnncnhkgmhngaaGreatDoorJ38
set_option maxHeartbeats 4000000
set_option maxRecDepth 100000
namespace Go.Proofs.YtgnncnhkgmhngaaGreatDoor
open Sp
open Go.RowKit Go.Sort
theorem JX:(Tryz.prog.info? 32).map (λi=>(i.zero,i.size,i.bytes))=some (some (.slice none 0 0),1,24):=by kernel_rfl
theorem xS {k:Nat} {w:World} {T:List Sp.Tb} {v:Value} (h:sF k w T v) (x:Sp.Bs) :
  (aG x T=none/\∀ w1,Low k w w1->Calls Tryz.prog 146 #[v, .string (bz x)] w1 λe w'=>e = .returned (.tuple #[sE noT, .bool false])/\Gr w1 w')\/
  ∃ t tv,aG x T=some t/\nZ k w t tv/\∀ w1,Low k w w1->Calls Tryz.prog 146 #[v, .string (bz x)] w1 λe w'=>e = .returned (.tuple #[sE tv, .bool true])/\Gr w1 w':=by
 rcases h.2.2 with ⟨rfl,rfl⟩ | ⟨b,off,c,V,rfl,h2,h3,h4⟩
 ·exact .inl ⟨rfl,λw1 _=>AR _ w1⟩
 ·have F:=λw1 (g:Low k w w1)=>tC b off T.length c V (bz x) w1 h4.len.symm (by have:=h.1;omega) (h3.low g h2)
  rw [dJ] at F
  rcases h4.find x with ⟨e1,e2⟩ | ⟨t,tv,e1,e2,e3⟩
  ·rw [e2] at F;exact .inl ⟨e1,F⟩
  ·rw [e2] at F;exact .inr ⟨t,tv,e1,e3,F⟩
theorem Low.JY {k:Nat} {w w' : World} (h:RowKit.Below w.heap.size w w'):Low k w w':=⟨h.size,λj _ hs=>h.block j hs⟩
theorem Al.snoc {α β:Type} {R:α->β->Prop} {l:List α} {m:List β} {a:α} {b:β} (h:Al R l m) (hr:R a b):Al R (l ++ [a]) (m ++ [b]):=h.app ⟨hr,trivial⟩
theorem hU (a:Option Addr) (n c:Nat):∀ u∈([.slice a n c]:List Value),u.oneCell'=true:=λu hu=>by simp at hu;rw [hu];rfl
theorem Cb (w:World) (x:Value) (t:TypeId):∀ j u, [x][j]?=some u->(w.alloc (.cells #[x] t)).cell? (Addr.add ⟨w.heap.size,0,none⟩ j)=some u:=by
 intro j u hj
 rw [Addr.add_lit,Nat.zero_add,oZ,<- hj]
 match j with
 | 0=>rfl
 | j+1=>rfl
theorem Low.trans {k:Nat} {a b c:World} (h:Low k a b) (g:Low k b c):Low k a c:=⟨cE h.1 g.1,λj hj hs=>(g.2 j hj (bY hs h.1)).trans (h.2 j hj hs)⟩
theorem vU {k blk c:Nat} {T:List Sp.Tb} {tv:Value} {src:List (Nm×Nm)} {w₁ w:World} (ht:sF k w₁ T tv) (hlo:Low k w₁ w) (hs:fX w blk 0 src) (hb:blk<w.heap.size) (hn:src ≠ []) (hm:src.length<=1000) (hf:∀ x∈src,(aG x.1.1 T).isSome=true) :
  Calls Tryz.prog 196 #[tv, .slice (some ⟨blk,0,none⟩) src.length c] w λe w'=>∃ v,e = .returned v/\(∃ Bs tb tc vs,v = .func (.func 191) #[] #[.pointer (some ⟨Bs,0,none⟩)]/\Bs<w'.heap.size/\w'.cell? ⟨Bs,0,none⟩=some (.slice (some ⟨tb,0,none⟩) src.length tc)/\(w.heap.size<=tb/\tb<w'.heap.size)/\(∀ j,(h:j<vs.length)->w'.cell? ⟨tb,j,none⟩=some vs[j])/\Al (λv (x:Nm×Nm)=>∃ t V,v=V.rv/\aG x.1.1 T=some t/\nZ k w₁ t V) vs src)/\RowKit.Below w.heap.size w w':=by
 obtain ⟨i0,ji,fR,jz1,fS⟩:=info_parts JX
 have HT:=hid ht
 have Ul:=hid hlo
 have HS:=hid hs
 have HF:=hid hf
 obtain ⟨ta,tn,YB,rfl⟩:∃ a n c,tv = .slice a n c:=by
  rcases ht.2.2 with ⟨_,e⟩ | ⟨b,off,c,V,e,_⟩
  ·exact ⟨_,_,_,e⟩
  ·exact ⟨_,_,_,e⟩
 obtain ⟨n,hnn⟩:∃ n,n=src.length:=⟨_,rfl⟩
 have HN:=hid hnn
 have hpos:0<n:=by rw [hnn];exact List.length_pos_iff.2 hn
 rw [<- hnn] at hm ⊢
 clear ht hlo hs hf hnn hn
 go_enter Tryz.func196,Tryz.ntmps196
 go_wp2_with fail
 go_loopw [5,12] (λv i wr=>∃ (j:Nat) (vs:List Value) (va:Option Addr) (vc:Nat),j<=n/\i = .int .i64 (j:Nat)/\v = .slice va j vc/\Hid (wr.ownsRow w.heap.size 32 1 (.slice va j vc) j vs)/\Hid (Al (λv (x:Nm×Nm)=>∃ t V,v=V.rv/\aG x.1.1 T=some t/\nZ k w₁ t V) vs (src.take j))/\Hid (RowKit.Below w.heap.size w wr)) (λ_ i _=>n - (intOf i).toNat)
 case atStart=>exact ⟨0, [],none,0,fO _,rfl,rfl,World.ownsRow_nil _ _ _ _,trivial,Below.refl _ _⟩
 case round=>
  obtain ⟨j,vs,va,vc,hj,rfl,rfl,HO,HA,HB⟩:=hrel
  by_cases hlt:j<n
  ·have hjs:j<src.length:=by have:=HN.out;omega
   obtain ⟨q0,q1,q2,q3⟩:=fX.at_ src 0 j hjs HS.out
   have c0:=(HB.out.cell (p:=⟨blk,0+j*4,none⟩) hb).trans q0
   have c1:=(HB.out.cell (p:=⟨blk,0+j*4+1,none⟩) hb).trans q1
   have c2:=(HB.out.cell (p:=⟨blk,0+j*4+2,none⟩) hb).trans q2
   have c3:=(HB.out.cell (p:=⟨blk,0+j*4+3,none⟩) hb).trans q3
   rw [Nat.zero_add] at c0 c1 c2 c3
   clear q0 q1 q2 q3
   have HFj:=hid (HF.out _ (jD hjs))
   have o9:=hid (uV hjs)
   obtain ⟨sx,hsx⟩:∃ sx,sx=src[j]:=⟨_,rfl⟩
   rw [<- hsx] at c0 c1 c2 c3 HFj o9
   clear hsx
   obtain ⟨⟨tw,ta'⟩,cw,ca⟩:=sx
   simp only [] at c0 c1 c2 c3 HFj
   rcases xS HT.out tw with ⟨e,_⟩ | ⟨t,V,e,hT1,F⟩
   ·have:=HFj.out;rw [e] at this;cases this
   have Um:Hid (∃ t V',V.rv=V'.rv/\aG tw T=some t/\nZ k w₁ t V'):=⟨t,V,rfl,e,hT1⟩
   have Nb:=hid F
   clear e F hT1
   obtain ⟨vn,Om,On,Oo,CY,CZ,C0⟩:=V
   have GA:=hid ((Gr.refl wr).alloc (.cells #[.string (bz tw), .int .i64 (ta' : Int), .string (bz cw), .int .i64 (ca:Int)] 337))
   have Un:Hid (Low k w₁ (wr.alloc (.cells #[.string (bz tw), .int .i64 (ta' : Int), .string (bz cw), .int .i64 (ca:Int)] 337))):=Ul.out.trans (Low.JY (HB.out.trans (GA.out.below.mono HB.out.size)))
   go_wp2_with fail
   refine (Nb.out _ Un.out).mono ?_
   rintro e w2 ⟨rfl,g2⟩
   have G2:=hid (GA.out.trans g2)
   clear g2 c0 c1 c2 c3
   have hjb:j<1000:=by omega
   have fN:Hid (((w2.alloc (.cells #[.string vn, .slice Om On Oo, .slice CY CZ C0] 187)).alloc (.cells #[.slice CY CZ C0] 32)).ownsRow w.heap.size 32 1 (.slice va j vc) j vs):=aH (aH HO.out G2.out.below) (((Gr.refl w2).alloc _).alloc _).below
   have We:Hid (∀ q u,([.slice CY CZ C0]:List Value)[q]?=some u->((w2.alloc (.cells #[.string vn, .slice Om On Oo, .slice CY CZ C0] 187)).alloc (.cells #[.slice CY CZ C0] 32)).cell? ((⟨w2.heap.size+1,0,none⟩:Addr).add q)=some u):=by
    have h:=Cb (w2.alloc (.cells #[.string vn, .slice Om On Oo, .slice CY CZ C0] 187)) (.slice CY CZ C0) 32
    rw [World.size_alloc] at h
    exact h
   have HB2:Hid (RowKit.Below w.heap.size w ((w2.alloc (.cells #[.string vn, .slice Om On Oo, .slice CY CZ C0] 187)).alloc (.cells #[.slice CY CZ C0] 32))):=(HB.out.trans (G2.out.below.mono HB.out.size)).trans ((((Gr.refl w2).alloc _).alloc _).below.mono (cE HB.out.size G2.out.size))
   have H3:Hid (j+1<=maxLen):=by show _<=_;unfold maxLen;omega
   have H4:Hid ((j+1)*24<=140737488355328):=by show _<=_;omega
   have H5:Hid (w.heap.size<=((w2.alloc (.cells #[.string vn, .slice Om On Oo, .slice CY CZ C0] 187)).alloc (.cells #[.slice CY CZ C0] 32)).heap.size):=HB2.out.size
   go_wp2_with (at_builtin;go_must (refine wpList_append_own _ rfl (.tmp 24) (.tmp 27) 326 rfl w.heap.size 32 i0 (.slice none 0 0) 1 24 Tryz.underlying326 ji fR jz1 fS rfl (by decide) _ j _ rfl fN.out ⟨w2.heap.size+1,0,none⟩ 1 1 [.slice CY CZ C0] rfl rfl We.out (hU _ _ _) H3.out H4.out H5.out ?_))
   intro v' w3 hown hgrow hnil
   have HB3:=hid (below_grown HB2.out hgrow fN.out (aF _))
   obtain ⟨SB,SC,rfl⟩:∃ a c,v' = .slice a (j+1) c:=by
    obtain ⟨_,h | ⟨g',cap,cur,hv,_⟩⟩:=hown
    ·exact absurd h.2 (by omega)
    ·exact ⟨_,_,hv⟩
   have jG:=hid hown
   have LR:Hid (Al (λv (x:Nm×Nm)=>∃ t V,v=V.rv/\aG x.1.1 T=some t/\nZ k w₁ t V) (vs ++ [.slice CY CZ C0]) (src.take (j+1))):=by
    show Al _ _ _
    rw [o9.out]
    exact HA.out.snoc Um.out
   clear hown hgrow hnil fN We HB2 H3 H4 H5
   go_wp2_with fail
   go_roundw
   case rel=>exact ⟨j+1,vs ++ [.slice CY CZ C0],SB,SC,by omega,by go_num,rfl,jG,LR,HB3⟩
   case measure=>simp [intOf];omega
  ·obtain rfl:j=n:=by omega
   have HA2:Hid (Al (λv (x:Nm×Nm)=>∃ t V,v=V.rv/\aG x.1.1 T=some t/\nZ k w₁ t V) vs src):=by
    have:=HA.out
    rw [HN.out,List.take_length] at this
    exact this
   have hlv:vs.length=j:=HA2.out.len.trans HN.out.symm
   obtain ⟨g,cap,hv,hcells,hgz,hgl⟩:∃ g cap,(Value.slice va j vc) = .slice (some ⟨g,0,none⟩) j cap/\(∀ q,(h:q<vs.length)->wr.cell? ⟨g,q,none⟩=some vs[q])/\w.heap.size<=g/\g<wr.heap.size:=by
    have ho:=HO.out
    obtain ⟨_,h | ⟨g',cap,cur,hv,_⟩⟩:=HO.out
    ·exact absurd h.2 (by omega)
    ·rw [hv] at ho
     exact ⟨g',cap,hv,λq hq=>bO ho q _ (rI hq),(gC ho).1,(gC ho).2⟩
   injection hv with hv1 _ hv3
   subst hv1 hv3
   have vF:=hid hcells
   have ZV:=hid hlv
   clear hcells hlv hlt
   go_wp2_with fail
   refine (zY _ _ _ wr).mono ?_
   rintro e w1 ⟨rfl,rfl⟩
   have GW:=hid ((Gr.refl wr).alloc (.cells #[.slice (some ⟨g,0,none⟩) j vc] 326))
   go_wp2_with fail
   go_ret
   exact ⟨_,rfl,⟨wr.heap.size,g,vc,vs,rfl,by simp,by simp,⟨hgz,by simp;omega⟩,λq hq=>(GW.out.cell (p:=⟨g,q,none⟩) hgl).trans (vF.out q hq),HA2.out⟩,HB.out.trans (GW.out.below.mono HB.out.size)⟩
theorem pW.next {w:World} {tv:Value} {env:List (List (List Sv.Val))} {v:Value} {j:Nat} (h:pW w tv (env.drop j) v) (hj:j<env.length):∃ b ov,v = .pointer (some ⟨b,0,none⟩)/\b<w.heap.size/\w.cell? ⟨b,2,none⟩=some ov/\pW w tv (env.drop (j+1)) ov:=by
 rw [nS hj] at h
 obtain ⟨b,sv,ov,e,hb,c0,c1,c2,ht,hr⟩:=h
 exact ⟨b,ov,e,hb,c2,hr⟩
theorem pW.here {w:World} {tv:Value} {env:List (List (List Sv.Val))} {v:Value} {j:Nat} (h:pW w tv (env.drop j) v) (hj:j<env.length):∃ b sv,v = .pointer (some ⟨b,0,none⟩)/\b<w.heap.size/\w.cell? ⟨b,1,none⟩=some sv/\BW w env[j] sv:=by
 rw [nS hj] at h
 obtain ⟨b,sv,ov,e,hb,c0,c1,c2,ht,hr⟩:=h
 exact ⟨b,sv,e,hb,c1,ht⟩
theorem BW.row {w:World} {tk:List (List Sv.Val)} {v:Value} {i c:Nat} (h:BW w tk v) (hi:i<tk.length) (hc:c<tk[i].length):∃ rb ro rc b off bc,v = .slice (some ⟨rb,ro,none⟩) tk.length rc/\rb<w.heap.size/\w.cell? ⟨rb,ro+i,none⟩=some (.slice (some ⟨b,off,none⟩) tk[i].length bc)/\b<w.heap.size/\w.cell? ⟨b,off+c*3,none⟩=some (.int .i64 tk[i][c].k)/\w.cell? ⟨b,off+c*3+1,none⟩=some (.int .i64 tk[i][c].n)/\w.cell? ⟨b,off+c*3+2,none⟩=some (.string tk[i][c].s):=by
 obtain ⟨a,rc,e,h⟩:=h
 obtain ⟨rb,ro,rfl,hr⟩:=h (by intro e;rw [e] at hi;simp at hi)
 obtain ⟨rv,h1,h2⟩:=hr.at_ i hi
 rcases h2 with ⟨_,h2⟩ | ⟨b,off,bc,e2,hb,hv⟩
 ·rw [h2] at hc;simp at hc
 ·subst e2
  exact ⟨rb,ro,rc,b,off,bc,e,hr.lb,h1,hv.lb,hv.k c hc,hv.n c hc,hv.s c hc⟩
theorem G7 {tv:Value} {env:List (List (List Sv.Val))} {v:Value} {w:World} {nb a o sr cn:Nat} {t n:Sp.Bs} (h:pW w tv env v) (hA:At w nb [.string (bz t), .string (bz n), .int .i64 (a:Int), .int .i64 (o:Int), .int .i64 (sr:Int), .int .i64 (cn:Int)]) (ho:o<env.length) (hob:env.length<=100000) (hs:sr<env[o].length) (_hsb:env[o].length<=100000) (hc:cn<env[o][sr].length) (_hcb:env[o][sr].length<=100000) :
  Calls Tryz.prog 232 #[v, .pointer (some ⟨nb,0,none⟩)] w λe w'=>e = .returned (dI env[o][sr][cn])/\Gr w w':=by
 apply gP
 have b3:=hA.k3
 have b4:=hA.k4
 have b5:=hA.k5
 have hnw:=hA.1
 obtain ⟨b0,rfl,hb0,_⟩:=h.ptr
 have H:=hid h
 have HS:=hid hs
 have QU:=hid hc
 have LS:=hid (λsv (htk:BW w env[o] sv)=>htk.row hs hc)
 generalize env[o][sr][cn]=val at LS ⊢
 generalize env[o][sr].length=ln at LS _hcb QU
 clear hc
 generalize QV:env[o]=tk at *
 have HE:=hid QV
 clear QV
 generalize tk.length=tl at LS _hsb HS
 clear hs
 obtain ⟨vk,vn,vs⟩:=val
 have hsl:=HS.out
 have hcl:=QU.out
 have G:=hid ((Gr.refl w).alloc (.cells #[.int .i64 0, .int .i64 0, .string ⟨#[]⟩] 40))
 have d3:=(G.out.cell (p:=⟨nb,3,none⟩) hnw).trans b3
 have YC : nb<(w.alloc (.cells #[.int .i64 0, .int .i64 0, .string ⟨#[]⟩] 40)).heap.size:=bY hnw G.out.size
 clear h hA
 go_enter Tryz.func232,Tryz.ntmps232
 go_wp2_with fail
 go_loopw [9,0] (λi av wr=>∃ j:Nat,j<=o/\i = .int .i64 (j:Nat)/\Hid (pW w tv (env.drop j) av)/\wr=w.alloc (.cells #[.int .i64 0, .int .i64 0, .string ⟨#[]⟩] 40)) (λi _ _=>o - (intOf i).toNat)
 case atStart=>exact ⟨0,fO _,rfl,hid (by simpa using H.out),rfl⟩
 case round=>
  obtain ⟨j,hj,rfl,KH,rfl⟩:=hrel
  by_cases hlt:j<o
  ·obtain ⟨b,ov,rfl,hb,c2,hn⟩:=KH.out.next (by omega)
   have HN:=hid hn
   have e2:=(G.out.cell (p:=⟨b,2,none⟩) hb).trans c2
   have hb' : b<(w.alloc (.cells #[.int .i64 0, .int .i64 0, .string ⟨#[]⟩] 40)).heap.size:=bY hb G.out.size
   obtain ⟨ob,rfl,_⟩:=hn.ptr
   clear hn
   go_wp2_with fail
   go_roundw
   case rel=>exact ⟨j+1,by omega,by go_num,HN,trivial⟩
   case measure=>simp [intOf];omega
  ·have hjo:j=o:=by omega
   subst hjo
   obtain ⟨b,sv,rfl,hb,c1,htk⟩:=KH.out.here ho
   rw [HE.out] at htk
   obtain ⟨rb,ro,rc,b',off,bc,rfl,hrb,r0,hb',k0,k1,k2⟩:=LS.out _ htk
   clear htk
   have e1:=(G.out.cell (p:=⟨b,1,none⟩) hb).trans c1
   have e4:=(G.out.cell (p:=⟨nb,4,none⟩) hnw).trans b4
   have e5:=(G.out.cell (p:=⟨nb,5,none⟩) hnw).trans b5
   have f0:=(G.out.cell (p:=⟨rb,ro+sr,none⟩) hrb).trans r0
   have g0:=(G.out.cell (p:=⟨b',off+cn*3,none⟩) hb').trans k0
   have g1:=(G.out.cell (p:=⟨b',off+cn*3+1,none⟩) hb').trans k1
   have g2:=(G.out.cell (p:=⟨b',off+cn*3+2,none⟩) hb').trans k2
   go_wp2_with fail
   go_region
   go_wp2_with fail
   exact cL (v := .agg #[.int .i64 vk, .int .i64 vn, .string vs]) (by simp [results,Tryz.results232,go_sem]) rfl ⟨rfl,((Gr.refl w).alloc _).drew.below⟩
theorem Cc {W W' : World} (g:Gr W W'):W.grownBy W' none:=⟨g.below.os,g.below.tape,g.below.output,g.size,λk hk _=>g.below.block k hk⟩
theorem Ej (l n Bs Ba g off cap n₀:Nat) (ia:Option Addr) (vals:List Sv.Val) (w0:World) (hn:1<=n) (hm:vals.length<=100000)
  (hcs:w0.cell? ⟨Bs,0,none⟩=some (.slice (some ⟨g,off,none⟩) vals.length cap)) (hca:w0.cell? ⟨Ba,0,none⟩=some (.pointer ia)) (hBs:Bs<n₀) (hBa:Ba<n₀) (hg:g<n₀)
  (hE:∀ i,(hi:i<vals.length)->∃ t p,w0.cell? ⟨g,off+i,none⟩=some (.iface t p)/\∀ W,RowKit.Below n₀ w0 W->Calls Tryz.prog 194 #[.iface t p, .pointer ia] W λe W'=>e = .returned (dI vals[i])/\Gr W W')
  (J Jx:List (Fin vals.length)->World->Prop) (B:Nat) (hJ:AbidesFrom B J)
  (hY:∀ pre x W,J pre W->pre.length<vals.length->YieldAt Fence.wide (n - 1) Tryz.prog l #[.int .i64 (x.1:Int),dI vals[x]] W λe W'=>(e = .returned (.bool true)/\J (pre ++ [x]) W'/\RowKit.Below n₀ W W')\/(e = .returned (.bool false)/\Jx (pre ++ [x]) W'))
  (W1:World) (hs:n₀<=W1.heap.size) (hb1:RowKit.Below n₀ w0 W1) (h0:J [] W1) :
  CallsIn Fence.wide n Tryz.prog 229 #[.func (.yield l) #[] #[], .pointer (some ⟨Bs,0,none⟩), .pointer (some ⟨Ba,0,none⟩)] W1 λe W'=>(∃ v,e = .returned v)/\((∃ ys,ys=List.finRange vals.length/\J ys W')\/(∃ pre,(∃ k,k<=vals.length/\pre=upto vals.length k)/\Jx pre W')):=by
 have c0:=(hb1.cell (p:=⟨Bs,0,none⟩) hBs).trans hcs
 have HE:=hid hE
 have H0:=hid h0
 have HB1:=hid hb1
 have YD:=hid hY
 have YE:=hid hJ
 obtain ⟨L,hL⟩:∃ L,L=vals.length:=⟨_,rfl⟩
 have HL:=hid hL
 have HM:=hid hm
 rw [<- hL] at c0
 have hm' : L<=100000:=by omega
 have YF:=hid hs
 clear hE h0 hb1 hY hJ hcs hm hL hs
 refine callsIn_of_wp Tryz.func229 rfl trivial ?_ rfl
 simp only [Tryz.ntmps229,List.size_toArray,List.length_cons,List.length_nil,Nat.reduceAdd,Nat.reduceSub,Array.replicate_succ,Array.replicate_zero,List.push_toArray,List.append_toArray,List.nil_append,List.cons_append]
 gi_wp2
 gi_loopw [8] (λi wr=>∃ k:Nat,k<=L/\i = .int .i64 (k:Nat)/\Hid (J (upto vals.length k) wr)/\Hid (RowKit.Below n₀ w0 wr)/\Hid (n₀<=wr.heap.size)) (λi _=>L - (intOf i).toNat)
 case atStart=>exact ⟨0,fO _,rfl,H0,HB1,YF⟩
 case round=>
  obtain ⟨k,hk,rfl,Wf,KC,Wg⟩:=hrel
  by_cases hlt:k<L
  ·have hkv:k<vals.length:=by have:=HL.out;omega
   obtain ⟨t,p,hc,hC⟩:=HE.out k hkv
   have HC:=hid (hC wr KC.out)
   have d0:=(KC.out.cell (p:=⟨g,off+k,none⟩) hg).trans hc
   have d1:=(KC.out.cell (p:=⟨Ba,0,none⟩) hBa).trans hca
   clear hC hc
   gi_wp2
   refine ⟨trivial,?_⟩
   refine (callsIn_wide.2 HC.out).mono ?_
   rintro e W2 ⟨rfl,g2⟩
   have HJ2:=hid (YE.out _ _ _ none Wf.out (Cc g2) (λr e=>by cases e))
   have HB2:Hid (RowKit.Below n₀ w0 W2):=KC.out.trans (g2.below.mono Wg.out)
   have HZ2:Hid (n₀<=W2.heap.size):=cE Wg.out g2.size
   clear g2
   obtain ⟨fn,tmps,assign,body,hy,hR⟩:=YD.out _ ⟨k,hkv⟩ _ HJ2.out (by rw [upto_length _ _ (Nat.le_of_lt hkv)];exact hkv)
   simp only [Fin.getElem_fin] at hy
   gi_wp2
   refine hR.mono ?_
   rintro e W3 (⟨rfl,hJ3,hb3⟩ | ⟨rfl,hJx⟩)
   ·have QM:Hid (J (upto vals.length (k+1)) W3):=by show J _ _;rw [upto_succ _ _ hkv];exact hJ3
    have HB4:=hid (HB2.out.trans hb3)
    have YG:Hid (n₀<=W3.heap.size):=cE HZ2.out hb3.size
    clear hJ3 hb3
    gi_wp2
    go_roundw
    case rel=>exact ⟨k+1,by omega,by go_num,QM,HB4,YG⟩
    case measure=>simp [intOf];omega
   ·gi_wp2
    refine cL (results_none rfl _ _ _) rfl ?_
    exact ⟨⟨_,rfl⟩, .inr ⟨_,⟨k+1,by omega,by rw [upto_succ _ _ hkv]⟩,hJx⟩⟩
  ·have YH:k=vals.length:=by have:=HL.out;omega
   subst YH
   gi_wp2
   go_end0
   exact ⟨⟨_,rfl⟩, .inl ⟨_,rfl,by have:=Wf.out;rw [upto_all] at this;exact this⟩⟩
theorem Cd (n Bs Ba g off cap n₀:Nat) (ia:Option Addr) (vals:List Sv.Val) (w:World) (hn:1<=n) (hm:vals.length<=100000) (hn₀:n₀<=w.heap.size)
  (hcs:w.cell? ⟨Bs,0,none⟩=some (.slice (some ⟨g,off,none⟩) vals.length cap)) (hca:w.cell? ⟨Ba,0,none⟩=some (.pointer ia)) (hBs:Bs<n₀) (hBa:Ba<n₀) (hg:g<n₀)
  (hE:∀ i,(hi:i<vals.length)->∃ t p,w.cell? ⟨g,off+i,none⟩=some (.iface t p)/\∀ W,RowKit.Below n₀ w W->Calls Tryz.prog 194 #[.iface t p, .pointer ia] W λe W'=>e = .returned (dI vals[i])/\Gr W W') :
  SeqStopsK Fence.wide n Tryz.prog 229 #[.pointer (some ⟨Bs,0,none⟩), .pointer (some ⟨Ba,0,none⟩)] (λx:Fin vals.length=>#[Value.int .i64 (x.1:Int),dI vals[x]]) (RowKit.Below n₀) (λys=>ys=List.finRange vals.length)
   (λpre=>∃ k,k<=vals.length/\pre=upto vals.length k) vals.length w:=
 λl J Jx W hW hJ _ hY h0=>
  Ej l n Bs Ba g off cap n₀ ia vals w hn hm hcs hca hBs hBa hg hE J Jx _ hJ hY W (cE hn₀ hW.size) (hW.mono hn₀) h0
attribute [local go_sem] Oper.semAt_some
def oS (vs:List Sv.Val):List Value:=vs.flatMap λv => [.int .i64 v.k, .int .i64 v.n, .string v.s]
theorem Ha (vs:List Sv.Val) (v:Sv.Val):oS (vs ++ [v])=oS vs ++ [.int .i64 v.k, .int .i64 v.n, .string v.s]:=by simp [oS]
def uX (base:Nat) (w:World) (v:Value) (vs:List Sv.Val):Prop:=w.ownsRow base 40 3 v vs.length (oS vs)
theorem uX.nil (base:Nat) (w:World):uX base w (.slice none 0 0) []:=World.ownsRow_nil _ _ _ _
theorem uX.sl {base:Nat} {w:World} {v:Value} {vs:List Sv.Val} (h:uX base w v vs):∃ a c,v = .slice a vs.length c:=by
 obtain ⟨hl,h | ⟨g',cap,cur,hv,_⟩⟩:=h
 ·exact ⟨none,0,by rw [h.1,h.2]⟩
 ·exact ⟨_,_,hv⟩
theorem uX.kept {base:Nat} {w w' : World} {v:Value} {vs:List Sv.Val} {row:Option Nat} (h:uX base w v vs) (hg:w.grownBy w' row) (hr:∀ r,row=some r->∃ o:Obj,w.heap[r]?=some o/\o.isCells=false):uX base w' v vs:=by
 have hblk:=aB h
 obtain ⟨hl,h | ⟨g',cap,cur,hv,h0,hc,r⟩⟩:=h
 ·exact ⟨hl, .inl h⟩
 ·subst hv
  refine ⟨hl, .inr ⟨g',cap,cur,rfl,h0,(hg.block g' (hblk g' rfl).2 (λe=>?_)).trans hc,r⟩⟩
  obtain ⟨o,h1,h2⟩:=hr g' e.symm
  rw [hc] at h1
  cases h1
  cases h2
theorem LU:(Tryz.prog.info? 40).map (λi=>(i.zero,i.size,i.bytes))=some (some (.agg #[.int .i64 0, .int .i64 0, .string ⟨#[]⟩]),3,32):=by kernel_rfl
theorem QW (w:World) (x y z:Value) (t:TypeId):∀ j u, [x,y,z][j]?=some u->(w.alloc (.cells #[x,y,z] t)).cell? (Addr.add ⟨w.heap.size,0,none⟩ j)=some u:=by
 intro j u hj
 rw [Addr.add_lit,Nat.zero_add,oZ,<- hj]
 match j with
 | 0=>rfl
 | 1=>rfl
 | 2=>rfl
 | j+3=>rfl
theorem Hb (a b:Int) (c:ByteArray):∀ u∈([.int .i64 a, .int .i64 b, .string c]:List Value),u.oneCell'=true:=λu hu=>by simp at hu;rcases hu with rfl | rfl | rfl <;> rfl
def JZ (w:World) (vals:List Sv.Val) (pre:List (Fin vals.length)) (W:World):Prop:=
 ∃ v,Boxed W w.heap.size 41 v/\uX (w.heap.size+1) W v (pre.map λx=>vals[x])/\w.heap.size+1<=W.heap.size/\RowKit.Below w.heap.size w W
theorem JZ.own (w:World) (vals:List Sv.Val):OwnFrom (w.heap.size+1) (JZ w vals):=by
 rintro s W W' row ⟨v,b,o,z,bl⟩ hg hr
 have hr2:=λr e=>(hr r e).2
 refine ⟨v,b.kept hg (λe=>?_),o.kept hg hr2,cE z hg.size,?_⟩
 ·have:=(hr _ e.symm).1;omega
 ·exact bl.trans ⟨hg.os,hg.tape,hg.output,hg.size,λk hk=>hg.block k (by omega) (λe=>by have:=(hr _ e.symm).1;omega)⟩
theorem J0 {w W w3:World} {vals:List Sv.Val} {pre:List (Fin vals.length)} {x:Fin vals.length} {va:Option Addr} {L vc:Nat} {ak an:Int} {aS:ByteArray} {v' : Value} (z:w.heap.size+1<=W.heap.size) (b:Boxed W w.heap.size 41 (.slice va L vc)) (bl:RowKit.Below w.heap.size w W)
  (HO:W.ownsRow (w.heap.size+1) 40 3 (.slice va L vc) L (oS (pre.map λx=>vals[x]))) (hown:w3.ownsRow (w.heap.size+1) 40 3 v' (L+1) (oS (pre.map λx=>vals[x]) ++ [.int .i64 ak, .int .i64 an, .string aS])) (hgrow:(W.alloc (.cells #[.int .i64 ak, .int .i64 an, .string aS] 40)).grownBy w3 (Value.slice va L vc).ownBlock)
  (Uo:oS ((pre ++ [x]).map λx=>vals[x])=oS (pre.map λx=>vals[x]) ++ [.int .i64 ak, .int .i64 an, .string aS]) (Up:((pre ++ [x]).map λx=>vals[x]).length=L+1) :
  Boxed w3 w.heap.size 41 (.slice va L vc)/\(∃ a c,v' = .slice a (L+1) c)/\KeepsFrom (w.heap.size+1) W (w3.setCell ⟨w.heap.size,0,none⟩ v')/\RowKit.Below w.heap.size W (w3.setCell ⟨w.heap.size,0,none⟩ v')/\JZ w vals (pre ++ [x]) (w3.setCell ⟨w.heap.size,0,none⟩ v'):=by
 have hblk:=aB HO
 have hz:W.heap.size<=w3.heap.size:=cE (by simp) hgrow.size
 have hbl:∀ u,u<W.heap.size->some u≠(Value.slice va L vc).ownBlock->w3.heap[u]?=W.heap[u]?:=λu hu hne=>(hgrow.block u (by simp;omega) hne).trans (kX W _ u hu)
 have hst:∀ u,u≠w.heap.size->(w3.setCell ⟨w.heap.size,0,none⟩ v').heap[u]?=w3.heap[u]?:=λu hu=>dQ _ _ _ _ hu
 have hs8:(w3.setCell ⟨w.heap.size,0,none⟩ v').heap.size=w3.heap.size:=by simp [World.setCell]
 have b3:Boxed w3 w.heap.size 41 (.slice va L vc):=(b.alloc _).kept hgrow (λe=>by have:=(hblk _ e.symm).1;omega)
 have hB:RowKit.Below w.heap.size W (w3.setCell ⟨w.heap.size,0,none⟩ v'):=⟨hgrow.os,hgrow.tape,hgrow.output,by omega,λu hu=>(hst u (by omega)).trans (hbl u (by omega) (λe=>by have:=(hblk _ e.symm).1;omega))⟩
 have hsl:∃ a c,v' = .slice a (L+1) c:=by
  obtain ⟨_,h | ⟨g',cap,cur,hv,_⟩⟩:=hown
  ·exact absurd h.2 (by omega)
  ·exact ⟨_,_,hv⟩
 refine ⟨b3,hsl,⟨by omega,λu o hu h0 hc=>?_⟩,hB,v',b3.set _,?_,by omega,bl.trans hB⟩
 ·have hu2:u<W.heap.size:=(Array.getElem?_eq_some_iff.1 h0).1
  refine (hst u (by omega)).trans ((hbl u hu2 (λe=>?_)).trans h0)
  rcases HO.2 with ⟨h,_⟩ | ⟨g',cap,cur,hv,_,hg,_⟩
  ·rw [h] at e;cases e
  ·rw [hv] at e;simp [Value.ownBlock] at e;subst e;rw [hg] at h0;cases h0;cases hc
 ·unfold uX
  rw [Uo,Up]
  have hk:=aB hown
  obtain ⟨hl,h | ⟨g',cap,cur,hv,h0,hc,r⟩⟩:=hown
  ·exact ⟨hl, .inl h⟩
  ·refine ⟨hl, .inr ⟨g',cap,cur,hv,h0,(hst g' (by omega)).trans hc,r⟩⟩
theorem row_in (n:Nat) (hn:6<=n) (gf:Nat) (lb:Array Value) (vals:List Sv.Val) (hm:vals.length<=100000) (w:World) (eg:∀ args w,(callFunc gf args).run Tryz.prog w = .ok (.enter gf args) w)
  (hseq:SeqStopsK Fence.wide (n - 1) Tryz.prog gf lb (λx:Fin vals.length=>#[Value.int .i64 (x.1:Int),dI vals[x]]) (RowKit.Below w.heap.size) (λys=>ys=List.finRange vals.length) (λpre=>∃ k,k<=vals.length/\pre=upto vals.length k) vals.length w) :
  CallsIn Fence.wide n Tryz.prog 188 #[.func (.func gf) #[] lb] w λe W'=>∃ v,e = .returned v/\uX w.heap.size W' v vals/\RowKit.Below w.heap.size w W':=by
 have h1:1<=n:=by omega
 have hro:Fence.wide.round=none:=rfl
 have hfn:∀ k,Fence.wide.fn k:=λ_=>trivial
 obtain ⟨i0,ji,fR,jz1,fS⟩:=info_parts LU
 refine callsIn_of_wp_marks Tryz.func188 rfl (hfn _) ?_ hro
 simp only [Tryz.ntmps188,List.size_toArray,List.length_cons,List.length_nil,Nat.reduceAdd,Nat.reduceSub,Array.replicate_succ,Array.replicate_zero,List.push_toArray,List.append_toArray,List.nil_append,List.cons_append]
 gi_wp2
 have bM:=Boxed.new w 41 (.slice none 0 0)
 have hB0:RowKit.Below w.heap.size w (w.alloc (.cells #[.slice none 0 0] 41)):=(Below.refl _ w).alloc (aF _) _
 have hsz:(w.alloc (.cells #[.slice none 0 0] 41)).heap.size=w.heap.size+1:=by simp
 obtain ⟨W0,hW0⟩:∃ W0,w.alloc (.cells #[.slice none 0 0] 41)=W0:=⟨_,rfl⟩
 rw [hW0] at bM hB0 hsz ⊢
 clear hW0
 refine wpIn_rangeFunc_ownH hro h1 (gf:=gf) (lb:=lb) rfl (hfn _) eg hseq belowK_t (belowK_b (by omega)) hB0 (λ_=>rfl)
  (JZ w vals) (λ_ _ _=>False) (by rw [hsz];exact JZ.own w vals) (λc _ _ _ _ h=>h.elim)
  ⟨_,bM,uX.nil _ _,by omega,hB0⟩
  (λx a' W=>∃ Bx,w.heap.size<Bx/\B3 W Bx (.int .i64 vals[x].k) (.int .i64 vals[x].n) (.string vals[x].s)/\a'={ tmps:=#[.func (.func gf) #[] lb,undef, .slice none 0 0, .pointer (some ⟨w.heap.size,0,none⟩),undef, .pointer (some ⟨Bx,0,none⟩), .func (.func gf) #[] lb, .int .i64 (x.1:Int),dI vals[x],undef,undef,undef,undef,undef],defers := [] })
  (λx a' _ X Y row hs hg hr=>by obtain ⟨Bx,h1,h2,h3⟩:=hs;exact ⟨Bx,h1,h2.kept hg (λr e=>(hr r e).2),h3⟩)
  ?assign ?body ?done ?stop
 case assign=>
  rintro l pre x W K ⟨v,b,o,z,bl⟩ hK
  gi_wp2
  exact hK _ _ ((KeepsOthers.alloc _ _).from _) ((Below.refl _ W).alloc (by omega) _) ⟨v,b.alloc _,o.kept (World.grownBy_alloc _ _ none) (λr e=>by cases e),by simp;omega,bl.alloc (by omega) _⟩ ⟨W.heap.size,by omega,B3.new W _ _ _ _,rfl⟩
 case body=>
  rintro l pre x a' W hl ⟨r,hr⟩ ⟨v,b,o,z,bl⟩ ⟨Bx,hBx,bX,rfl⟩ hlt
  obtain ⟨L,hL⟩:∃ L,L=(pre.map λx=>vals[x]).length:=⟨_,rfl⟩
  have hLb:L<100000:=by rw [hL,List.length_map];omega
  have HO:Hid (W.ownsRow (w.heap.size+1) 40 3 v L (oS (pre.map λx=>vals[x]))):=by show World.ownsRow _ _ _ _ _ _ _;rw [hL];exact o
  have YI:=hid hL
  obtain ⟨va,vc,hv⟩:=o.sl
  rw [<- hL] at hv
  subst hv
  obtain ⟨Ys,x0,x1,x2,y0,y1,y2⟩:=bX
  have cM:=b.cell
  have fM:=b.frozen
  have QX:=hid b
  have AD:=hid bl
  have hmx:=mixed
  have h1' : 1<=n - 1 - 1:=by omega
  clear hL o
  have Uo:Hid (oS ((pre ++ [x]).map λx=>vals[x])=oS (pre.map λx=>vals[x]) ++ [.int .i64 vals[x].k, .int .i64 vals[x].n, .string vals[x].s]):=by show _=_;rw [List.map_append];exact Ha _ _
  have Up:Hid (((pre ++ [x]).map λx=>vals[x]).length=L+1):=by show _=_;rw [List.map_append,List.length_append,<- YI.out];rfl
  generalize vals[x].k=ak at *
  generalize vals[x].n=an at *
  generalize vals[x].s=aS at *
  have GA:=hid ((Gr.refl W).alloc (.cells #[.int .i64 ak, .int .i64 an, .string aS] 40))
  have YJ:Hid ((W.alloc (.cells #[.int .i64 ak, .int .i64 an, .string aS] 40)).ownsRow (w.heap.size+1) 40 3 (.slice va L vc) L (oS (pre.map λx=>vals[x]))):=aH HO.out GA.out.below
  have QG:Hid (L+1<=maxLen):=by show _<=_;unfold maxLen;omega
  have QH:Hid ((L+1)*32<=140737488355328):=by show _<=_;omega
  have QI:Hid (w.heap.size+1<=(W.alloc (.cells #[.int .i64 ak, .int .i64 an, .string aS] 40)).heap.size):=by show _<=_;simp;omega
  gi_wp2_with (gi_at_builtin;go_must (refine wpListIn_append_own _ rfl (.tmp 9) (.tmp 11) 41 rfl (w.heap.size+1) 40 i0 (.agg #[.int .i64 0, .int .i64 0, .string ⟨#[]⟩]) 3 32 Tryz.underlying41 ji fR jz1 fS rfl (by decide) _ L _ rfl YJ.out ⟨W.heap.size,0,none⟩ 1 1 [.int .i64 ak, .int .i64 an, .string aS] rfl rfl (QW _ _ _ _ _) (Hb _ _ _) QG.out QH.out QI.out ?_))
  intro v' w3 hown hgrow _
  obtain ⟨b3,⟨SB,SC,rfl⟩,k1,k2,k3⟩:=J0 (x:=x) z QX.out AD.out HO.out hown hgrow Uo.out Up.out
  have bD:=hid k1
  have aY:=hid k2
  have bH:=hid k3
  have c3:=b3.cell
  have f3:=b3.frozen
  clear hown hgrow k1 k2 k3 cM fM
  gi_wp2
  exact ⟨by rw [hsz];exact bD.out,aY.out,bH.out⟩
 case done=>
  rintro D ys W hD rfl ⟨v,b,o,z,bl⟩ hK
  have e1:(List.finRange vals.length).map (λx=>vals[x])=vals:=List.ext_getElem (by simp) (λi h1 h2=>by simp)
  rw [e1] at o
  obtain ⟨va,vc,rfl⟩:=o.sl
  have cM:=b.cell
  have HO:=hid o
  clear e1
  clear o
  gi_wp2
  refine ⟨by simp, .inl ⟨_,_,rfl,run_takeDeferred hK,?_⟩⟩
  have hr:∀ r,some D=some r->∃ o:Obj,W.heap[r]?=some o/\o.isCells=false:=λr e=>by cases e;exact ⟨_,hK,rfl⟩
  have ho:=HO.out.kept (grownBy_putObj' W D (.deferred none)) hr
  refine ⟨.slice va vals.length vc,?_,⟨_,rfl,?_,bl.trans (belowK_b (w:=w) (aF _) W D _ _ (by omega) hK rfl rfl)⟩⟩
  ·simp [results,Tryz.f188,go_sem]
  ·obtain ⟨hl,h | ⟨g',cap,cur,hv,h0,hc,r⟩⟩:=ho
   ·exact ⟨hl, .inl h⟩
   ·exact ⟨hl, .inr ⟨g',cap,cur,hv,by omega,hc,r⟩⟩
 case stop=>exact λD c pre W _ _ h _=>h.elim
end Go.Proofs.YtgnncnhkgmhngaaGreatDoor
namespace Go.Proofs.YtgnncnhkgmhngaaGreatDoor
open Sp
open Go.RowKit Go.Sort
theorem oT (sa:Option Addr) (sn sc:Nat) (ia:Option Addr) (w:World) :
  Calls Tryz.prog 189 #[.slice sa sn sc, .pointer ia] w λe w'=>e = .returned (.func (.func 229) #[] #[.pointer (some ⟨w.heap.size,0,none⟩), .pointer (some ⟨w.heap.size+1,0,none⟩)])/\w'=(w.alloc (.cells #[.slice sa sn sc] 237)).alloc (.cells #[.pointer ia] 195):=by
 go_enter Tryz.func189,Tryz.ntmps189
 go_wp2
 go_ret
 simp
def boxes (w:World) (sv iv:Value):World:=(w.alloc (.cells #[sv] 237)).alloc (.cells #[iv] 195)
theorem Ek (w:World) (sv iv:Value):(boxes w sv iv).heap.size=w.heap.size+2:=by simp [boxes]
theorem p7 (w:World) (sv iv:Value):Gr w (boxes w sv iv):=((Gr.refl w).alloc _).alloc _
theorem rB {g off cap:Nat} {ia:Option Addr} {vals:List Sv.Val} {w:World} (hm:vals.length<=100000) (hg:g<w.heap.size)
  (hE:∀ i,(hi:i<vals.length)->∃ t p,w.cell? ⟨g,off+i,none⟩=some (.iface t p)/\∀ W,RowKit.Below w.heap.size w W->Calls Tryz.prog 194 #[.iface t p, .pointer ia] W λe W'=>e = .returned (dI vals[i])/\Gr W W') :
  Calls Tryz.prog 188 #[.func (.func 229) #[] #[.pointer (some ⟨w.heap.size,0,none⟩), .pointer (some ⟨w.heap.size+1,0,none⟩)]] (boxes w (.slice (some ⟨g,off,none⟩) vals.length cap) (.pointer ia)) λe W'=>∃ v,e = .returned v/\uX w.heap.size W' v vals/\RowKit.Below w.heap.size w W':=by
 obtain ⟨W,hW⟩:∃ W,W=boxes w (.slice (some ⟨g,off,none⟩) vals.length cap) (.pointer ia):=⟨_,rfl⟩
 have hz:W.heap.size=w.heap.size+2:=by rw [hW];exact Ek _ _ _
 have hgr:Gr w W:=by rw [hW];exact p7 _ _ _
 have c0:W.cell? ⟨w.heap.size,0,none⟩=some (.slice (some ⟨g,off,none⟩) vals.length cap):=by rw [hW];exact (((Gr.refl _).alloc _).cell (p:=⟨w.heap.size,0,none⟩) (by simp)).trans (by simp)
 have c1:W.cell? ⟨w.heap.size+1,0,none⟩=some (.pointer ia):=by
  rw [hW]
  have h:=oZ (w.alloc (.cells #[.slice (some ⟨g,off,none⟩) vals.length cap] 237)) #[.pointer ia] 195 0
  rw [World.size_alloc] at h
  exact h
 rw [<- hW]
 have hst:=Cd (6 - 1) w.heap.size (w.heap.size+1) g off cap W.heap.size ia vals W (by omega) hm (aF _) c0 c1 (by omega) (by omega) (by omega) (λi hi=>by
  obtain ⟨t,p,h1,h2⟩:=hE i hi
  exact ⟨t,p,(hgr.cell (p:=⟨g,off+i,none⟩) hg).trans h1,λW' hb=>h2 W' (hgr.below.trans (hb.mono hgr.size))⟩)
 refine (callsIn_wide.1 (row_in 6 (aF _) 229 _ vals hm W (enters_of Tryz.func229 (by kernel_rfl) rfl) hst)).mono ?_
 rintro e W' ⟨v,rfl,o,b⟩
 refine ⟨v,rfl,?_,hgr.below.trans (b.mono hgr.size)⟩
 obtain ⟨hl,h | ⟨g',cap,cur,hv,h0,hc,r⟩⟩:=o
 ·exact ⟨hl, .inl h⟩
 ·exact ⟨hl, .inr ⟨g',cap,cur,hv,by omega,hc,r⟩⟩
end Go.Proofs.YtgnncnhkgmhngaaGreatDoor
