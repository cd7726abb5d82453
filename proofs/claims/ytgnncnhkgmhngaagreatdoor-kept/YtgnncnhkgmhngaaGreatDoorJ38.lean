import Derived.Test.YtgnncnhkgmhngaaGreatDoorJ37
set_option maxHeartbeats 4000000
set_option maxRecDepth 100000
namespace Go.Proofs.YtgnncnhkgmhngaaGreatDoor
open Go.RowKit Go.Sort
theorem infoRows:(Tryz.prog.info? 32).map (fun i=>(i.zero,i.size,i.bytes))=some (some (.slice none 0 0),1,24):=by kernel_rfl
theorem tfind_low {k:Nat} {w:World} {T:List Sp.Tb} {v:Value} (h:Tbs k w T v) (x:Sp.Bs) :
  (Sp.findTb x T=none∧∀ w1,Low k w w1→Calls Tryz.prog 146 #[v, .string (bz x)] w1 fun e w'=>e = .returned (.tuple #[enT noT, .bool false])∧Gr w1 w')∨
  ∃ t tv,Sp.findTb x T=some t∧Tb1 k w t tv∧∀ w1,Low k w w1→Calls Tryz.prog 146 #[v, .string (bz x)] w1 fun e w'=>e = .returned (.tuple #[enT tv, .bool true])∧Gr w1 w':=by
 rcases h.2.2 with ⟨rfl,rfl⟩ | ⟨b,off,c,V,rfl,h2,h3,h4⟩
 ·exact .inl ⟨rfl,fun w1 _=>find_nil _ w1⟩
 ·have F:=fun w1 (g:Low k w w1)=>find_any b off T.length c V (bz x) w1 h4.len.symm (by have:=h.1;omega) (h3.low g h2)
  rw [bz_list] at F
  rcases h4.find x with ⟨e1,e2⟩ | ⟨t,tv,e1,e2,e3⟩
  ·rw [e2] at F;exact .inl ⟨e1,F⟩
  ·rw [e2] at F;exact .inr ⟨t,tv,e1,e3,F⟩
theorem Low.of_bel {k:Nat} {w w' : World} (h:RowKit.Below w.heap.size w w'):Low k w w':=⟨h.size,fun j _ hs=>h.block j hs⟩
theorem Al.snoc {α β:Type} {R:α→β→Prop} {l:List α} {m:List β} {a:α} {b:β} (h:Al R l m) (hr:R a b):Al R (l ++ [a]) (m ++ [b]):=h.app ⟨hr,trivial⟩
theorem one_slice (a:Option Addr) (n c:Nat):∀ u∈([.slice a n c]:List Value),u.oneCell'=true:=fun u hu=>by simp at hu;rw [hu];rfl
theorem newV1 (w:World) (x:Value) (t:TypeId):∀ j u, [x][j]?=some u→(w.alloc (.cells #[x] t)).cell? (Addr.add ⟨w.heap.size,0,none⟩ j)=some u:=by
 intro j u hj
 rw [Addr.add_lit,Nat.zero_add,World.cell?_alloc_new,← hj]
 match j with
 | 0=>rfl
 | j+1=>rfl
theorem Low.trans {k:Nat} {a b c:World} (h:Low k a b) (g:Low k b c):Low k a c:=⟨Nat.le_trans h.1 g.1,fun j hj hs=>(g.2 j hj (Nat.lt_of_lt_of_le hs h.1)).trans (h.2 j hj hs)⟩
theorem rtogether_any {k blk c:Nat} {T:List Sp.Tb} {tv:Value} {src:List (Sp.Nm×Sp.Nm)} {w₁ w:World} (ht:Tbs k w₁ T tv) (hlo:Low k w₁ w) (hs:Srcs w blk 0 src) (hb:blk<w.heap.size) (hn:src ≠ []) (hm:src.length≤1000) (hf:∀ x∈src,(Sp.findTb x.1.1 T).isSome=true) :
  Calls Tryz.prog 196 #[tv, .slice (some ⟨blk,0,none⟩) src.length c] w fun e w'=>∃ v,e = .returned v∧(∃ Bs tb tc vs,v = .func (.func 191) #[] #[.pointer (some ⟨Bs,0,none⟩)]∧Bs<w'.heap.size∧w'.cell? ⟨Bs,0,none⟩=some (.slice (some ⟨tb,0,none⟩) src.length tc)∧(w.heap.size≤tb∧tb<w'.heap.size)∧(∀ j,(h:j<vs.length)→w'.cell? ⟨tb,j,none⟩=some vs[j])∧Al (fun v (x:Sp.Nm×Sp.Nm)=>∃ t V,v=V.rv∧Sp.findTb x.1.1 T=some t∧Tb1 k w₁ t V) vs src)∧RowKit.Below w.heap.size w w':=by
 obtain ⟨i0,ji,jz0,jz1,jz2⟩:=info_parts infoRows
 have HT:=hid ht
 have HLw:=hid hlo
 have HS:=hid hs
 have HF:=hid hf
 obtain ⟨ta,tn,tc0,rfl⟩:∃ a n c,tv = .slice a n c:=by
  rcases ht.2.2 with ⟨_,e⟩ | ⟨b,off,c,V,e,_⟩
  ·exact ⟨_,_,_,e⟩
  ·exact ⟨_,_,_,e⟩
 obtain ⟨n,hnn⟩:∃ n,n=src.length:=⟨_,rfl⟩
 have HN:=hid hnn
 have hpos:0<n:=by rw [hnn];exact List.length_pos_iff.2 hn
 rw [← hnn] at hm ⊢
 clear ht hlo hs hf hnn hn
 go_enter Tryz.func196,Tryz.ntmps196
 go_wp2_with fail
 go_loopw [5,12] (fun v i wr=>∃ (j:Nat) (vs:List Value) (va:Option Addr) (vc:Nat),j≤n∧i = .int .i64 (j:Nat)∧v = .slice va j vc∧Hid (wr.ownsRow w.heap.size 32 1 (.slice va j vc) j vs)∧Hid (Al (fun v (x:Sp.Nm×Sp.Nm)=>∃ t V,v=V.rv∧Sp.findTb x.1.1 T=some t∧Tb1 k w₁ t V) vs (src.take j))∧Hid (RowKit.Below w.heap.size w wr)) (fun _ i _=>n - (intOf i).toNat)
 case atStart=>exact ⟨0, [],none,0,Nat.zero_le _,rfl,rfl,World.ownsRow_nil _ _ _ _,trivial,Below.refl _ _⟩
 case round=>
  obtain ⟨j,vs,va,vc,hj,rfl,rfl,HO,HA,HB⟩:=hrel
  by_cases hlt:j<n
  ·have hjs:j<src.length:=by have:=HN.out;omega
   obtain ⟨q0,q1,q2,q3⟩:=Srcs.at_ src 0 j hjs HS.out
   have c0:=(HB.out.cell (p:=⟨blk,0+j*4,none⟩) hb).trans q0
   have c1:=(HB.out.cell (p:=⟨blk,0+j*4+1,none⟩) hb).trans q1
   have c2:=(HB.out.cell (p:=⟨blk,0+j*4+2,none⟩) hb).trans q2
   have c3:=(HB.out.cell (p:=⟨blk,0+j*4+3,none⟩) hb).trans q3
   rw [Nat.zero_add] at c0 c1 c2 c3
   clear q0 q1 q2 q3
   have HFj:=hid (HF.out _ (List.getElem_mem hjs))
   have HTk:=hid (List.take_succ_eq_append_getElem hjs)
   obtain ⟨sx,hsx⟩:∃ sx,sx=src[j]:=⟨_,rfl⟩
   rw [← hsx] at c0 c1 c2 c3 HFj HTk
   clear hsx
   obtain ⟨⟨tw,ta'⟩,cw,ca⟩:=sx
   simp only [] at c0 c1 c2 c3 HFj
   rcases tfind_low HT.out tw with ⟨e,_⟩ | ⟨t,V,e,hT1,F⟩
   ·have:=HFj.out;rw [e] at this;cases this
   have HRel:Hid (∃ t V',V.rv=V'.rv∧Sp.findTb tw T=some t∧Tb1 k w₁ t V'):=⟨t,V,rfl,e,hT1⟩
   have HFd:=hid F
   clear e F hT1
   obtain ⟨vn,vca,vcl,vcc,vra,vrl,vrc⟩:=V
   have GA:=hid ((Gr.refl wr).alloc (.cells #[.string (bz tw), .int .i64 (ta' : Int), .string (bz cw), .int .i64 (ca:Int)] 337))
   have HLo:Hid (Low k w₁ (wr.alloc (.cells #[.string (bz tw), .int .i64 (ta' : Int), .string (bz cw), .int .i64 (ca:Int)] 337))):=HLw.out.trans (Low.of_bel (HB.out.trans (GA.out.below.mono HB.out.size)))
   go_wp2_with fail
   refine (HFd.out _ HLo.out).mono ?_
   rintro e w2 ⟨rfl,g2⟩
   have G2:=hid (GA.out.trans g2)
   clear g2 c0 c1 c2 c3
   have hjb:j<1000:=by omega
   have HO2:Hid (((w2.alloc (.cells #[.string vn, .slice vca vcl vcc, .slice vra vrl vrc] 187)).alloc (.cells #[.slice vra vrl vrc] 32)).ownsRow w.heap.size 32 1 (.slice va j vc) j vs):=ownsV_below (ownsV_below HO.out G2.out.below) (((Gr.refl w2).alloc _).alloc _).below
   have HNw:Hid (∀ q u,([.slice vra vrl vrc]:List Value)[q]?=some u→((w2.alloc (.cells #[.string vn, .slice vca vcl vcc, .slice vra vrl vrc] 187)).alloc (.cells #[.slice vra vrl vrc] 32)).cell? ((⟨w2.heap.size+1,0,none⟩:Addr).add q)=some u):=by
    have h:=newV1 (w2.alloc (.cells #[.string vn, .slice vca vcl vcc, .slice vra vrl vrc] 187)) (.slice vra vrl vrc) 32
    rw [World.size_alloc] at h
    exact h
   have HB2:Hid (RowKit.Below w.heap.size w ((w2.alloc (.cells #[.string vn, .slice vca vcl vcc, .slice vra vrl vrc] 187)).alloc (.cells #[.slice vra vrl vrc] 32))):=(HB.out.trans (G2.out.below.mono HB.out.size)).trans ((((Gr.refl w2).alloc _).alloc _).below.mono (Nat.le_trans HB.out.size G2.out.size))
   have H3:Hid (j+1≤maxLen):=by show _≤_;unfold maxLen;omega
   have H4:Hid ((j+1)*24≤140737488355328):=by show _≤_;omega
   have H5:Hid (w.heap.size≤((w2.alloc (.cells #[.string vn, .slice vca vcl vcc, .slice vra vrl vrc] 187)).alloc (.cells #[.slice vra vrl vrc] 32)).heap.size):=HB2.out.size
   go_wp2_with (at_builtin;go_must (refine wpList_append_own _ rfl (.tmp 24) (.tmp 27) 326 rfl w.heap.size 32 i0 (.slice none 0 0) 1 24 Tryz.underlying326 ji jz0 jz1 jz2 rfl (by decide) _ j _ rfl HO2.out ⟨w2.heap.size+1,0,none⟩ 1 1 [.slice vra vrl vrc] rfl rfl HNw.out (one_slice _ _ _) H3.out H4.out H5.out ?_))
   intro v' w3 hown hgrow hnil
   have HB3:=hid (below_grown HB2.out hgrow HO2.out (Nat.le_refl _))
   obtain ⟨va',vc',rfl⟩:∃ a c,v' = .slice a (j+1) c:=by
    obtain ⟨_,h | ⟨g',cap,cur,hv,_⟩⟩:=hown
    ·exact absurd h.2 (by omega)
    ·exact ⟨_,_,hv⟩
   have HO3:=hid hown
   have HA3:Hid (Al (fun v (x:Sp.Nm×Sp.Nm)=>∃ t V,v=V.rv∧Sp.findTb x.1.1 T=some t∧Tb1 k w₁ t V) (vs ++ [.slice vra vrl vrc]) (src.take (j+1))):=by
    show Al _ _ _
    rw [HTk.out]
    exact HA.out.snoc HRel.out
   clear hown hgrow hnil HO2 HNw HB2 H3 H4 H5
   go_wp2_with fail
   go_roundw
   case rel=>exact ⟨j+1,vs ++ [.slice vra vrl vrc],va',vc',by omega,by go_num,rfl,HO3,HA3,HB3⟩
   case measure=>simp [intOf];omega
  ·obtain rfl:j=n:=by omega
   have HA2:Hid (Al (fun v (x:Sp.Nm×Sp.Nm)=>∃ t V,v=V.rv∧Sp.findTb x.1.1 T=some t∧Tb1 k w₁ t V) vs src):=by
    have:=HA.out
    rw [HN.out,List.take_length] at this
    exact this
   have hlv:vs.length=j:=HA2.out.len.trans HN.out.symm
   obtain ⟨g,cap,hv,hcells,hgz,hgl⟩:∃ g cap,(Value.slice va j vc) = .slice (some ⟨g,0,none⟩) j cap∧(∀ q,(h:q<vs.length)→wr.cell? ⟨g,q,none⟩=some vs[q])∧w.heap.size≤g∧g<wr.heap.size:=by
    have ho:=HO.out
    obtain ⟨_,h | ⟨g',cap,cur,hv,_⟩⟩:=HO.out
    ·exact absurd h.2 (by omega)
    ·rw [hv] at ho
     exact ⟨g',cap,hv,fun q hq=>owns_cells ho q _ (List.getElem?_eq_getElem hq),(owns_lt ho).1,(owns_lt ho).2⟩
   injection hv with hv1 _ hv3
   subst hv1 hv3
   have HCl:=hid hcells
   have HLv:=hid hlv
   clear hcells hlv hlt
   go_wp2_with fail
   refine (together_any _ _ _ wr).mono ?_
   rintro e w1 ⟨rfl,rfl⟩
   have GW:=hid ((Gr.refl wr).alloc (.cells #[.slice (some ⟨g,0,none⟩) j vc] 326))
   go_wp2_with fail
   go_ret
   exact ⟨_,rfl,⟨wr.heap.size,g,vc,vs,rfl,by simp,by simp,⟨hgz,by simp;omega⟩,fun q hq=>(GW.out.cell (p:=⟨g,q,none⟩) hgl).trans (HCl.out q hq),HA2.out⟩,HB.out.trans (GW.out.below.mono HB.out.size)⟩
def RowF (w0 w:World) (v:Value) (vals:List Sv.Val):Prop:=Calls Tryz.prog 188 #[v] w fun e W'=>∃ u,e = .returned u∧OwR w0.heap.size W' u vals∧RowKit.Below w0.heap.size w0 W'
theorem OwR.lower {b b' : Nat} {w:World} {v:Value} {vs:List Sv.Val} (h:OwR b w v vs) (hb:b'≤b):OwR b' w v vs:=ownsT_lower h hb
theorem calls_cells (v:Value) (hv:∃ a l c,v = .slice a l c) (w:World) :
  Calls Tryz.prog 195 #[v] w fun e w'=>e = .returned (.func (.func 237) #[] #[.pointer (some ⟨w.heap.size,0,none⟩)])∧w'=w.alloc (.cells #[v] 32):=
 callsIn_wide.1 (cells_in Fence.wide 6 trivial rfl v hv w)
theorem row_cells {w:World} {tk:List (List Sv.Val)} {sv:Value} (h:Tkn w tk sv) (hne:tk ≠ []) (hl:tk.length≤100000) (hf:tk.flatten.length≤100000):RowF w (w.alloc (.cells #[sv] 32)) (.func (.func 237) #[] #[.pointer (some ⟨w.heap.size,0,none⟩)]) tk.flatten:=by
 have G:=(Gr.refl w).alloc (.cells #[sv] 32)
 have h':=h.gr G
 obtain ⟨a,c,rfl,h1⟩:=h'
 obtain ⟨rb,ro,rfl,hr⟩:=h1 hne
 refine (callsIn_wide.1 (row_in 6 (Nat.le_refl _) 237 _ tk.flatten hf _ (enters_of Tryz.func237 (by kernel_rfl) rfl)
  (cells_stops Fence.wide (6 - 1) trivial rfl (by omega) w.heap.size _ rb ro c tk tk.flatten rfl hl hf _ (by simp) (Nat.le_refl _) (by simp) hr))).mono ?_
 rintro e W' ⟨u,rfl,o,b⟩
 exact ⟨u,rfl,o.lower G.size,G.below.trans (b.mono G.size)⟩
theorem rcells_star {sb st:Nat} {di:Bool} {fv wv tv iv:Value} {env:List (List Sp.Row)} {tk:List Sp.Row} {w:World} (hs:At w sb [.bool di, .int .i64 (st:Int), .slice none 0 0,fv,wv]) (ha:Arn w tv (tk::env) iv) (hne:tk ≠ []) (hl:tk.length≤100000) (hf:tk.flatten.length≤100000) :
  Calls Tryz.prog 197 #[.pointer (some ⟨sb,0,none⟩),iv] w fun e w'=>∃ gf lb,e = .returned (.func (.func gf) #[] lb)∧RowF w w' (.func (.func gf) #[] lb) tk.flatten∧Gr w w':=by
 obtain ⟨ib,sv,ov,rfl,hib,c0,c1,c2,ht,hr⟩:=ha
 have HT:=hid ht
 obtain ⟨va,vc,rfl⟩:=ht.sl
 have b2:=hs.k2
 have hbw:=hs.1
 have HC:=hid (calls_cells (.slice va tk.length vc) ⟨_,_,_,rfl⟩ w)
 have HR:=hid (row_cells HT.out hne hl hf)
 generalize tk.flatten=vals at *
 clear ht hr hs hne
 have hq:=fun (w' : World)=>Lib.run_eql_slice_nil (P:=Tryz.prog) w' 237 _ none 0 0 0 0 Tryz.underlying237
 simp only [Option.isNone_none] at hq
 go_enter Tryz.func197,Tryz.ntmps197
 go_wp2_with fail
 refine HC.out.mono ?_
 rintro e w1 ⟨rfl,rfl⟩
 go_wp2_with fail
 go_ret
 exact ⟨_,_,rfl,HR.out,(Gr.refl w).alloc _⟩
theorem rcells_exprs {sb st g off cap:Nat} {di:Bool} {fv wv:Value} {ia:Option Addr} {vals:List Sv.Val} {w:World} (hs:At w sb [.bool di, .int .i64 (st:Int), .slice (some ⟨g,off,none⟩) vals.length cap,fv,wv]) (hm:vals.length≤100000) (hg:g<w.heap.size)
  (hE:∀ i,(hi:i<vals.length)→∃ t p,w.cell? ⟨g,off+i,none⟩=some (.iface t p)∧∀ W,RowKit.Below w.heap.size w W→Calls Tryz.prog 194 #[.iface t p, .pointer ia] W fun e W'=>e = .returned (enV vals[i])∧Gr W W') :
  Calls Tryz.prog 197 #[.pointer (some ⟨sb,0,none⟩), .pointer ia] w fun e w'=>∃ gf lb,e = .returned (.func (.func gf) #[] lb)∧RowF w w' (.func (.func gf) #[] lb) vals∧Gr w w':=by
 have b2:=hs.k2
 have hbw:=hs.1
 have HR:Hid (RowF w (boxes w (.slice (some ⟨g,off,none⟩) vals.length cap) (.pointer ia)) (.func (.func 229) #[] #[.pointer (some ⟨w.heap.size,0,none⟩), .pointer (some ⟨w.heap.size+1,0,none⟩)]) vals):=by
  exact row_exprs hm hg hE
 clear hs hE
 have hq:=fun (w' : World)=>Lib.run_eql_slice_nil (P:=Tryz.prog) w' 237 _ (some ⟨g,off,none⟩) vals.length cap 0 0 Tryz.underlying237
 simp only [Option.isNone_some] at hq
 go_enter Tryz.func197,Tryz.ntmps197
 go_wp2_with fail
 refine (rexprs_any _ _ _ _ _).mono ?_
 rintro e w1 ⟨rfl,rfl⟩
 go_wp2_with fail
 go_ret
 exact ⟨_,_,rfl,HR.out,boxes_gr _ _ _⟩
theorem Rw.fn {k:Nat} {w:World} {v:Value} {r r' : List Sv.Val} (h:Rw k w v r) (h' : Rw k w v r'):r=r':=by
 rcases h with ⟨e,rfl⟩ | ⟨b,o,c,e,hb,hv⟩
 ·rcases h' with ⟨_,rfl⟩ | ⟨b',o',c',e',_⟩
  ·rfl
  ·rw [e] at e';cases e'
 ·rcases h' with ⟨e',_⟩ | ⟨b',o',c',e',hb',hv'⟩
  ·rw [e] at e';cases e'
  ·rw [e] at e'
   injection e' with e1 e2 e3
   injection e1 with e1
   injection e1 with e4 e5
   subst e4 e5
   refine List.ext_getElem e2 fun i h1 h2=>?_
   have k1:=(hv.k i h1).symm.trans (hv'.k i h2)
   have k2:=(hv.n i h1).symm.trans (hv'.n i h2)
   have k3:=(hv.s i h1).symm.trans (hv'.s i h2)
   injection k1 with k1
   injection k2 with k2
   injection k3 with k3
   injection k1 with _ k1
   injection k2 with _ k2
   injection k3 with k3
   cases hr:r[i]
   cases hr' : r'[i]
   rw [hr,hr'] at k1 k2 k3
   simp only [] at k1 k2 k3
   rw [k1,k2,k3]
open Classical in
noncomputable def decR (k:Nat) (w:World) (v:Value):List Sv.Val:=if h:∃ r,Rw k w v r then Classical.choose h else []
theorem decR_eq {k:Nat} {w:World} {v:Value} {r:List Sv.Val} (h:Rw k w v r):decR k w v=r:=by
 unfold decR
 rw [dif_pos ⟨r,h⟩]
 exact Rw.fn (Classical.choose_spec (⟨r,h⟩:∃ r,Rw k w v r)) h
theorem decR_map {k:Nat} {w:World} : ∀ {xs:List Value} {rows:List (List Sv.Val)},Al (Rw k w) xs rows→xs.map (decR k w)=rows
 | [], [],_=>rfl
 | _::_,_::_,h=>by rw [List.map_cons,decR_eq h.1,decR_map h.2]
 | [],_::_,h=>h.elim
 | _::_, [],h=>h.elim
theorem prods_map {α β:Type} (f:α→β):∀ l:List (List α),prods (l.map (·.map f))=(prods l).map (·.map f)
 | []=>rfl
 | t::l=>by
  simp only [List.map_cons,prods,prods_map f l,List.flatMap_map,List.map_flatMap,List.map_map]
  congr 1
theorem prods_mem {α:Type} : ∀ {l:List (List α)} {x:List α},x∈prods l→x.length=l.length∧∀ i,(h:i<x.length)→(h' : i<l.length)→x[i]∈l[i]
 | [],x,h=>by simp [prods] at h;subst h;exact ⟨rfl,fun i h=>by simp at h⟩
 | t::l,x,h=>by
  simp only [prods,List.mem_flatMap,List.mem_map] at h
  obtain ⟨r,hr,y,hy,rfl⟩:=h
  obtain ⟨h1,h2⟩:=prods_mem hy
  refine ⟨by simp [h1],fun i hi hi'=>?_⟩
  match i,hi,hi' with
  | 0,_,_=>exact hr
  | i+1,hi,hi'=>exact h2 i (by simpa using hi) (by simpa using hi')
theorem tab_of {k:Nat} {w:World} {t:Sp.Tb} {V:TV} (h:Tb1 k w t V) (hk:k≤w.heap.size):∃ xs,Sl (·<k) w V.rv xs∧Al (Rw k w) xs t.rows:=by
 rcases h.rows with ⟨e,e1,e2⟩ | ⟨rb,ro,e1,hr⟩
 ·refine ⟨[], .inl ⟨?_,rfl⟩,by rw [e];trivial⟩
  have:=h.rl
  rw [e] at this
  simp [TV.rv,e1,e2,this]
 ·obtain ⟨xs,h1,h2⟩:=choose_list (fun i v=>∃ h:i<t.rows.length,w.cell? ⟨rb,ro+i,none⟩=some v∧Rw k w v t.rows[i]) t.rows.length (fun i hi=>by obtain ⟨v,hv1,hv2⟩:=hr.at_ i hi;exact ⟨v,hi,hv1,hv2⟩)
  refine ⟨xs, .inr ⟨rb,ro,V.rc,?_,by have:=hr.lb;omega,hr.lb,fun j hj=>(h2 j hj).2.1⟩,Al.of h1 fun i hi hi'=>(h2 i hi).2.2⟩
  simp [TV.rv,e1,h.rl,h1]
theorem tabs_of {k:Nat} {w:World} {T:List Sp.Tb} (hk:k≤w.heap.size):∀ {vs:List Value} {src:List (Sp.Nm×Sp.Nm)},Al (fun v (x:Sp.Nm×Sp.Nm)=>∃ t V,v=V.rv∧Sp.findTb x.1.1 T=some t∧Tb1 k w t V) vs src→
  ∃ tabs:List (List Value),Al (fun v xs=>Sl (·<k) w v xs) vs tabs∧Al (Al (Rw k w)) tabs (Sp.rowsOf T src)
 | [], [],_=>⟨[],trivial,trivial⟩
 | v::vs,x::src,h=>by
  obtain ⟨⟨t,V,rfl,e,h1⟩,h2⟩:=h
  obtain ⟨xs,h3,h4⟩:=tab_of h1 hk
  obtain ⟨tabs,h5,h6⟩:=tabs_of hk h2
  refine ⟨xs::tabs,⟨h3,h5⟩,?_,h6⟩
  show Al (Rw k w) xs ((Sp.findTb x.1.1 T).getD Sp.noTb).rows
  rw [e]
  exact h4
 | [],_::_,h=>h.elim
 | _::_, [],h=>h.elim
theorem decR_tabs {k:Nat} {w:World} : ∀ {tabs:List (List Value)} {rss:List (List (List Sv.Val))},Al (Al (Rw k w)) tabs rss→tabs.map (·.map (decR k w))=rss
 | [], [],_=>rfl
 | _::_,_::_,h=>by rw [List.map_cons,decR_map h.1,decR_tabs h.2]
 | [],_::_,h=>h.elim
 | _::_, [],h=>h.elim
theorem Took.tkn {k Tb:Nat} {w W:World} {tabs:List (List Value)} {rss:List (List (List Sv.Val))} {x:List Value} (h:Took Tb tabs x W) (ha:Al (Al (Rw k w)) tabs rss) (hb:RowKit.Below w.heap.size w W) (hk:k≤w.heap.size):Tkn W (x.map (decR k w)) (.slice (some ⟨Tb,0,none⟩) tabs.length tabs.length):=by
 obtain ⟨hT,hl,hm⟩:=h
 obtain ⟨_,hmem⟩:=prods_mem hm
 refine ⟨some ⟨Tb,0,none⟩,tabs.length,by rw [List.length_map,hl],fun _=>⟨Tb,0,rfl,hT.lt,fun i hi=>?_⟩⟩
 have hix:i<x.length:=by simpa using hi
 have hit:i<tabs.length:=by omega
 refine ⟨x[i],by rw [Nat.zero_add];exact hT.at_ i hix,?_⟩
 rw [List.getElem_map]
 have har:=ha.get i hit (by rw [← ha.len];exact hit)
 obtain ⟨r,_,hr⟩:=har.memR (hmem i hix hit)
 rw [decR_eq hr]
 have h5:Rw k W x[i] r:=hr.below (hb.mono hk)
 rcases h5 with h5 | ⟨b,o,c,e,hb',hv⟩
 ·exact .inl h5
 ·exact .inr ⟨b,o,c,e,by have:=hb.size;omega,hv⟩
attribute [local go_sem] Oper.semAt_some
theorem range_tog {n:Nat} {g:Operand} {ps:Array Tmp} {assign body:Code} {Q:Exit→Act→World→Prop} {a:Act} {W:World} {Bt tb tc:Nat} {tabs:List (List Value)}
  (h1:1≤n) (hg:a.eval g = .func (.func 191) #[] #[.pointer (some ⟨Bt,0,none⟩)]) (hps:ps.size=1)
  (C:Nat→Prop) (hC0:C W.heap.size) (hC1:C (W.heap.size+1)) (hC2:C (W.heap.size+2))
  (hm:0<tabs.length) (hb:tabs.length≤1000) (hbb:∀ t∈tabs,t.length≤100000) (hrs:∀ t∈tabs,∀ r∈t,∃ a l c,r = .slice a l c) (hlen:(prods tabs).length≤1000)
  (hBt:Bt<W.heap.size) (hc:W.cell? ⟨Bt,0,none⟩=some (.slice (some ⟨tb,0,none⟩) tabs.length tc)) (ht:Tabs (fun k=>C k∧k≠W.heap.size+2) W tb 0 tabs)
  (I:List (List Value)→World→Prop) (hI:∀ s A B,I s A→A.heap.size≤B.heap.size→B.os=A.os→B.tape=A.tape→B.output=A.output→(∀ j,j<A.heap.size→j≠W.heap.size→j≠W.heap.size+1→j≠W.heap.size+2→B.heap[j]?=A.heap[j]?)→I s B)
  (h0:∀ W1,W1.heap.size=W.heap.size+2→RowKit.Below W.heap.size W W1→I [] W1)
  (a₁:Act)
  (hassign:∀ (l:Nat) (A:World) (K:Act→World→Prop),K a₁ A→
   assign.wpIn (Fence.wide.inRound l) (n - 1 - 1) Tryz.prog (Exit.then K (fun _ _ _=>False)) { tmps:=(ps.zip #[.slice (some ⟨W.heap.size+2,0,none⟩) tabs.length tabs.length]).foldl (fun t (p,v)=>t.setIfInBounds p v) a.tmps,defers := [] } A)
  (hbody:∀ (l:Nat) (pre:List (List Value)) (x:List Value) (A:World),I pre A→Took (W.heap.size+2) tabs x A→pre.length<1000→W.heap.size+2<A.heap.size→body.wpIn (Fence.wide.inRound l) (n - 1 - 1) Tryz.prog (fun e _ A'=>e = .normal∧Fr C A A'∧I (pre ++ [x]) A') a₁ A)
  (hdone:∀ (A:World),I (prods tabs) A→A.heap[W.heap.size]?=some (.deferred (some []))→Q .normal { a with defers:={ target := .collected W.heap.size,args:=#[] }::a.defers } A) :
  (Code.rangeFunc g ps assign body).wpIn Fence.wide n Tryz.prog Q a W:=by
 refine range_all rfl h1 (gf:=191) (lb:=#[.pointer (some ⟨Bt,0,none⟩)]) hg trivial (enters_of Tryz.func191 (by kernel_rfl) rfl)
  (fun _:List Value=>#[.slice (some ⟨W.heap.size+2,0,none⟩) tabs.length tabs.length]) (fun _=>by rw [hps];rfl)
  C hC0 hC1 (fun l=>l.length≤1000) (fun x A=>Took (W.heap.size+2) tabs x A) (fun x A o h=>?hM)
  (fun xs=>xs=prods tabs) (fun A B=>W.heap.size+2≤A.heap.size∧Fr (·≠W.heap.size+2) A B) (fun A B h=>⟨h.2.block _ (by omega) (by omega),h.2.block _ (by omega) (by omega)⟩)
  (fun J hJ hY W1 hs1 hb1 hj0=>?hseq)
  I (fun s A B hi h=>hI s A B hi h.2.size h.2.os h.2.tape h.2.output fun j hj _ _ h2=>h.2.block j hj h2) (fun s A k o hk hi=>?hIp) h0 (fun _=>a₁) (fun l x A K hK=>hassign l A K hK) (fun l pre x A hi hx hl=>?hbd) (fun xs A e hi hd=>?hdn)
 case hM=>
  obtain ⟨hT,h2,h3⟩:=h
  have e:(A.putObj (W.heap.size+1) o).heap[W.heap.size+2]?=A.heap[W.heap.size+2]?:=World.putObj_heap_other (by omega)
  exact ⟨⟨by simpa using hT.lt,fun i hi=>by obtain ⟨v,hv⟩:=hT.some_ i hi;exact ⟨v,(World.cell?_of_block (w:=A) (a:=⟨W.heap.size+2,i,none⟩) e).trans hv⟩,fun i=>(World.frozen?_of_block (w:=A) (a:=⟨W.heap.size+2,i,none⟩) e).trans (hT.un i),fun i hi=>(World.cell?_of_block (w:=A) (a:=⟨W.heap.size+2,i,none⟩) e).trans (hT.at_ i hi)⟩,h2,h3⟩
 case hseq=>
  refine (together1_in W C hC2 (n - 1) Bt tb 0 tc tabs hm hb hbb hrs hBt hc ht (fun l=>l.length≤1000) (fun p q h=>by rw [List.length_append] at h;omega) hlen (fun s A=>J s A∧W.heap.size+2≤A.heap.size) (fun s A B h f=>⟨hJ s A B h.1 ⟨h.2,f⟩,Nat.le_trans h.2 f.size⟩) (fun pre x A h hx hl=>?_) W1 hs1 hb1 ⟨hj0,by omega⟩).mono ?_
  ·obtain ⟨fn,tmps,assign',body',hy,hR⟩:=hY pre x A h.1 hx hl
   exact ⟨fn,tmps,assign',body',hy,hR.mono fun e A' hr=>⟨hr.1,⟨hr.2.1,Nat.le_trans h.2 hr.2.2.size⟩,hr.2.2⟩⟩
  ·rintro e A ⟨hv,xs,rfl,hj⟩
   exact ⟨hv,_,rfl,hj.1⟩
 case hIp=>
  refine hI s A _ hi (by simp) rfl rfl rfl fun j hj h1 h2 _=>?_
  rcases hk with rfl | rfl
  ·exact World.putObj_heap_other h1
  ·exact World.putObj_heap_other h2
 case hbd=>
  refine wpIn_mono (hbody l pre x A hi hx (by simpa [Nat.lt_iff_add_one_le] using hl) hx.1.lt) ?_
  rintro e a' A' h
  exact h
 case hdn=>
  subst e
  exact hdone A hi hd
end Go.Proofs.YtgnncnhkgmhngaaGreatDoor
namespace Go.Proofs.YtgnncnhkgmhngaaGreatDoor
open Go.RowKit Go.Sort
theorem Hv.blk {w w' : World} {b off:Nat} {vs:List Sv.Val} (h:Hv w b off vs) (hs:w.heap.size≤w'.heap.size) (e:w'.heap[b]?=w.heap[b]?):Hv w' b off vs:=by
 have hc:∀ o,w'.cell? ⟨b,o,none⟩=w.cell? ⟨b,o,none⟩:=fun o=>World.cell?_of_block (w:=w) (a:=⟨b,o,none⟩) e
 exact ⟨Nat.lt_of_lt_of_le h.lb hs,fun j hj=>(hc _).trans (h.k j hj),fun j hj=>(hc _).trans (h.n j hj),fun j hj=>(hc _).trans (h.s j hj)⟩
theorem RwC.blk {C:Nat→Prop} {w w' : World} {v:Value} {r:List Sv.Val} (h:RwC C w v r) (hs:w.heap.size≤w'.heap.size) (e:∀ b,C b→b<w.heap.size→w'.heap[b]?=w.heap[b]?):RwC C w' v r:=by
 rcases h with h | ⟨b,o,c,ev,hb,hv⟩
 ·exact .inl h
 ·exact .inr ⟨b,o,c,ev,hb,hv.blk hs (e b hb hv.lb)⟩
structure RowsI (D:Nat→Prop) (w:World) (N Br:Nat) (rows:List (List Sv.Val)) (A:World):Prop where
 box:∃ v xs,Boxed A Br 32 v∧A.ownsRow N 41 1 v xs.length xs∧Al (RwC (fun b=>D b∧some b≠v.ownBlock) A) xs rows
 size:N≤A.heap.size+1
 bel:RowKit.Below w.heap.size w A
theorem RowsI.same {D:Nat→Prop} {w A B:World} {N Br H:Nat} {rows:List (List Sv.Val)} (h:RowsI D w N Br rows A) (hN:N=H+3) (hBr:Br<H) (hw:w.heap.size≤H) (hD:∀ b,D b→b<H∨N≤b) (hs:A.heap.size≤B.heap.size) (ho:B.os=A.os) (ht:B.tape=A.tape) (hp:B.output=A.output) (hb:∀ j,j<A.heap.size→j≠H→j≠H+1→j≠H+2→B.heap[j]?=A.heap[j]?):RowsI D w N Br rows B:=by
 obtain ⟨⟨v,xs,b1,o1,a1⟩,sz,bl⟩:=h
 refine ⟨⟨v,xs,?_,?_,?_⟩,by omega,⟨ho.trans bl.os,ht.trans bl.tape,hp.trans bl.output,Nat.le_trans bl.size hs,fun j hj=>(hb j (by have:=bl.size;omega) (by omega) (by omega) (by omega)).trans (bl.block j hj)⟩⟩
 ·exact (hb Br b1.lt (by omega) (by omega) (by omega)).trans b1
 ·have hblk:=ownsV_block o1
  obtain ⟨hl,h | ⟨g,cap,cur,hv,h0,hc,r⟩⟩:=o1
  ·exact ⟨hl, .inl h⟩
  ·subst hv
   exact ⟨hl, .inr ⟨g,cap,cur,rfl,h0,(hb g (hblk g rfl).2 (by omega) (by omega) (by omega)).trans hc,r⟩⟩
 ·exact a1.mono fun u r hr=>hr.blk hs fun b hd hlt=>hb b hlt (by have:=hD b hd.1;omega) (by have:=hD b hd.1;omega) (by have:=hD b hd.1;omega)
theorem RowsI.start {D:Nat→Prop} {w A:World} {N Br:Nat} (hb:Boxed A Br 32 (.slice none 0 0)) (hs:N≤A.heap.size+1) (bl:RowKit.Below w.heap.size w A):RowsI D w N Br [] A:=
 ⟨⟨_, [],hb,World.ownsRow_nil _ _ _ _,trivial⟩,hs,bl⟩
theorem RowsI.push {D:Nat→Prop} {w A A1 W4:World} {N Br g' c' : Nat} {v u:Value} {xs:List Value} {rows:List (List Sv.Val)} {r:List Sv.Val} (hBw:w.heap.size≤Br) (hBN:Br<N) (hDB:∀ b,D b→b≠Br) (hsz:N≤A.heap.size) (bl:RowKit.Below w.heap.size w A)
  (b0:Boxed A Br 32 v) (o0:A.ownsRow N 41 1 v xs.length xs) (a0:Al (RwC (fun b=>D b∧some b≠v.ownBlock) A) xs rows)
  (b1:RowKit.Below A.heap.size A A1) (hr:RwC (fun b=>D b∧some b≠v.ownBlock) A1 u r)
  (hown:W4.ownsRow N 41 1 (.slice (some ⟨g',0,none⟩) (xs.length+1) c') (xs.length+1) (xs ++ [u])) (hgrow:(A1.alloc (.cells #[u] 41)).grownBy W4 v.ownBlock) (hat:v.ownBlock=some g'∨g'=A1.heap.size+1) :
  Boxed W4 Br 32 v∧RowsI D w N Br (rows ++ [r]) (W4.setCell ⟨Br,0,none⟩ (.slice (some ⟨g',0,none⟩) (xs.length+1) c'))∧Fr (fun k=>k<N∧k≠Br) A (W4.setCell ⟨Br,0,none⟩ (.slice (some ⟨g',0,none⟩) (xs.length+1) c')):=by
 have hblk:=ownsV_block o0
 have hb2:RowKit.Below A.heap.size A (A1.alloc (.cells #[u] 41)):=b1.alloc b1.size _
 have hz4:A1.heap.size+1≤W4.heap.size:=by have:=hgrow.size;simpa using this
 have hzA:A.heap.size≤A1.heap.size:=b1.size
 have hnotBr:some Br≠v.ownBlock:=fun e=>by have:=(hblk Br e.symm).1;omega
 have hW4:∀ j,j<A1.heap.size→some j≠v.ownBlock→W4.heap[j]?=A1.heap[j]?:=fun j hj hne=>(hgrow.block j (by simp;omega) hne).trans (Below.heap_alloc A1 _ j hj)
 have hbox:Boxed W4 Br 32 v:=(hW4 Br (by have:=b0.lt;omega) hnotBr).trans ((b1.block Br b0.lt).trans b0)
 have hst:∀ j,j≠Br→(W4.setCell ⟨Br,0,none⟩ (.slice (some ⟨g',0,none⟩) (xs.length+1) c')).heap[j]?=W4.heap[j]?:=fun j hj=>Below.heap_setCell _ _ _ _ hj
 have hs8:(W4.setCell ⟨Br,0,none⟩ (.slice (some ⟨g',0,none⟩) (xs.length+1) c')).heap.size=W4.heap.size:=by simp [World.setCell]
 have hg' : g'≠Br:=by
  rcases hat with h | h
  ·have:=(hblk g' h).1;omega
  ·have:=b0.lt;omega
 -- a row of before
 have hrow:∀ (y:Value) (q:List Sv.Val),RwC (fun b=>D b∧some b≠v.ownBlock) A1 y q→RwC (fun b=>D b∧some b≠(Value.slice (some ⟨g',0,none⟩) (xs.length+1) c').ownBlock) (W4.setCell ⟨Br,0,none⟩ (.slice (some ⟨g',0,none⟩) (xs.length+1) c')) y q:=by
  intro y q hy
  rcases hy with h | ⟨b,o,c,ev,⟨hd,hne⟩,hv⟩
  ·exact .inl h
  ·have hlb:=hv.lb
   refine .inr ⟨b,o,c,ev,⟨hd,?_⟩,hv.blk (by omega) ((hst b (hDB b hd)).trans (hW4 b hlb hne))⟩
   intro e
   have e' : b=g':=by simpa [Value.ownBlock] using e
   rcases hat with h | h
   ·exact hne (by rw [e',h])
   ·omega
 refine ⟨hbox,⟨⟨_,xs ++ [u],hbox.set _,?_,?_⟩,by omega,?_⟩,?_⟩
 ·rw [List.length_append]
  obtain ⟨hl,h | ⟨g,cap,cur,hv,h0,hc,rr⟩⟩:=hown
  ·cases h.1
  ·have e' : g=g':=by injection hv with e1 _ _;injection e1 with e1;injection e1 with e1;exact e1.symm
   subst e'
   exact ⟨hl, .inr ⟨g,cap,cur,hv,h0,(hst g hg').trans hc,rr⟩⟩
 ·refine Al.snoc ?_ (hrow _ _ hr)
  exact a0.mono fun y q hy=>hrow y q (hy.bel b1)
 ·refine ⟨hgrow.os.trans (b1.os.trans bl.os),hgrow.tape.trans (b1.tape.trans bl.tape),hgrow.output.trans (b1.output.trans bl.output),by have:=bl.size;omega,fun j hj=>?_⟩
  have hjA:j<A.heap.size:=by have:=bl.size;omega
  exact (hst j (by omega)).trans ((hW4 j (by omega) (fun e=>by have:=(hblk j e.symm).1;omega)).trans ((b1.block j hjA).trans (bl.block j hj)))
 ·refine ⟨hgrow.os.trans b1.os,hgrow.tape.trans b1.tape,hgrow.output.trans b1.output,by omega,fun j hj hc=>?_⟩
  exact (hst j hc.2).trans ((hW4 j (by omega) (fun e=>by have:=(hblk j e.symm).1;omega)).trans (b1.block j hj))
end Go.Proofs.YtgnncnhkgmhngaaGreatDoor
