import Derived.Test.YtgnncnhkgmhngaaGreatDoorJ41
set_option maxHeartbeats 4000000
set_option maxRecDepth 100000
namespace Go.Proofs.YtgnncnhkgmhngaaGreatDoor
open Go.RowKit Go.Sort
theorem calls_grV {P:Program} {f:FuncId} {args:Array Value} {w:World} {R:Value->World->Prop} (h:Calls P f args w fun e w'=>∃ v,e = .returned v/\R v w'/\RowKit.Below w.heap.size w w'):Calls P f args w fun e w'=>∃ v,e = .returned v/\R v w'/\Gr w w':=
 (Dr.calls_drawn h (fun _ hx=>by obtain ⟨v,e,_⟩:=hx;cases e)).mono fun _ _ hx=>by obtain ⟨⟨v,e,r,b⟩,d⟩:=hx;exact ⟨v,e,r,Gr.of b d⟩
def Al {α β:Type} (R:α->β->Prop):List α->List β->Prop
 | [], []=>True
 | a::l,b::m=>R a b/\Al R l m
 | _,_=>False
theorem Al.len {α β:Type} {R:α->β->Prop} : ∀ {l:List α} {m:List β},Al R l m->l.length=m.length
 | [], [],_=>rfl
 | _::_,_::_,h=>by simp [h.2.len]
 | [],_::_,h=>h.elim
 | _::_, [],h=>h.elim
theorem Al.app {α β:Type} {R:α->β->Prop} : ∀ {l:List α} {m:List β} {l' : List α} {m' : List β},Al R l m->Al R l' m'->Al R (l++l') (m++m')
 | [], [],_,_,_,h=>h
 | _::_,_::_,_,_,h,h'=>⟨h.1,h.2.app h'⟩
 | [],_::_,_,_,h,_=>h.elim
 | _::_, [],_,_,h,_=>h.elim
theorem Al.get {α β:Type} {R:α->β->Prop} : ∀ {l:List α} {m:List β},Al R l m->∀ i,(h:i<l.length)->(h' : i<m.length)->R l[i] m[i]
 | [], [],_,i,h,_=>by simp at h
 | _::_,_::_,h,0,_,_=>h.1
 | _::_,_::_,h,i+1,h1,h2=>h.2.get i (by simpa using h1) (by simpa using h2)
 | [],_::_,h,_,_,_=>h.elim
 | _::_, [],h,_,_,_=>h.elim
theorem Al.of {α β:Type} {R:α->β->Prop} : ∀ {l:List α} {m:List β},l.length=m.length->(∀ i,(h:i<l.length)->(h' : i<m.length)->R l[i] m[i])->Al R l m
 | [], [],_,_=>trivial
 | a::l,b::m,h,hr=>⟨hr 0 (by simp) (by simp),Al.of (by simpa using h) fun i h1 h2=>hr (i+1) (by simpa using h1) (by simpa using h2)⟩
 | [],_::_,h,_=>by simp at h
 | _::_, [],h,_=>by simp at h
theorem Al.mono {α β:Type} {R R' : α->β->Prop} (hR:∀ a b,R a b->R' a b):∀ {l:List α} {m:List β},Al R l m->Al R' l m
 | [], [],_=>trivial
 | _::_,_::_,h=>⟨hR _ _ h.1,h.2.mono hR⟩
 | [],_::_,h=>h.elim
 | _::_, [],h=>h.elim
theorem Al.flat {α β:Type} {R:α->β->Prop} : ∀ {l:List (List α)} {m:List (List β)},Al (Al R) l m->Al R l.flatten m.flatten
 | [], [],_=>trivial
 | _::_,_::_,h=>by rw [List.flatten_cons,List.flatten_cons];exact h.1.app h.2.flat
 | [],_::_,h=>h.elim
 | _::_, [],h=>h.elim
theorem Al.memR {α β:Type} {R:α->β->Prop} {l:List α} {m:List β} (h:Al R l m) {a:α} (ha:a∈l):∃ b∈m,R a b:=by
 obtain ⟨i,hi,rfl⟩:=List.mem_iff_getElem.1 ha
 have hl:=h.len
 exact ⟨m[i],List.getElem_mem (by omega),h.get i hi (by omega)⟩
def RwC (C:Nat->Prop) (w:World) (v:Value) (vs:List Sv.Val):Prop:=(v = .slice none 0 0/\vs = [])\/∃ b off c,v = .slice (some ⟨b,off,none⟩) vs.length c/\C b/\Hv w b off vs
theorem RwC.bel {C:Nat->Prop} {w w' : World} {v:Value} {r:List Sv.Val} (h:RwC C w v r) (g:RowKit.Below w.heap.size w w'):RwC C w' v r:=by
 rcases h with h | ⟨b,o,c,e,hb,hv⟩
 ·exact .inl h
 ·exact .inr ⟨b,o,c,e,hb,hv.below g g.size hv.lb⟩
theorem RwC.to {C D:Nat->Prop} {w:World} {v:Value} {r:List Sv.Val} (h:RwC C w v r) (hd:∀ b,C b->b<w.heap.size->D b):RwC D w v r:=by
 rcases h with h | ⟨b,o,c,e,hb,hv⟩
 ·exact .inl h
 ·exact .inr ⟨b,o,c,e,hd b hb hv.lb,hv⟩
theorem RwC.rw {C:Nat->Prop} {w:World} {v:Value} {r:List Sv.Val} (h:RwC C w v r):Rw w.heap.size w v r:=h.to fun _ _ hb=>hb
theorem RwC.one {C:Nat->Prop} {w:World} {v:Value} {r:List Sv.Val} (h:RwC C w v r):v.oneCell'=true:=by
 rcases h with ⟨e,_⟩ | ⟨b,o,c,e,_⟩ <;> rw [e] <;> rfl
def Lrs (C:Nat->Prop) (w:World) (v:Value) (rows:List (List Sv.Val)):Prop:=∃ xs,SlV w v xs/\Al (RwC C w) xs rows
theorem Lrs.bel {C:Nat->Prop} {w w' : World} {v:Value} {rows:List (List Sv.Val)} (h:Lrs C w v rows) (g:RowKit.Below w.heap.size w w'):Lrs C w' v rows:=by
 obtain ⟨xs,h1,h2⟩:=h
 exact ⟨xs,h1.below g,h2.mono fun a b hr=>hr.bel g⟩
theorem Lrs.nil (C:Nat->Prop) (w:World):Lrs C w (.slice none 0 0) []:=⟨[], .inl ⟨rfl,rfl⟩,trivial⟩
theorem Lrs.to {C D:Nat->Prop} {w:World} {v:Value} {rows:List (List Sv.Val)} (h:Lrs C w v rows) (hd:∀ b,C b->b<w.heap.size->D b):Lrs D w v rows:=by
 obtain ⟨xs,h1,h2⟩:=h
 exact ⟨xs,h1,h2.mono fun a b hr=>hr.to hd⟩
def RsO (base k:Nat) (w:World) (v:Value) (rows:List (List Sv.Val)):Prop:=
 (rows = []/\v = .slice none 0 0)\/∃ blk c,v = .slice (some ⟨blk,0,none⟩) rows.length (rows.length+c)/\base<=blk/\blk<w.heap.size/\RL blk 0 k w rows
theorem RsO.lrs {base k:Nat} {w:World} {v:Value} {rows:List (List Sv.Val)} (h:RsO base k w v rows):Lrs (fun _=>True) w v rows:=by
 rcases h with ⟨rfl,rfl⟩ | ⟨blk,c,rfl,h1,h2,h3⟩
 ·exact Lrs.nil _ w
 ·refine ⟨List.ofFn (n:=rows.length) fun j=>Classical.choose (h3 j.1 j.2), .inr ⟨blk,0,_,by simp;rfl,h2,fun i hi=>?_⟩,Al.of (by simp) fun i h4 h5=>?_⟩
  ·simp only [List.getElem_ofFn]
   exact (Classical.choose_spec (h3 i (by simpa using hi))).1
  ·simp only [List.getElem_ofFn]
   exact (Classical.choose_spec (h3 i h5)).2.2.1.rw.elim .inl fun ⟨b,o,c,e,_,hv⟩ => .inr ⟨b,o,c,e,trivial,hv⟩
theorem Lrs.tkn {C:Nat->Prop} {w:World} {v:Value} {rows:List (List Sv.Val)} (h:Lrs C w v rows):Tkn w rows v:=by
 obtain ⟨xs,h1,h2⟩:=h
 have hl:=h2.len
 rcases h1 with ⟨rfl,rfl⟩ | ⟨blk,o,c,rfl,hb,hc⟩
 ·refine ⟨none,0,by rw [<- hl];rfl,fun hne=>absurd (List.eq_nil_of_length_eq_zero (by rw [<- hl];rfl)) hne⟩
 ·exact ⟨_,c,by rw [hl],fun _=>⟨blk,o,rfl,hb,fun i hi=>⟨xs[i]'(by omega),hc i (by omega),(h2.get i (by omega) hi).rw⟩⟩⟩
theorem choose_list {β:Type} (P:Nat->β->Prop):∀ n,(∀ i,i<n->∃ b,P i b)->∃ l:List β,l.length=n/\∀ i,(h:i<l.length)->P i l[i]
 | 0,_=>⟨[],rfl,fun i h=>by simp at h⟩
 | n+1,h=>by
  obtain ⟨l,h1,h2⟩:=choose_list P n fun i hi=>h i (by omega)
  obtain ⟨b,hb⟩:=h n (by omega)
  refine ⟨l ++ [b],by simp [h1],fun i hi=>?_⟩
  by_cases e:i<l.length
  ·rw [List.getElem_append_left e];exact h2 i e
  ·have:i=l.length:=by simp at hi;omega
   subst this
   rw [List.getElem_append_right (Nat.le_refl _)]
   simp only [Nat.sub_self,List.getElem_cons_zero]
   rw [h1];exact hb
theorem concat_rows {C:Nat->Prop} {b off n c:Nat} {vs:List Value} {rss:List (List (List Sv.Val))} {w:World} (hz:n=vs.length) (hz2:rss.length=vs.length) (hb:b<w.heap.size) (hc:∀ j,(h:j<vs.length)->w.cell? ⟨b,off+j,none⟩=some vs[j])
  (hs:∀ j,(h:j<vs.length)->Lrs C w vs[j] (rss[j]'(by omega))) (hbig:rss.flatten.length<=100000) (hn:n<=1000) :
  Calls Tryz.prog 190 #[.slice (some ⟨b,off,none⟩) n c] w fun e w'=>∃ v,e = .returned v/\(∃ xs,w'.ownsRow w.heap.size 41 1 v xs.length xs/\(xs = []->v = .slice none 0 0)/\Al (RwC C w') xs rss.flatten)/\RowKit.Below w.heap.size w w':=by
 obtain ⟨ls,hl1,hl2⟩:=choose_list (fun j (xs:List Value)=>∃ h:j<vs.length,SlV w vs[j] xs/\Al (RwC C w) xs (rss[j]'(by omega))) vs.length (fun j hj=>by obtain ⟨xs,h1,h2⟩:=hs j hj;exact ⟨xs,hj,h1,h2⟩)
 have hal:Al (Al (RwC C w)) ls rss:=Al.of (by omega) fun i h1 h2=>by obtain ⟨_,_,h⟩:=hl2 i h1;exact h
 have hfl:=hal.flat
 have hlen:=hfl.len
 refine (concatR_any b off n c vs ls w hz hl1 hb hc (fun j hj=>?_) (fun l hl u hu=>?_) (by omega) hn).mono ?_
 ·rw [List.getElem?_eq_getElem (by omega),Option.getD_some]
  exact (hl2 j (by omega)).2.1
 ·have:u∈ls.flatten:=List.mem_flatten.2 ⟨l,hl,hu⟩
  obtain ⟨r,_,hr⟩:=hfl.memR this
  exact hr.one
 ·rintro e w' ⟨v,rfl,o,hnil,hbel⟩
  exact ⟨v,rfl,⟨ls.flatten,o,hnil,hfl.mono fun a b hr=>hr.bel hbel⟩,hbel⟩
theorem RL.owned {base k:Nat} {w:World} {v:Value} {xs:List Value} {rows:List (List Sv.Val)} (o:w.ownsRow base 41 1 v xs.length xs) (hne:xs ≠ []) (ha:Al (RwC (·<base) w) xs rows) (hk:∀ r∈rows,r.length=k):∃ blk c,v = .slice (some ⟨blk,0,none⟩) xs.length c/\base<=blk/\blk<w.heap.size/\RL blk 0 k w rows:=by
 have hb:=ownsV_block o
 have ho:=o
 obtain ⟨hl,h | ⟨g,cap,cur,hv,h0,hc,r1,r2,r3,r4⟩⟩:=o
 ·exact absurd (List.eq_nil_of_length_eq_zero h.2) hne
 ·subst hv
  have hg:=(hb g rfl).2
  have hln:=ha.len
  refine ⟨g,cap,rfl,h0,hg,fun j hj=>?_⟩
  have hjx:j<xs.length:=by omega
  have hcell:w.cell? ⟨g,0+j,none⟩=some xs[j]:=by rw [Nat.zero_add];exact owns_cells ho j xs[j] (List.getElem?_eq_getElem hjx)
  refine ⟨xs[j],hcell,by simp [World.frozen?,hc],?_,hk _ (List.getElem_mem hj)⟩
  rcases ha.get j hjx hj with h | ⟨b,o,c,e,hb',hv⟩
  ·exact .inl h
  ·exact .inr ⟨b,o,c,e,by omega,hv⟩
theorem sorted_any {C:Nat->Prop} {b off n c k:Nat} {vs:List Value} {rss:List (List (List Sv.Val))} {w:World} (hz:n=vs.length) (hz2:rss.length=vs.length) (hb:b<w.heap.size) (hc:∀ j,(h:j<vs.length)->w.cell? ⟨b,off+j,none⟩=some vs[j])
  (hs:∀ j,(h:j<vs.length)->Lrs C w vs[j] (rss[j]'(by omega))) (hbig:rss.flatten.length<=100000) (hn:n<=1000) (hk:k<=100000) (hw:∀ r∈rss.flatten,r.length=k) :
  Calls Tryz.prog 198 #[.slice (some ⟨b,off,none⟩) n c] w fun e w'=>∃ v,e = .returned v/\RsO w.heap.size k w' v (sortR rss.flatten)/\Gr w w':=by
 apply calls_grV
 have HC:=hid (concat_rows (C:=(·<w.heap.size)) (c:=c) hz hz2 hb hc (fun j h=>(hs j h).to fun _ _ hb=>hb) hbig hn)
 clear hz hz2 hb hc hs hn
 generalize rss.flatten=rows at *
 have HW:=hid hw
 clear hw
 go_enter Tryz.func198,Tryz.ntmps198
 go_wp2_with fail
 refine HC.out.mono ?_
 rintro e w1 ⟨v,rfl,⟨xs,o,hnil,ha⟩,hbel⟩
 clear HC
 have hln:=ha.len
 by_cases hx:xs = []
 ·obtain rfl:=hnil hx
  have HR:Hid (rows = []):=List.eq_nil_of_length_eq_zero (by rw [<- hln,hx];rfl)
  clear o hnil ha hln hx
  have HB:=hid hbel
  clear hbel
  go_wp2_with fail
  refine (sort_nil w1).mono ?_
  rintro e w2 ⟨rfl,g2⟩
  have HB2:=hid (HB.out.trans (g2.below.mono HB.out.size))
  clear g2
  go_wp2_with fail
  go_ret
  exact ⟨_,rfl, .inl ⟨by rw [HR.out];simp [sortR],rfl⟩,HB2.out⟩
 ·obtain ⟨blk,cc,rfl,h1,h2,hRL⟩:=RL.owned o hx ha HW.out
  have hpos:0<xs.length:=List.length_pos_iff.2 hx
  have hcc:xs.length<=cc:=by
   obtain ⟨_,h | ⟨_,_,_,e,_,_,r,_⟩⟩:=o
   ·cases h.1
   ·injection e with _ _ e;omega
  have HS:=hid (sort_any blk 0 xs.length cc k w1 rows hk hln hpos (by omega) h2 hRL)
  have HL:=hid hln
  have HB:=hid hbel
  clear o hnil ha hRL hbel hx hln
  go_wp2_with fail
  refine HS.out.mono ?_
  rintro e w2 ⟨rfl,kp,rl⟩
  have HB2:Hid (RowKit.Below w.heap.size w w2):=⟨kp.os.trans HB.out.os,kp.tape.trans HB.out.tape,kp.output.trans HB.out.output,Nat.le_trans HB.out.size kp.size,fun q hq=>(kp.block q (Nat.lt_of_lt_of_le hq HB.out.size) (by omega)).trans (HB.out.block q hq)⟩
  have HR:=hid rl
  have hz:=kp.size
  clear kp rl
  go_wp2_with fail
  go_ret
  refine ⟨_,rfl, .inr ⟨blk,cc - xs.length,by rw [(sortR_perm rows).length_eq,<- HL.out,Nat.add_sub_cancel' hcc];rfl,h1,by omega,HR.out⟩,HB2.out⟩
theorem infoRows:(Tryz.prog.info? 32).map (fun i=>(i.zero,i.size,i.bytes))=some (some (.slice none 0 0),1,24):=by kernel_rfl
theorem tfind_low {k:Nat} {w:World} {T:List Sp.Tb} {v:Value} (h:Tbs k w T v) (x:Sp.Bs) :
  (Sp.findTb x T=none/\∀ w1,Low k w w1->Calls Tryz.prog 146 #[v, .string (bz x)] w1 fun e w'=>e = .returned (.tuple #[enT noT, .bool false])/\Gr w1 w')\/
  ∃ t tv,Sp.findTb x T=some t/\Tb1 k w t tv/\∀ w1,Low k w w1->Calls Tryz.prog 146 #[v, .string (bz x)] w1 fun e w'=>e = .returned (.tuple #[enT tv, .bool true])/\Gr w1 w':=by
 rcases h.2.2 with ⟨rfl,rfl⟩ | ⟨b,off,c,V,rfl,h2,h3,h4⟩
 ·exact .inl ⟨rfl,fun w1 _=>find_nil _ w1⟩
 ·have F:=fun w1 (g:Low k w w1)=>find_any b off T.length c V (bz x) w1 h4.len.symm (by have:=h.1;omega) (h3.low g h2)
  rw [bz_list] at F
  rcases h4.find x with ⟨e1,e2⟩ | ⟨t,tv,e1,e2,e3⟩
  ·rw [e2] at F;exact .inl ⟨e1,F⟩
  ·rw [e2] at F;exact .inr ⟨t,tv,e1,e3,F⟩
theorem Low.of_bel {k:Nat} {w w' : World} (h:RowKit.Below w.heap.size w w'):Low k w w':=⟨h.size,fun j _ hs=>h.block j hs⟩
theorem Al.snoc {α β:Type} {R:α->β->Prop} {l:List α} {m:List β} {a:α} {b:β} (h:Al R l m) (hr:R a b):Al R (l ++ [a]) (m ++ [b]):=h.app ⟨hr,trivial⟩
theorem one_slice (a:Option Addr) (n c:Nat):∀ u∈([.slice a n c]:List Value),u.oneCell'=true:=fun u hu=>by simp at hu;rw [hu];rfl
theorem newV1 (w:World) (x:Value) (t:TypeId):∀ j u, [x][j]?=some u->(w.alloc (.cells #[x] t)).cell? (Addr.add ⟨w.heap.size,0,none⟩ j)=some u:=by
 intro j u hj
 rw [Addr.add_lit,Nat.zero_add,World.cell?_alloc_new,<- hj]
 match j with
 | 0=>rfl
 | j+1=>rfl
theorem Low.trans {k:Nat} {a b c:World} (h:Low k a b) (g:Low k b c):Low k a c:=⟨Nat.le_trans h.1 g.1,fun j hj hs=>(g.2 j hj (Nat.lt_of_lt_of_le hs h.1)).trans (h.2 j hj hs)⟩
theorem rtogether_any {k blk c:Nat} {T:List Sp.Tb} {tv:Value} {src:List (Sp.Nm×Sp.Nm)} {w₁ w:World} (ht:Tbs k w₁ T tv) (hlo:Low k w₁ w) (hs:Srcs w blk 0 src) (hb:blk<w.heap.size) (hn:src ≠ []) (hm:src.length<=1000) (hf:∀ x∈src,(Sp.findTb x.1.1 T).isSome=true) :
  Calls Tryz.prog 196 #[tv, .slice (some ⟨blk,0,none⟩) src.length c] w fun e w'=>∃ v,e = .returned v/\(∃ Bs tb tc vs,v = .func (.func 191) #[] #[.pointer (some ⟨Bs,0,none⟩)]/\Bs<w'.heap.size/\w'.cell? ⟨Bs,0,none⟩=some (.slice (some ⟨tb,0,none⟩) src.length tc)/\(w.heap.size<=tb/\tb<w'.heap.size)/\(∀ j,(h:j<vs.length)->w'.cell? ⟨tb,j,none⟩=some vs[j])/\Al (fun v (x:Sp.Nm×Sp.Nm)=>∃ t V,v=V.rv/\Sp.findTb x.1.1 T=some t/\Tb1 k w₁ t V) vs src)/\RowKit.Below w.heap.size w w':=by
 obtain ⟨i0,ji,jz0,jz1,jz2⟩:=info_parts infoRows
 have HT:=hid ht
 have HLw:=hid hlo
 have HS:=hid hs
 have HF:=hid hf
 obtain ⟨ta,tn,tc0,rfl⟩:∃ a n c,tv = .slice a n c:=by
  rcases ht.2.2 with ⟨_,e⟩ | ⟨b,off,c,V,e,_⟩
  ·exact ⟨_,_,_,e⟩
  ·exact ⟨_,_,_,e⟩
 obtain ⟨n,hnn⟩:∃ n,n=src.length:=⟨_,rfl⟩
 have HN:=hid hnn
 have hpos:0<n:=by rw [hnn];exact List.length_pos_iff.2 hn
 rw [<- hnn] at hm ⊢
 clear ht hlo hs hf hnn hn
 go_enter Tryz.func196,Tryz.ntmps196
 go_wp2_with fail
 go_loopw [5,12] (fun v i wr=>∃ (j:Nat) (vs:List Value) (va:Option Addr) (vc:Nat),j<=n/\i = .int .i64 (j:Nat)/\v = .slice va j vc/\Hid (wr.ownsRow w.heap.size 32 1 (.slice va j vc) j vs)/\Hid (Al (fun v (x:Sp.Nm×Sp.Nm)=>∃ t V,v=V.rv/\Sp.findTb x.1.1 T=some t/\Tb1 k w₁ t V) vs (src.take j))/\Hid (RowKit.Below w.heap.size w wr)) (fun _ i _=>n - (intOf i).toNat)
 case atStart=>exact ⟨0, [],none,0,Nat.zero_le _,rfl,rfl,World.ownsRow_nil _ _ _ _,trivial,Below.refl _ _⟩
 case round=>
  obtain ⟨j,vs,va,vc,hj,rfl,rfl,HO,HA,HB⟩:=hrel
  by_cases hlt:j<n
  ·have hjs:j<src.length:=by have:=HN.out;omega
   obtain ⟨q0,q1,q2,q3⟩:=Srcs.at_ src 0 j hjs HS.out
   have c0:=(HB.out.cell (p:=⟨blk,0+j*4,none⟩) hb).trans q0
   have c1:=(HB.out.cell (p:=⟨blk,0+j*4+1,none⟩) hb).trans q1
   have c2:=(HB.out.cell (p:=⟨blk,0+j*4+2,none⟩) hb).trans q2
   have c3:=(HB.out.cell (p:=⟨blk,0+j*4+3,none⟩) hb).trans q3
   rw [Nat.zero_add] at c0 c1 c2 c3
   clear q0 q1 q2 q3
   have HFj:=hid (HF.out _ (List.getElem_mem hjs))
   have HTk:=hid (List.take_succ_eq_append_getElem hjs)
   obtain ⟨sx,hsx⟩:∃ sx,sx=src[j]:=⟨_,rfl⟩
   rw [<- hsx] at c0 c1 c2 c3 HFj HTk
   clear hsx
   obtain ⟨⟨tw,ta'⟩,cw,ca⟩:=sx
   simp only [] at c0 c1 c2 c3 HFj
   rcases tfind_low HT.out tw with ⟨e,_⟩ | ⟨t,V,e,hT1,F⟩
   ·have:=HFj.out;rw [e] at this;cases this
   have HRel:Hid (∃ t V',V.rv=V'.rv/\Sp.findTb tw T=some t/\Tb1 k w₁ t V'):=⟨t,V,rfl,e,hT1⟩
   have HFd:=hid F
   clear e F hT1
   obtain ⟨vn,vca,vcl,vcc,vra,vrl,vrc⟩:=V
   have GA:=hid ((Gr.refl wr).alloc (.cells #[.string (bz tw), .int .i64 (ta' : Int), .string (bz cw), .int .i64 (ca:Int)] 337))
   have HLo:Hid (Low k w₁ (wr.alloc (.cells #[.string (bz tw), .int .i64 (ta' : Int), .string (bz cw), .int .i64 (ca:Int)] 337))):=HLw.out.trans (Low.of_bel (HB.out.trans (GA.out.below.mono HB.out.size)))
   go_wp2_with fail
   refine (HFd.out _ HLo.out).mono ?_
   rintro e w2 ⟨rfl,g2⟩
   have G2:=hid (GA.out.trans g2)
   clear g2 c0 c1 c2 c3
   have hjb:j<1000:=by omega
   have HO2:Hid (((w2.alloc (.cells #[.string vn, .slice vca vcl vcc, .slice vra vrl vrc] 187)).alloc (.cells #[.slice vra vrl vrc] 32)).ownsRow w.heap.size 32 1 (.slice va j vc) j vs):=ownsV_below (ownsV_below HO.out G2.out.below) (((Gr.refl w2).alloc _).alloc _).below
   have HNw:Hid (∀ q u,([.slice vra vrl vrc]:List Value)[q]?=some u->((w2.alloc (.cells #[.string vn, .slice vca vcl vcc, .slice vra vrl vrc] 187)).alloc (.cells #[.slice vra vrl vrc] 32)).cell? ((⟨w2.heap.size+1,0,none⟩:Addr).add q)=some u):=by
    have h:=newV1 (w2.alloc (.cells #[.string vn, .slice vca vcl vcc, .slice vra vrl vrc] 187)) (.slice vra vrl vrc) 32
    rw [World.size_alloc] at h
    exact h
   have HB2:Hid (RowKit.Below w.heap.size w ((w2.alloc (.cells #[.string vn, .slice vca vcl vcc, .slice vra vrl vrc] 187)).alloc (.cells #[.slice vra vrl vrc] 32))):=(HB.out.trans (G2.out.below.mono HB.out.size)).trans ((((Gr.refl w2).alloc _).alloc _).below.mono (Nat.le_trans HB.out.size G2.out.size))
   have H3:Hid (j+1<=maxLen):=by show _<=_;unfold maxLen;omega
   have H4:Hid ((j+1)*24<=140737488355328):=by show _<=_;omega
   have H5:Hid (w.heap.size<=((w2.alloc (.cells #[.string vn, .slice vca vcl vcc, .slice vra vrl vrc] 187)).alloc (.cells #[.slice vra vrl vrc] 32)).heap.size):=HB2.out.size
   go_wp2_with (at_builtin;go_must (refine wpList_append_own _ rfl (.tmp 24) (.tmp 27) 326 rfl w.heap.size 32 i0 (.slice none 0 0) 1 24 Tryz.underlying326 ji jz0 jz1 jz2 rfl (by decide) _ j _ rfl HO2.out ⟨w2.heap.size+1,0,none⟩ 1 1 [.slice vra vrl vrc] rfl rfl HNw.out (one_slice _ _ _) H3.out H4.out H5.out ?_))
   intro v' w3 hown hgrow hnil
   have HB3:=hid (below_grown HB2.out hgrow HO2.out (Nat.le_refl _))
   obtain ⟨va',vc',rfl⟩:∃ a c,v' = .slice a (j+1) c:=by
    obtain ⟨_,h | ⟨g',cap,cur,hv,_⟩⟩:=hown
    ·exact absurd h.2 (by omega)
    ·exact ⟨_,_,hv⟩
   have HO3:=hid hown
   have HA3:Hid (Al (fun v (x:Sp.Nm×Sp.Nm)=>∃ t V,v=V.rv/\Sp.findTb x.1.1 T=some t/\Tb1 k w₁ t V) (vs ++ [.slice vra vrl vrc]) (src.take (j+1))):=by
    show Al _ _ _
    rw [HTk.out]
    exact HA.out.snoc HRel.out
   clear hown hgrow hnil HO2 HNw HB2 H3 H4 H5
   go_wp2_with fail
   go_roundw
   case rel=>exact ⟨j+1,vs ++ [.slice vra vrl vrc],va',vc',by omega,by go_num,rfl,HO3,HA3,HB3⟩
   case measure=>simp [intOf];omega
  ·obtain rfl:j=n:=by omega
   have HA2:Hid (Al (fun v (x:Sp.Nm×Sp.Nm)=>∃ t V,v=V.rv/\Sp.findTb x.1.1 T=some t/\Tb1 k w₁ t V) vs src):=by
    have:=HA.out
    rw [HN.out,List.take_length] at this
    exact this
   have hlv:vs.length=j:=HA2.out.len.trans HN.out.symm
   obtain ⟨g,cap,hv,hcells,hgz,hgl⟩:∃ g cap,(Value.slice va j vc) = .slice (some ⟨g,0,none⟩) j cap/\(∀ q,(h:q<vs.length)->wr.cell? ⟨g,q,none⟩=some vs[q])/\w.heap.size<=g/\g<wr.heap.size:=by
    have ho:=HO.out
    obtain ⟨_,h | ⟨g',cap,cur,hv,_⟩⟩:=HO.out
    ·exact absurd h.2 (by omega)
    ·rw [hv] at ho
     exact ⟨g',cap,hv,fun q hq=>owns_cells ho q _ (List.getElem?_eq_getElem hq),(owns_lt ho).1,(owns_lt ho).2⟩
   injection hv with hv1 _ hv3
   subst hv1 hv3
   have HCl:=hid hcells
   have HLv:=hid hlv
   clear hcells hlv hlt
   go_wp2_with fail
   refine (together_any _ _ _ wr).mono ?_
   rintro e w1 ⟨rfl,rfl⟩
   have GW:=hid ((Gr.refl wr).alloc (.cells #[.slice (some ⟨g,0,none⟩) j vc] 326))
   go_wp2_with fail
   go_ret
   exact ⟨_,rfl,⟨wr.heap.size,g,vc,vs,rfl,by simp,by simp,⟨hgz,by simp;omega⟩,fun q hq=>(GW.out.cell (p:=⟨g,q,none⟩) hgl).trans (HCl.out q hq),HA2.out⟩,HB.out.trans (GW.out.below.mono HB.out.size)⟩
def RowF (w0 w:World) (v:Value) (vals:List Sv.Val):Prop:=Calls Tryz.prog 188 #[v] w fun e W'=>∃ u,e = .returned u/\OwR w0.heap.size W' u vals/\RowKit.Below w0.heap.size w0 W'
theorem OwR.lower {b b' : Nat} {w:World} {v:Value} {vs:List Sv.Val} (h:OwR b w v vs) (hb:b'<=b):OwR b' w v vs:=ownsT_lower h hb
theorem calls_cells (v:Value) (hv:∃ a l c,v = .slice a l c) (w:World) :
  Calls Tryz.prog 195 #[v] w fun e w'=>e = .returned (.func (.func 237) #[] #[.pointer (some ⟨w.heap.size,0,none⟩)])/\w'=w.alloc (.cells #[v] 32):=
 callsIn_wide.1 (cells_in Fence.wide 6 trivial rfl v hv w)
theorem row_cells {w:World} {tk:List (List Sv.Val)} {sv:Value} (h:Tkn w tk sv) (hne:tk ≠ []) (hl:tk.length<=100000) (hf:tk.flatten.length<=100000):RowF w (w.alloc (.cells #[sv] 32)) (.func (.func 237) #[] #[.pointer (some ⟨w.heap.size,0,none⟩)]) tk.flatten:=by
 have G:=(Gr.refl w).alloc (.cells #[sv] 32)
 have h':=h.gr G
 obtain ⟨a,c,rfl,h1⟩:=h'
 obtain ⟨rb,ro,rfl,hr⟩:=h1 hne
 refine (callsIn_wide.1 (row_in 6 (Nat.le_refl _) 237 _ tk.flatten hf _ (enters_of Tryz.func237 (by kernel_rfl) rfl)
  (cells_stops Fence.wide (6 - 1) trivial rfl (by omega) w.heap.size _ rb ro c tk tk.flatten rfl hl hf _ (by simp) (Nat.le_refl _) (by simp) hr))).mono ?_
 rintro e W' ⟨u,rfl,o,b⟩
 exact ⟨u,rfl,o.lower G.size,G.below.trans (b.mono G.size)⟩
theorem rcells_star {sb st:Nat} {di:Bool} {fv wv tv iv:Value} {env:List (List Sp.Row)} {tk:List Sp.Row} {w:World} (hs:At w sb [.bool di, .int .i64 (st:Int), .slice none 0 0,fv,wv]) (ha:Arn w tv (tk::env) iv) (hne:tk ≠ []) (hl:tk.length<=100000) (hf:tk.flatten.length<=100000) :
  Calls Tryz.prog 197 #[.pointer (some ⟨sb,0,none⟩),iv] w fun e w'=>∃ gf lb,e = .returned (.func (.func gf) #[] lb)/\RowF w w' (.func (.func gf) #[] lb) tk.flatten/\Gr w w':=by
 obtain ⟨ib,sv,ov,rfl,hib,c0,c1,c2,ht,hr⟩:=ha
 have HT:=hid ht
 obtain ⟨va,vc,rfl⟩:=ht.sl
 have b2:=hs.k2
 have hbw:=hs.1
 have HC:=hid (calls_cells (.slice va tk.length vc) ⟨_,_,_,rfl⟩ w)
 have HR:=hid (row_cells HT.out hne hl hf)
 generalize tk.flatten=vals at *
 clear ht hr hs hne
 have hq:=fun (w' : World)=>Lib.run_eql_slice_nil (P:=Tryz.prog) w' 237 _ none 0 0 0 0 Tryz.underlying237
 simp only [Option.isNone_none] at hq
 go_enter Tryz.func197,Tryz.ntmps197
 go_wp2_with fail
 refine HC.out.mono ?_
 rintro e w1 ⟨rfl,rfl⟩
 go_wp2_with fail
 go_ret
 exact ⟨_,_,rfl,HR.out,(Gr.refl w).alloc _⟩
theorem rcells_exprs {sb st g off cap:Nat} {di:Bool} {fv wv:Value} {ia:Option Addr} {vals:List Sv.Val} {w:World} (hs:At w sb [.bool di, .int .i64 (st:Int), .slice (some ⟨g,off,none⟩) vals.length cap,fv,wv]) (hm:vals.length<=100000) (hg:g<w.heap.size)
  (hE:∀ i,(hi:i<vals.length)->∃ t p,w.cell? ⟨g,off+i,none⟩=some (.iface t p)/\∀ W,RowKit.Below w.heap.size w W->Calls Tryz.prog 194 #[.iface t p, .pointer ia] W fun e W'=>e = .returned (enV vals[i])/\Gr W W') :
  Calls Tryz.prog 197 #[.pointer (some ⟨sb,0,none⟩), .pointer ia] w fun e w'=>∃ gf lb,e = .returned (.func (.func gf) #[] lb)/\RowF w w' (.func (.func gf) #[] lb) vals/\Gr w w':=by
 have b2:=hs.k2
 have hbw:=hs.1
 have HR:Hid (RowF w (boxes w (.slice (some ⟨g,off,none⟩) vals.length cap) (.pointer ia)) (.func (.func 229) #[] #[.pointer (some ⟨w.heap.size,0,none⟩), .pointer (some ⟨w.heap.size+1,0,none⟩)]) vals):=by
  exact row_exprs hm hg hE
 clear hs hE
 have hq:=fun (w' : World)=>Lib.run_eql_slice_nil (P:=Tryz.prog) w' 237 _ (some ⟨g,off,none⟩) vals.length cap 0 0 Tryz.underlying237
 simp only [Option.isNone_some] at hq
 go_enter Tryz.func197,Tryz.ntmps197
 go_wp2_with fail
 refine (rexprs_any _ _ _ _ _).mono ?_
 rintro e w1 ⟨rfl,rfl⟩
 go_wp2_with fail
 go_ret
 exact ⟨_,_,rfl,HR.out,boxes_gr _ _ _⟩
def rdI:Option Value->Int
 | some (.int _ n)=>n
 | _=>0
def rdS:Option Value->ByteArray
 | some (.string s)=>s
 | _=>⟨#[]⟩
def decR (_:Nat) (w:World):Value->List Sv.Val
 | .slice (some ⟨b,o,_⟩) l _=>(List.range l).map fun j=>⟨rdI (w.cell? ⟨b,o+j*3,none⟩),rdI (w.cell? ⟨b,o+j*3+1,none⟩),rdS (w.cell? ⟨b,o+j*3+2,none⟩)⟩
 | _ => []
theorem decR_eq {k:Nat} {w:World} {v:Value} {r:List Sv.Val} (h:Rw k w v r):decR k w v=r:=by
 rcases h with ⟨rfl,rfl⟩ | ⟨b,off,c,rfl,_,hv⟩
 ·rfl
 ·refine List.ext_getElem (by simp [decR]) fun i h1 h2=>?_
  simp only [decR,List.getElem_map,List.getElem_range,hv.k i h2,hv.n i h2,hv.s i h2,rdI,rdS]
theorem decR_map {k:Nat} {w:World} : ∀ {xs:List Value} {rows:List (List Sv.Val)},Al (Rw k w) xs rows->xs.map (decR k w)=rows
 | [], [],_=>rfl
 | _::_,_::_,h=>by rw [List.map_cons,decR_eq h.1,decR_map h.2]
 | [],_::_,h=>h.elim
 | _::_, [],h=>h.elim
theorem prods_map {α β:Type} (f:α->β):∀ l:List (List α),prods (l.map (·.map f))=(prods l).map (·.map f)
 | []=>rfl
 | t::l=>by
  simp only [List.map_cons,prods,prods_map f l,List.flatMap_map,List.map_flatMap,List.map_map]
  congr 1
theorem prods_mem {α:Type} : ∀ {l:List (List α)} {x:List α},x∈prods l->x.length=l.length/\∀ i,(h:i<x.length)->(h' : i<l.length)->x[i]∈l[i]
 | [],x,h=>by simp [prods] at h;subst h;exact ⟨rfl,fun i h=>by simp at h⟩
 | t::l,x,h=>by
  simp only [prods,List.mem_flatMap,List.mem_map] at h
  obtain ⟨r,hr,y,hy,rfl⟩:=h
  obtain ⟨h1,h2⟩:=prods_mem hy
  refine ⟨by simp [h1],fun i hi hi'=>?_⟩
  match i,hi,hi' with
  | 0,_,_=>exact hr
  | i+1,hi,hi'=>exact h2 i (by simpa using hi) (by simpa using hi')
theorem tab_of {k:Nat} {w:World} {t:Sp.Tb} {V:TV} (h:Tb1 k w t V) (hk:k<=w.heap.size):∃ xs,Sl (·<k) w V.rv xs/\Al (Rw k w) xs t.rows:=by
 rcases h.rows with ⟨e,e1,e2⟩ | ⟨rb,ro,e1,hr⟩
 ·refine ⟨[], .inl ⟨?_,rfl⟩,by rw [e];trivial⟩
  have:=h.rl
  rw [e] at this
  simp [TV.rv,e1,e2,this]
 ·obtain ⟨xs,h1,h2⟩:=choose_list (fun i v=>∃ h:i<t.rows.length,w.cell? ⟨rb,ro+i,none⟩=some v/\Rw k w v t.rows[i]) t.rows.length (fun i hi=>by obtain ⟨v,hv1,hv2⟩:=hr.at_ i hi;exact ⟨v,hi,hv1,hv2⟩)
  refine ⟨xs, .inr ⟨rb,ro,V.rc,?_,by have:=hr.lb;omega,hr.lb,fun j hj=>(h2 j hj).2.1⟩,Al.of h1 fun i hi hi'=>(h2 i hi).2.2⟩
  simp [TV.rv,e1,h.rl,h1]
theorem tabs_of {k:Nat} {w:World} {T:List Sp.Tb} (hk:k<=w.heap.size):∀ {vs:List Value} {src:List (Sp.Nm×Sp.Nm)},Al (fun v (x:Sp.Nm×Sp.Nm)=>∃ t V,v=V.rv/\Sp.findTb x.1.1 T=some t/\Tb1 k w t V) vs src->
  ∃ tabs:List (List Value),Al (fun v xs=>Sl (·<k) w v xs) vs tabs/\Al (Al (Rw k w)) tabs (Sp.rowsOf T src)
 | [], [],_=>⟨[],trivial,trivial⟩
 | v::vs,x::src,h=>by
  obtain ⟨⟨t,V,rfl,e,h1⟩,h2⟩:=h
  obtain ⟨xs,h3,h4⟩:=tab_of h1 hk
  obtain ⟨tabs,h5,h6⟩:=tabs_of hk h2
  refine ⟨xs::tabs,⟨h3,h5⟩,?_,h6⟩
  show Al (Rw k w) xs ((Sp.findTb x.1.1 T).getD Sp.noTb).rows
  rw [e]
  exact h4
 | [],_::_,h=>h.elim
 | _::_, [],h=>h.elim
theorem decR_tabs {k:Nat} {w:World} : ∀ {tabs:List (List Value)} {rss:List (List (List Sv.Val))},Al (Al (Rw k w)) tabs rss->tabs.map (·.map (decR k w))=rss
 | [], [],_=>rfl
 | _::_,_::_,h=>by rw [List.map_cons,decR_map h.1,decR_tabs h.2]
 | [],_::_,h=>h.elim
 | _::_, [],h=>h.elim
theorem Took.tkn {k Tb:Nat} {w W:World} {tabs:List (List Value)} {rss:List (List (List Sv.Val))} {x:List Value} (h:Took Tb tabs x W) (ha:Al (Al (Rw k w)) tabs rss) (hb:RowKit.Below w.heap.size w W) (hk:k<=w.heap.size):Tkn W (x.map (decR k w)) (.slice (some ⟨Tb,0,none⟩) tabs.length tabs.length):=by
 obtain ⟨hT,hl,hm⟩:=h
 obtain ⟨_,hmem⟩:=prods_mem hm
 refine ⟨some ⟨Tb,0,none⟩,tabs.length,by rw [List.length_map,hl],fun _=>⟨Tb,0,rfl,hT.lt,fun i hi=>?_⟩⟩
 have hix:i<x.length:=by simpa using hi
 have hit:i<tabs.length:=by omega
 refine ⟨x[i],by rw [Nat.zero_add];exact hT.at_ i hix,?_⟩
 rw [List.getElem_map]
 have har:=ha.get i hit (by rw [<- ha.len];exact hit)
 obtain ⟨r,_,hr⟩:=har.memR (hmem i hix hit)
 rw [decR_eq hr]
 have h5:Rw k W x[i] r:=hr.below (hb.mono hk)
 rcases h5 with h5 | ⟨b,o,c,e,hb',hv⟩
 ·exact .inl h5
 ·exact .inr ⟨b,o,c,e,by have:=hb.size;omega,hv⟩
attribute [local go_sem] Oper.semAt_some
theorem range_tog {n:Nat} {g:Operand} {ps:Array Tmp} {assign body:Code} {Q:Exit->Act->World->Prop} {a:Act} {W:World} {Bt tb tc:Nat} {tabs:List (List Value)}
  (h1:1<=n) (hg:a.eval g = .func (.func 191) #[] #[.pointer (some ⟨Bt,0,none⟩)]) (hps:ps.size=1)
  (C:Nat->Prop) (hC0:C W.heap.size) (hC1:C (W.heap.size+1)) (hC2:C (W.heap.size+2))
  (hm:0<tabs.length) (hb:tabs.length<=1000) (hbb:∀ t∈tabs,t.length<=100000) (hrs:∀ t∈tabs,∀ r∈t,∃ a l c,r = .slice a l c) (hlen:(prods tabs).length<=1000)
  (hBt:Bt<W.heap.size) (hc:W.cell? ⟨Bt,0,none⟩=some (.slice (some ⟨tb,0,none⟩) tabs.length tc)) (ht:Tabs (fun k=>C k/\k≠W.heap.size+2) W tb 0 tabs)
  (I:List (List Value)->World->Prop) (hI:∀ s A B,I s A->A.heap.size<=B.heap.size->B.os=A.os->B.tape=A.tape->B.output=A.output->(∀ j,j<A.heap.size->j≠W.heap.size->j≠W.heap.size+1->j≠W.heap.size+2->B.heap[j]?=A.heap[j]?)->I s B)
  (h0:∀ W1,W1.heap.size=W.heap.size+2->RowKit.Below W.heap.size W W1->I [] W1)
  (a₁:Act)
  (hassign:∀ (l:Nat) (A:World) (K:Act->World->Prop),K a₁ A->
   assign.wpIn (Fence.wide.inRound l) (n - 1 - 1) Tryz.prog (Exit.then K (fun _ _ _=>False)) { tmps:=(ps.zip #[.slice (some ⟨W.heap.size+2,0,none⟩) tabs.length tabs.length]).foldl (fun t (p,v)=>t.setIfInBounds p v) a.tmps,defers := [] } A)
  (hbody:∀ (l:Nat) (pre:List (List Value)) (x:List Value) (A:World),I pre A->Took (W.heap.size+2) tabs x A->pre.length<1000->W.heap.size+2<A.heap.size->body.wpIn (Fence.wide.inRound l) (n - 1 - 1) Tryz.prog (fun e _ A'=>e = .normal/\Fr C A A'/\I (pre ++ [x]) A') a₁ A)
  (hdone:∀ (A:World),I (prods tabs) A->A.heap[W.heap.size]?=some (.deferred (some []))->Q .normal { a with defers:={ target := .collected W.heap.size,args:=#[] }::a.defers } A) :
  (Code.rangeFunc g ps assign body).wpIn Fence.wide n Tryz.prog Q a W:=by
 refine range_all rfl h1 (gf:=191) (lb:=#[.pointer (some ⟨Bt,0,none⟩)]) hg trivial (enters_of Tryz.func191 (by kernel_rfl) rfl)
  (fun _:List Value=>#[.slice (some ⟨W.heap.size+2,0,none⟩) tabs.length tabs.length]) (fun _=>by rw [hps];rfl)
  C hC0 hC1 (fun l=>l.length<=1000) (fun x A=>Took (W.heap.size+2) tabs x A) (fun x A o h=>?hM)
  (fun xs=>xs=prods tabs) (fun A B=>W.heap.size+2<=A.heap.size/\Fr (·≠W.heap.size+2) A B) (fun A B h=>⟨h.2.block _ (by omega) (by omega),h.2.block _ (by omega) (by omega)⟩)
  (fun J hJ hY W1 hs1 hb1 hj0=>?hseq)
  I (fun s A B hi h=>hI s A B hi h.2.size h.2.os h.2.tape h.2.output fun j hj _ _ h2=>h.2.block j hj h2) (fun s A k o hk hi=>?hIp) h0 (fun _=>a₁) (fun l x A K hK=>hassign l A K hK) (fun l pre x A hi hx hl=>?hbd) (fun xs A e hi hd=>?hdn)
 case hM=>
  obtain ⟨hT,h2,h3⟩:=h
  have e:(A.putObj (W.heap.size+1) o).heap[W.heap.size+2]?=A.heap[W.heap.size+2]?:=World.putObj_heap_other (by omega)
  exact ⟨⟨by simpa using hT.lt,fun i hi=>by obtain ⟨v,hv⟩:=hT.some_ i hi;exact ⟨v,(World.cell?_of_block (w:=A) (a:=⟨W.heap.size+2,i,none⟩) e).trans hv⟩,fun i=>(World.frozen?_of_block (w:=A) (a:=⟨W.heap.size+2,i,none⟩) e).trans (hT.un i),fun i hi=>(World.cell?_of_block (w:=A) (a:=⟨W.heap.size+2,i,none⟩) e).trans (hT.at_ i hi)⟩,h2,h3⟩
 case hseq=>
  refine (together1_in W C hC2 (n - 1) Bt tb 0 tc tabs hm hb hbb hrs hBt hc ht (fun l=>l.length<=1000) (fun p q h=>by rw [List.length_append] at h;omega) hlen (fun s A=>J s A/\W.heap.size+2<=A.heap.size) (fun s A B h f=>⟨hJ s A B h.1 ⟨h.2,f⟩,Nat.le_trans h.2 f.size⟩) (fun pre x A h hx hl=>?_) W1 hs1 hb1 ⟨hj0,by omega⟩).mono ?_
  ·obtain ⟨fn,tmps,assign',body',hy,hR⟩:=hY pre x A h.1 hx hl
   exact ⟨fn,tmps,assign',body',hy,hR.mono fun e A' hr=>⟨hr.1,⟨hr.2.1,Nat.le_trans h.2 hr.2.2.size⟩,hr.2.2⟩⟩
  ·rintro e A ⟨hv,xs,rfl,hj⟩
   exact ⟨hv,_,rfl,hj.1⟩
 case hIp=>
  refine hI s A _ hi (by simp) rfl rfl rfl fun j hj h1 h2 _=>?_
  rcases hk with rfl | rfl
  ·exact World.putObj_heap_other h1
  ·exact World.putObj_heap_other h2
 case hbd=>
  refine wpIn_mono (hbody l pre x A hi hx (by simpa [Nat.lt_iff_add_one_le] using hl) hx.1.lt) ?_
  rintro e a' A' h
  exact h
 case hdn=>
  subst e
  exact hdone A hi hd
end Go.Proofs.YtgnncnhkgmhngaaGreatDoor
