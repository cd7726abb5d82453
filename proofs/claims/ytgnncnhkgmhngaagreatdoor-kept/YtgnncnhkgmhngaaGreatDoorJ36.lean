import Derived.Test.YtgnncnhkgmhngaaGreatDoorJ35
import Derived.Lib.SliceRun
set_option maxHeartbeats 4000000
set_option maxRecDepth 100000
namespace Go.Proofs.YtgnncnhkgmhngaaGreatDoor
open Go.RowKit Go.Sort
theorem calls_grV {P:Program} {f:FuncId} {args:Array Value} {w:World} {R:Value→World→Prop} (h:Calls P f args w fun e w'=>∃ v,e = .returned v∧R v w'∧RowKit.Below w.heap.size w w'):Calls P f args w fun e w'=>∃ v,e = .returned v∧R v w'∧Gr w w':=
 (Dr.calls_drawn h (fun _ hx=>by obtain ⟨v,e,_⟩:=hx;cases e)).mono fun _ _ hx=>by obtain ⟨⟨v,e,r,b⟩,d⟩:=hx;exact ⟨v,e,r,Gr.of b d⟩
def Al {α β:Type} (R:α→β→Prop):List α→List β→Prop
 | [], []=>True
 | a::l,b::m=>R a b∧Al R l m
 | _,_=>False
theorem Al.len {α β:Type} {R:α→β→Prop} : ∀ {l:List α} {m:List β},Al R l m→l.length=m.length
 | [], [],_=>rfl
 | _::_,_::_,h=>by simp [h.2.len]
 | [],_::_,h=>h.elim
 | _::_, [],h=>h.elim
theorem Al.app {α β:Type} {R:α→β→Prop} : ∀ {l:List α} {m:List β} {l' : List α} {m' : List β},Al R l m→Al R l' m'→Al R (l++l') (m++m')
 | [], [],_,_,_,h=>h
 | _::_,_::_,_,_,h,h'=>⟨h.1,h.2.app h'⟩
 | [],_::_,_,_,h,_=>h.elim
 | _::_, [],_,_,h,_=>h.elim
theorem Al.get {α β:Type} {R:α→β→Prop} : ∀ {l:List α} {m:List β},Al R l m→∀ i,(h:i<l.length)→(h' : i<m.length)→R l[i] m[i]
 | [], [],_,i,h,_=>by simp at h
 | _::_,_::_,h,0,_,_=>h.1
 | _::_,_::_,h,i+1,h1,h2=>h.2.get i (by simpa using h1) (by simpa using h2)
 | [],_::_,h,_,_,_=>h.elim
 | _::_, [],h,_,_,_=>h.elim
theorem Al.of {α β:Type} {R:α→β→Prop} : ∀ {l:List α} {m:List β},l.length=m.length→(∀ i,(h:i<l.length)→(h' : i<m.length)→R l[i] m[i])→Al R l m
 | [], [],_,_=>trivial
 | a::l,b::m,h,hr=>⟨hr 0 (by simp) (by simp),Al.of (by simpa using h) fun i h1 h2=>hr (i+1) (by simpa using h1) (by simpa using h2)⟩
 | [],_::_,h,_=>by simp at h
 | _::_, [],h,_=>by simp at h
theorem Al.mono {α β:Type} {R R' : α→β→Prop} (hR:∀ a b,R a b→R' a b):∀ {l:List α} {m:List β},Al R l m→Al R' l m
 | [], [],_=>trivial
 | _::_,_::_,h=>⟨hR _ _ h.1,h.2.mono hR⟩
 | [],_::_,h=>h.elim
 | _::_, [],h=>h.elim
theorem Al.flat {α β:Type} {R:α→β→Prop} : ∀ {l:List (List α)} {m:List (List β)},Al (Al R) l m→Al R l.flatten m.flatten
 | [], [],_=>trivial
 | _::_,_::_,h=>by rw [List.flatten_cons,List.flatten_cons];exact h.1.app h.2.flat
 | [],_::_,h=>h.elim
 | _::_, [],h=>h.elim
theorem Al.memR {α β:Type} {R:α→β→Prop} {l:List α} {m:List β} (h:Al R l m) {a:α} (ha:a∈l):∃ b∈m,R a b:=by
 obtain ⟨i,hi,rfl⟩:=List.mem_iff_getElem.1 ha
 have hl:=h.len
 exact ⟨m[i],List.getElem_mem (by omega),h.get i hi (by omega)⟩
def RwC (C:Nat→Prop) (w:World) (v:Value) (vs:List Sv.Val):Prop:=(v = .slice none 0 0∧vs = [])∨∃ b off c,v = .slice (some ⟨b,off,none⟩) vs.length c∧C b∧Hv w b off vs
theorem RwC.bel {C:Nat→Prop} {w w' : World} {v:Value} {r:List Sv.Val} (h:RwC C w v r) (g:RowKit.Below w.heap.size w w'):RwC C w' v r:=by
 rcases h with h | ⟨b,o,c,e,hb,hv⟩
 ·exact .inl h
 ·exact .inr ⟨b,o,c,e,hb,hv.below g g.size hv.lb⟩
theorem RwC.to {C D:Nat→Prop} {w:World} {v:Value} {r:List Sv.Val} (h:RwC C w v r) (hd:∀ b,C b→b<w.heap.size→D b):RwC D w v r:=by
 rcases h with h | ⟨b,o,c,e,hb,hv⟩
 ·exact .inl h
 ·exact .inr ⟨b,o,c,e,hd b hb hv.lb,hv⟩
theorem RwC.rw {C:Nat→Prop} {w:World} {v:Value} {r:List Sv.Val} (h:RwC C w v r):Rw w.heap.size w v r:=h.to fun _ _ hb=>hb
theorem RwC.one {C:Nat→Prop} {w:World} {v:Value} {r:List Sv.Val} (h:RwC C w v r):v.oneCell'=true:=by
 rcases h with ⟨e,_⟩ | ⟨b,o,c,e,_⟩ <;> rw [e] <;> rfl
def Lrs (C:Nat→Prop) (w:World) (v:Value) (rows:List (List Sv.Val)):Prop:=∃ xs,SlV w v xs∧Al (RwC C w) xs rows
theorem Lrs.bel {C:Nat→Prop} {w w' : World} {v:Value} {rows:List (List Sv.Val)} (h:Lrs C w v rows) (g:RowKit.Below w.heap.size w w'):Lrs C w' v rows:=by
 obtain ⟨xs,h1,h2⟩:=h
 exact ⟨xs,h1.below g,h2.mono fun a b hr=>hr.bel g⟩
theorem Lrs.nil (C:Nat→Prop) (w:World):Lrs C w (.slice none 0 0) []:=⟨[], .inl ⟨rfl,rfl⟩,trivial⟩
theorem Lrs.to {C D:Nat→Prop} {w:World} {v:Value} {rows:List (List Sv.Val)} (h:Lrs C w v rows) (hd:∀ b,C b→b<w.heap.size→D b):Lrs D w v rows:=by
 obtain ⟨xs,h1,h2⟩:=h
 exact ⟨xs,h1,h2.mono fun a b hr=>hr.to hd⟩
def RsO (base k:Nat) (w:World) (v:Value) (rows:List (List Sv.Val)):Prop:=
 (rows = []∧v = .slice none 0 0)∨∃ blk c,v = .slice (some ⟨blk,0,none⟩) rows.length c∧base≤blk∧blk<w.heap.size∧RL blk 0 k w rows
theorem RsO.lrs {base k:Nat} {w:World} {v:Value} {rows:List (List Sv.Val)} (h:RsO base k w v rows):Lrs (fun _=>True) w v rows:=by
 rcases h with ⟨rfl,rfl⟩ | ⟨blk,c,rfl,h1,h2,h3⟩
 ·exact Lrs.nil _ w
 ·refine ⟨List.ofFn (n:=rows.length) fun j=>Classical.choose (h3 j.1 j.2), .inr ⟨blk,0,c,by simp,h2,fun i hi=>?_⟩,Al.of (by simp) fun i h4 h5=>?_⟩
  ·simp only [List.getElem_ofFn]
   exact (Classical.choose_spec (h3 i (by simpa using hi))).1
  ·simp only [List.getElem_ofFn]
   exact (Classical.choose_spec (h3 i h5)).2.2.1.rw.elim .inl fun ⟨b,o,c,e,_,hv⟩ => .inr ⟨b,o,c,e,trivial,hv⟩
theorem Lrs.tkn {C:Nat→Prop} {w:World} {v:Value} {rows:List (List Sv.Val)} (h:Lrs C w v rows):Tkn w rows v:=by
 obtain ⟨xs,h1,h2⟩:=h
 have hl:=h2.len
 rcases h1 with ⟨rfl,rfl⟩ | ⟨blk,o,c,rfl,hb,hc⟩
 ·refine ⟨none,0,by rw [← hl];rfl,fun hne=>absurd (List.eq_nil_of_length_eq_zero (by rw [← hl];rfl)) hne⟩
 ·exact ⟨_,c,by rw [hl],fun _=>⟨blk,o,rfl,hb,fun i hi=>⟨xs[i]'(by omega),hc i (by omega),(h2.get i (by omega) hi).rw⟩⟩⟩
theorem choose_list {β:Type} (P:Nat→β→Prop):∀ n,(∀ i,i<n→∃ b,P i b)→∃ l:List β,l.length=n∧∀ i,(h:i<l.length)→P i l[i]
 | 0,_=>⟨[],rfl,fun i h=>by simp at h⟩
 | n+1,h=>by
  obtain ⟨l,h1,h2⟩:=choose_list P n fun i hi=>h i (by omega)
  obtain ⟨b,hb⟩:=h n (by omega)
  refine ⟨l ++ [b],by simp [h1],fun i hi=>?_⟩
  by_cases e:i<l.length
  ·rw [List.getElem_append_left e];exact h2 i e
  ·have:i=l.length:=by simp at hi;omega
   subst this
   rw [List.getElem_append_right (Nat.le_refl _)]
   simp only [Nat.sub_self,List.getElem_cons_zero]
   rw [h1];exact hb
theorem concat_rows {C:Nat→Prop} {b off n c:Nat} {vs:List Value} {rss:List (List (List Sv.Val))} {w:World} (hz:n=vs.length) (hz2:rss.length=vs.length) (hb:b<w.heap.size) (hc:∀ j,(h:j<vs.length)→w.cell? ⟨b,off+j,none⟩=some vs[j])
  (hs:∀ j,(h:j<vs.length)→Lrs C w vs[j] (rss[j]'(by omega))) (hbig:rss.flatten.length≤100000) (hn:n≤1000) :
  Calls Tryz.prog 190 #[.slice (some ⟨b,off,none⟩) n c] w fun e w'=>∃ v,e = .returned v∧(∃ xs,w'.ownsRow w.heap.size 41 1 v xs.length xs∧(xs = []→v = .slice none 0 0)∧Al (RwC C w') xs rss.flatten)∧RowKit.Below w.heap.size w w':=by
 obtain ⟨ls,hl1,hl2⟩:=choose_list (fun j (xs:List Value)=>∃ h:j<vs.length,SlV w vs[j] xs∧Al (RwC C w) xs (rss[j]'(by omega))) vs.length (fun j hj=>by obtain ⟨xs,h1,h2⟩:=hs j hj;exact ⟨xs,hj,h1,h2⟩)
 have hal:Al (Al (RwC C w)) ls rss:=Al.of (by omega) fun i h1 h2=>by obtain ⟨_,_,h⟩:=hl2 i h1;exact h
 have hfl:=hal.flat
 have hlen:=hfl.len
 refine (concatR_any b off n c vs ls w hz hl1 hb hc (fun j hj=>?_) (fun l hl u hu=>?_) (by omega) hn).mono ?_
 ·rw [List.getElem?_eq_getElem (by omega),Option.getD_some]
  exact (hl2 j (by omega)).2.1
 ·have:u∈ls.flatten:=List.mem_flatten.2 ⟨l,hl,hu⟩
  obtain ⟨r,_,hr⟩:=hfl.memR this
  exact hr.one
 ·rintro e w' ⟨v,rfl,o,hnil,hbel⟩
  exact ⟨v,rfl,⟨ls.flatten,o,hnil,hfl.mono fun a b hr=>hr.bel hbel⟩,hbel⟩
theorem RL.owned {base k:Nat} {w:World} {v:Value} {xs:List Value} {rows:List (List Sv.Val)} (o:w.ownsRow base 41 1 v xs.length xs) (hne:xs ≠ []) (ha:Al (RwC (·<base) w) xs rows) (hk:∀ r∈rows,r.length=k):∃ blk c,v = .slice (some ⟨blk,0,none⟩) xs.length c∧base≤blk∧blk<w.heap.size∧RL blk 0 k w rows:=by
 have hb:=ownsV_block o
 have ho:=o
 obtain ⟨hl,h | ⟨g,cap,cur,hv,h0,hc,r1,r2,r3,r4⟩⟩:=o
 ·exact absurd (List.eq_nil_of_length_eq_zero h.2) hne
 ·subst hv
  have hg:=(hb g rfl).2
  have hln:=ha.len
  refine ⟨g,cap,rfl,h0,hg,fun j hj=>?_⟩
  have hjx:j<xs.length:=by omega
  have hcell:w.cell? ⟨g,0+j,none⟩=some xs[j]:=by rw [Nat.zero_add];exact owns_cells ho j xs[j] (List.getElem?_eq_getElem hjx)
  refine ⟨xs[j],hcell,by simp [World.frozen?,hc],?_,hk _ (List.getElem_mem hj)⟩
  rcases ha.get j hjx hj with h | ⟨b,o,c,e,hb',hv⟩
  ·exact .inl h
  ·exact .inr ⟨b,o,c,e,by omega,hv⟩
theorem sorted_any {C:Nat→Prop} {b off n c k:Nat} {vs:List Value} {rss:List (List (List Sv.Val))} {w:World} (hz:n=vs.length) (hz2:rss.length=vs.length) (hb:b<w.heap.size) (hc:∀ j,(h:j<vs.length)→w.cell? ⟨b,off+j,none⟩=some vs[j])
  (hs:∀ j,(h:j<vs.length)→Lrs C w vs[j] (rss[j]'(by omega))) (hbig:rss.flatten.length≤100000) (hn:n≤1000) (hk:k≤100000) (hw:∀ r∈rss.flatten,r.length=k) :
  Calls Tryz.prog 198 #[.slice (some ⟨b,off,none⟩) n c] w fun e w'=>∃ v,e = .returned v∧RsO w.heap.size k w' v (sortR rss.flatten)∧Gr w w':=by
 apply calls_grV
 have HC:=hid (concat_rows (C:=(·<w.heap.size)) (c:=c) hz hz2 hb hc (fun j h=>(hs j h).to fun _ _ hb=>hb) hbig hn)
 clear hz hz2 hb hc hs hn
 generalize rss.flatten=rows at *
 have HW:=hid hw
 clear hw
 go_enter Tryz.func198,Tryz.ntmps198
 go_wp2_with fail
 refine HC.out.mono ?_
 rintro e w1 ⟨v,rfl,⟨xs,o,hnil,ha⟩,hbel⟩
 clear HC
 have hln:=ha.len
 by_cases hx:xs = []
 ·obtain rfl:=hnil hx
  have HR:Hid (rows = []):=List.eq_nil_of_length_eq_zero (by rw [← hln,hx];rfl)
  clear o hnil ha hln hx
  have HB:=hid hbel
  clear hbel
  go_wp2_with fail
  refine (sort_nil w1).mono ?_
  rintro e w2 ⟨rfl,g2⟩
  have HB2:=hid (HB.out.trans (g2.below.mono HB.out.size))
  clear g2
  go_wp2_with fail
  go_ret
  exact ⟨_,rfl, .inl ⟨by rw [HR.out];simp [sortR],rfl⟩,HB2.out⟩
 ·obtain ⟨blk,cc,rfl,h1,h2,hRL⟩:=RL.owned o hx ha HW.out
  have hpos:0<xs.length:=List.length_pos_iff.2 hx
  have HS:=hid (sort_any blk 0 xs.length cc k w1 rows hk hln hpos (by omega) h2 hRL)
  have HL:=hid hln
  have HB:=hid hbel
  clear o hnil ha hRL hbel hx hln
  go_wp2_with fail
  refine HS.out.mono ?_
  rintro e w2 ⟨rfl,kp,rl⟩
  have HB2:Hid (RowKit.Below w.heap.size w w2):=⟨kp.os.trans HB.out.os,kp.tape.trans HB.out.tape,kp.output.trans HB.out.output,Nat.le_trans HB.out.size kp.size,fun q hq=>(kp.block q (Nat.lt_of_lt_of_le hq HB.out.size) (by omega)).trans (HB.out.block q hq)⟩
  have HR:=hid rl
  have hz:=kp.size
  clear kp rl
  go_wp2_with fail
  go_ret
  refine ⟨_,rfl, .inr ⟨blk,cc,by rw [HL.out,(sortR_perm rows).length_eq];rfl,h1,by omega,HR.out⟩,HB2.out⟩
open Go.RowKit Go.Shelf
attribute [local go_sem] Oper.semAt_some
theorem together_any (a:Option Addr) (l c:Nat) (w:World) :
  Calls Tryz.prog 149 #[.slice a l c] w fun e w'=>e = .returned (.func (.func 191) #[] #[.pointer (some ⟨w.heap.size,0,none⟩)])∧w'=w.alloc (.cells #[.slice a l c] 326):=by
 go_enter Tryz.func149,Tryz.ntmps149
 go_wp2
 go_ret
 exact ⟨rfl,rfl⟩
theorem infoRowV:(Tryz.prog.info? 41).map (fun i=>(i.zero,i.size,i.bytes))=some (some (.slice none 0 0),1,24):=by kernel_rfl
theorem make_rows (m:Nat) (hm:m≤1000) (w:World) :
  (Instr.makeSlice 32 (.int .i64 (m:Int)) (.int .i64 (m:Int))).run Tryz.prog w = .ok (.slice (some ⟨w.heap.size,0,none⟩) m m) (w.alloc (.cells (madeCells #[.slice none 0 0] m) 41)):=by
 obtain ⟨i0,hi,hz0,hz1,hz2⟩:=info_parts infoRowV
 have h:=run_make (P:=Tryz.prog) w 32 41 i0 (.slice none 0 0) Tryz.underlying32 hi hz0 .i64 .i64 (m:Int) (m:Int) (by omega) (Int.le_refl _) (by rw [hz2];omega) (by omega)
 rw [hz1,Nat.mul_one,Int.toNat_natCast] at h
 exact h
theorem tk_new (W:World) (m:Nat):Tk (W.alloc (.cells (madeCells #[.slice none 0 0] m) 41)) W.heap.size m []:=by
 have hsz:=size_madeCells #[.slice none 0 0] m
 generalize madeCells #[.slice none 0 0] m=cs at hsz
 have hb:=World.alloc_heap_new W (.cells cs 41)
 refine ⟨by simp,fun i hi=>⟨cs[i]'(by omega),?_⟩,fun i=>?_,fun i hi=>by simp at hi⟩
 ·simp only [World.cell?,hb]
  simp [show i<cs.size by omega]
 ·simp only [World.frozen?,hb]
  simp
def Took (T:Nat) (tabs:List (List Value)) (x:List Value) (W:World):Prop:=Tk W T tabs.length x∧x.length=tabs.length∧x∈prods tabs
theorem fr_alloc (C:Nat→Prop) (A:World) (o:Obj):Fr C A (A.alloc o):=Fr.of_gr ((Gr.refl A).alloc o)
theorem Tabs.below {C:Nat→Prop} {n₀:Nat} {A B:World} {tb to_:Nat} {tabs:List (List Value)} (h:Tabs C A tb to_ tabs) (hs:n₀=A.heap.size) (g:RowKit.Below n₀ A B):Tabs C B tb to_ tabs:=
 h.fr ⟨g.os,g.tape,g.output,g.size,fun k hk _=>g.block k (by omega)⟩
theorem together1_in (w:World) (C:Nat→Prop) (hCT:C (w.heap.size+2)) (n Bs tb to_ tc:Nat) (tabs:List (List Value)) (_hm:0<tabs.length) (hb:tabs.length≤1000) (hbb:∀ t∈tabs,t.length≤100000) (hrs:∀ t∈tabs,∀ r∈t,∃ a l c,r = .slice a l c)
  (hBs:Bs<w.heap.size) (hc:w.cell? ⟨Bs,0,none⟩=some (.slice (some ⟨tb,to_,none⟩) tabs.length tc)) (ht:Tabs (fun k=>C k∧k≠w.heap.size+2) w tb to_ tabs)
  (B:List (List Value)→Prop) (hB:∀ p q,B (p++q)→B p) (hBt:B (prods tabs))
  (J:List (List Value)→World→Prop) (hJ:∀ s A B,J s A→Fr (·≠w.heap.size+2) A B→J s B)
  (hY:∀ pre x W,J pre W→Took (w.heap.size+2) tabs x W→B (pre ++ [x])→YieldAt Fence.wide (n - 1) Tryz.prog (w.heap.size+1) #[.slice (some ⟨w.heap.size+2,0,none⟩) tabs.length tabs.length] W fun e W'=>e = .returned (.bool true)∧J (pre ++ [x]) W'∧Fr C W W')
  (W1:World) (hs1:W1.heap.size=w.heap.size+2) (hb1:RowKit.Below w.heap.size w W1) (h0:J [] W1) :
  CallsIn Fence.wide n Tryz.prog 191 (#[.func (.yield (w.heap.size+1)) #[] #[]]++#[.pointer (some ⟨Bs,0,none⟩)]) W1 fun e W'=>(∃ v,e = .returned v)∧∃ xs,xs=prods tabs∧J xs W':=by
 have c0:W1.cell? ⟨Bs,0,none⟩=some (.slice (some ⟨tb,to_,none⟩) tabs.length tc):=(hb1.cell (p:=⟨Bs,0,none⟩) hBs).trans hc
 have HT:Hid (Tabs (fun k=>C k∧k≠w.heap.size+2) W1 tb to_ tabs):=ht.below rfl hb1
 clear hc ht hb1
 refine callsIn_of_wp Tryz.func191 rfl trivial ?_ rfl
 simp only [Tryz.ntmps191,List.size_toArray,List.length_cons,List.length_nil,Nat.reduceAdd,Nat.reduceSub,Array.replicate_succ,Array.replicate_zero,List.push_toArray,List.append_toArray,List.nil_append,List.cons_append]
 have hmk:=make_rows tabs.length hb
 have HK:=tk_new W1 tabs.length
 rw [hs1] at HK
 have HX:=takeFrom_in C (w.heap.size+1) (w.heap.size+2) tb to_ tc tabs hCT hb hbb hrs J B hB hJ (fun m pre x W h1 h2 h3 h4 h5=>yield_any m (hY pre x W h1 ⟨h2,h3,h4⟩ h5)) tabs [] (n - 1) 0 [] [] (W1.alloc (.cells (madeCells #[.slice none 0 0] tabs.length) 41)) (by simp) rfl rfl (fun y hy=>by simpa using hy) (by simpa using hBt) (hJ _ _ _ h0 (fr_alloc _ _ _)) HK (HT.out.fr (fr_alloc _ _ _))
 clear HK
 have c1:(W1.alloc (.cells (madeCells #[.slice none 0 0] tabs.length) 41)).cell? ⟨Bs,0,none⟩=some (.slice (some ⟨tb,to_,none⟩) tabs.length tc):=((Gr.refl W1).alloc _ |>.cell (p:=⟨Bs,0,none⟩) (by show Bs<_;omega)).trans c0
 gi_wp2
 refine ⟨trivial,fun h=>(by cases h),?_⟩
 refine HX.mono ?_
 rintro e W3 ⟨rfl,hJ3,_,_⟩
 gi_wp2
 go_end0
 exact ⟨⟨_,rfl⟩,_,rfl,by simpa using hJ3⟩
end Go.Proofs.YtgnncnhkgmhngaaGreatDoor
namespace Go.Proofs.YtgnncnhkgmhngaaGreatDoor
open Go.RowKit Go.Sort
def enTs (V:List TV):List Value:=V.flatMap fun t => [.string t.name,t.cv,t.rv]
theorem enTs_len (V:List TV):(enTs V).length=V.length*3:=by
 induction V with
 | nil=>rfl
 | cons t V ih=>simp only [enTs,List.flatMap_cons,List.length_append,List.length_cons,List.length_nil] at ih ⊢;omega
theorem enTs_app (V U:List TV):enTs (V++U)=enTs V++enTs U:=by simp [enTs]
theorem enTs_at:∀ (l:List TV) (i d:Nat) (h:i<l.length) (_:d<3),(enTs l)[i*3+d]?=([.string l[i].name,l[i].cv,l[i].rv]:List Value)[d]?
 | [],i,d,h,_=>by simp at h
 | p::l,0,d,_,hd=>by
  simp only [enTs,List.flatMap_cons,List.getElem_cons_zero,Nat.zero_mul,Nat.zero_add]
  rw [List.getElem?_append_left (by simp;omega)]
 | p::l,i+1,d,h,hd=>by
  have ih:=enTs_at l i d (by simpa using h) hd
  simp only [enTs,List.flatMap_cons,List.getElem_cons_succ] at ih ⊢
  rw [List.getElem?_append_right (by simp;omega),← ih]
  congr 1
  simp;omega
theorem enTs_one (V:List TV):∀ u∈enTs V,u.oneCell'=true:=fun u hu=>by
 simp only [enTs,List.mem_flatMap] at hu
 obtain ⟨t,_,h⟩:=hu
 simp only [List.mem_cons,List.not_mem_nil,or_false] at h
 rcases h with rfl | rfl | rfl <;> rfl
theorem Lt.cells {w:World} {b off:Nat} {V:List TV} (h:Lt w b off V):∀ j u,(enTs V)[j]?=some u→w.cell? ⟨b,off+j,none⟩=some u:=by
 intro j u hj
 have hlt:j<V.length*3:=by rw [← enTs_len];exact (List.getElem?_eq_some_iff.1 hj).1
 have hi:j / 3<V.length:=by omega
 have hd:j % 3<3:=by omega
 have e:=enTs_at V (j / 3) (j % 3) hi hd
 rw [show j / 3*3+j % 3=j by omega,hj] at e
 have h3:j % 3=0∨j % 3=1∨j % 3=2:=by omega
 rcases h3 with h0 | h0 | h0
 ·rw [h0] at e
  simp at e
  rw [e,show off+j=off+j / 3*3 by omega]
  exact h.n _ hi
 ·rw [h0] at e
  simp at e
  rw [e,show off+j=off+j / 3*3+1 by omega]
  exact h.c _ hi
 ·rw [h0] at e
  simp at e
  rw [e,show off+j=off+j / 3*3+2 by omega]
  exact h.r _ hi
theorem Lt.of {w:World} {b off:Nat} {V:List TV} (hb:b<w.heap.size) (h:∀ j u,(enTs V)[j]?=some u→w.cell? ⟨b,off+j,none⟩=some u):Lt w b off V:=by
 refine ⟨hb,fun j hj=>?_,fun j hj=>?_,fun j hj=>?_⟩
 ·have:=h (j*3+0) (.string V[j].name) (by rw [enTs_at V j 0 hj (by omega)];rfl)
  simpa using this
 ·have:=h (j*3+1) V[j].cv (by rw [enTs_at V j 1 hj (by omega)];rfl)
  rw [Nat.add_assoc];exact this
 ·have:=h (j*3+2) V[j].rv (by rw [enTs_at V j 2 hj (by omega)];rfl)
  rw [Nat.add_assoc];exact this
def OwT (base:Nat) (w:World) (v:Value) (V:List TV):Prop:=w.ownsRow base 187 3 v V.length (enTs V)
theorem OwT.nil (base:Nat) (w:World):OwT base w (.slice none 0 0) []:=World.ownsRow_nil _ _ _ _
theorem infoTab:(Tryz.prog.info? 187).map (fun i=>(i.zero,i.size,i.bytes))=some (some (.agg #[.string ⟨#[]⟩, .slice none 0 0, .slice none 0 0]),3,64):=by kernel_rfl
theorem wout1_any (x:ByteArray) (p:Nat) (t:TV) (w:World) (hp:p<w.heap.size) (hx:w.cell? ⟨p,0,none⟩=some (.string x)) :
  Calls Tryz.prog 145 #[enT t, .pointer (some ⟨p,0,none⟩)] w fun e w'=>e = .returned (.bool (t.name.toList == x.toList))∧Gr w w':=by
 obtain ⟨tn,ca,cl,cc,ra,rl,rc⟩:=t
 have hx1:(w.alloc (.cells #[.string tn, .slice ca cl cc, .slice ra rl rc] 187)).cell? ⟨p,0,none⟩=some (.string x):=(((Gr.refl w).alloc _).cell (p:=⟨p,0,none⟩) hp).trans hx
 go_enter Tryz.func145,Tryz.ntmps145
 go_wp2
 go_ret
 exact ⟨rfl,(Gr.refl w).alloc _⟩
def tabFrom (x:Sp.Bs):Nat→List TV→Int
 | _, []=>-1
 | k,t::l=>if t.name.toList == x then (k:Int) else tabFrom x (k+1) l
theorem tab_skip (x:Sp.Bs) (cs:List TV) (k:Nat) (h:k<cs.length) (e:(cs[k].name.toList == x)=false):tabFrom x k (cs.drop k)=tabFrom x (k+1) (cs.drop (k+1)):=by
 rw [List.drop_eq_getElem_cons h,tabFrom,if_neg (by rw [e];decide)]
theorem tab_hit (x:Sp.Bs) (cs:List TV) (k:Nat) (h:k<cs.length) (e:(cs[k].name.toList == x)=true):tabFrom x k (cs.drop k)=(k:Int):=by
 rw [List.drop_eq_getElem_cons h,tabFrom,if_pos e]
theorem tabIndex_any (b off n c p:Nat) (cs:List TV) (x:ByteArray) (w:World) (hz:n=cs.length) (hbig:n≤100000) (hl:Lt w b off cs) (hp:p<w.heap.size) (hx:w.cell? ⟨p,0,none⟩=some (.string x)) :
  Calls Tryz.prog 187 #[.slice (some ⟨b,off,none⟩) n c, .func (.func 145) #[] #[.pointer (some ⟨p,0,none⟩)]] w fun e w'=>e = .returned (.int .i64 (tabFrom x.toList 0 cs))∧Gr w w':=by
 have HV:=hid hl
 have HZ:=hid hz
 have HP:=hid hx
 clear hl hz hx
 have HD:Hid (tabFrom x.toList 0 cs=tabFrom x.toList 0 (cs.drop 0)):=rfl
 generalize tabFrom x.toList 0 cs=dv at *
 go_enter Tryz.func187,Tryz.ntmps187
 go_wp2
 go_loopw [8] (fun i wr=>∃ k:Nat,k≤n∧i = .int .i64 k∧Hid (Gr w wr)∧Hid (dv=tabFrom x.toList k (cs.drop k))) (fun i _=>n - (intOf i).toNat)
 case atStart=>exact ⟨0,Nat.zero_le _,rfl,Gr.refl _,HD⟩
 case round=>
  obtain ⟨k,hk,rfl,HG,HR⟩:=hrel
  by_cases hlt:k<n
  ·have hkz:k<cs.length:=by have:=HZ.out;omega
   have HVr:=HV.out.gr HG.out
   have c0:=HVr.n k hkz
   have c1:=HVr.c k hkz
   have c2:=HVr.r k hkz
   clear HVr
   have HS:Hid ((cs[k].name.toList == x.toList)=false→dv=tabFrom x.toList (k+1) (cs.drop (k+1))):=fun h=>HR.out.trans (tab_skip _ cs k hkz h)
   have HT:Hid ((cs[k].name.toList == x.toList)=true→dv=(k:Int)):=fun h=>HR.out.trans (tab_hit _ cs k hkz h)
   have HC:Hid (Calls Tryz.prog 145 #[enT cs[k], .pointer (some ⟨p,0,none⟩)] wr fun e w'=>e = .returned (.bool (cs[k].name.toList == x.toList))∧Gr wr w'):=wout1_any x p _ wr (Nat.lt_of_lt_of_le hp HG.out.size) ((HG.out.cell (p:=⟨p,0,none⟩) hp).trans HP.out)
   generalize (cs[k].name.toList == x.toList)=bb at HC HS HT
   obtain ⟨tn,ca,cl,cc,ra,rl,rc⟩:=cs[k]
   clear HR
   go_wp2_with fail
   refine Calls.mono HC.out ?_
   rintro e w2 ⟨rfl,g2⟩
   have HG':=hid (HG.out.trans g2)
   clear g2
   cases bb
   ·go_wp2_with fail
    go_roundw
    case rel=>exact ⟨k+1,by omega,by go_num,HG',HS.out (by trivial)⟩
    case measure=>simp [intOf];omega
   ·go_wp2_with fail
    go_ret
    exact ⟨ret_int (HT.out (by trivial)).symm,HG'.out⟩
  ·have HF:Hid (dv=-1):=by show _=_;rw [HR.out,List.drop_of_length_le (by have:=HZ.out;omega)];rfl
   go_wp2_with fail
   go_ret
   exact ⟨ret_int HF.out.symm,HG.out⟩
theorem tclone_nil (w:World):Calls Tryz.prog 144 #[.slice none 0 0] w fun e w'=>e = .returned (.slice none 0 0)∧w'=w:=by
 have hq:=fun (w' : World)=>Lib.run_eql_slice_nil (P:=Tryz.prog) w' 113 187 none 0 0 0 0 Tryz.underlying113
 simp only [Option.isNone_none] at hq
 go_enter Tryz.func144,Tryz.ntmps144
 go_wp2_with fail
 go_ret
 exact ⟨rfl,rfl⟩
theorem tclone_any {b off c:Nat} {V:List TV} {w:World} (h:Lt w b off V) (hbig:V.length≤1000) :
  Calls Tryz.prog 144 #[.slice (some ⟨b,off,none⟩) V.length c] w fun e w'=>∃ v,e = .returned v∧(OwT w.heap.size w' v V∧v ≠ .slice none 0 0)∧RowKit.Below w.heap.size w w':=by
 obtain ⟨i0,ji,jz0,jz1,jz2⟩:=info_parts infoTab
 have HL:=hid h
 have hbw:=h.lb
 have HN:=hid (enTs_len V)
 have H1:=hid (enTs_one V)
 obtain ⟨xs,hxs⟩:∃ xs,xs=enTs V:=⟨_,rfl⟩
 have HX:=hid hxs
 obtain ⟨n,hn⟩:∃ n,n=V.length:=⟨_,rfl⟩
 have HNn:=hid hn
 rw [← hn] at hbig ⊢
 clear h hxs hn
 have hq:=fun (w' : World)=>Lib.run_eql_slice_nil (P:=Tryz.prog) w' 113 187 (some ⟨b,off,none⟩) n c 0 0 Tryz.underlying113
 simp only [Option.isNone_some] at hq
 have GA:=hid ((Gr.refl w).alloc (.cells #[] 187))
 have HO:Hid ((w.alloc (.cells #[] 187)).ownsRow w.heap.size 187 3 (.slice (some ⟨w.heap.size,0,none⟩) 0 0) 0 []):=⟨rfl, .inr ⟨w.heap.size,0,_,rfl,Nat.le_refl _,heap_alloc_new w _,Nat.zero_le _,Nat.zero_le _,rfl,rfl⟩⟩
 have HC:Hid (∀ j u,xs[j]?=some u→(w.alloc (.cells #[] 187)).cell? ((⟨b,off,none⟩:Addr).add j)=some u):=fun j u hj=>by
  rw [Addr.add_lit]
  rw [HX.out] at hj
  exact (GA.out.cell (p:=⟨b,off+j,none⟩) hbw).trans (HL.out.cells j u hj)
 have H2:Hid (∀ u∈xs,u.oneCell'=true):=fun u hu=>H1.out u (by rw [← HX.out];exact hu)
 have H3:Hid (xs.length=n*3):=by show _=_;rw [HX.out,HNn.out];exact HN.out
 have H4:Hid (0+n≤maxLen):=by show _≤_;unfold maxLen;omega
 have H5:Hid ((0+n)*64≤140737488355328):=by show _≤_;omega
 have H6:Hid (w.heap.size≤(w.alloc (.cells #[] 187)).heap.size):=GA.out.size
 go_enter Tryz.func144,Tryz.ntmps144
 go_wp2_with (at_builtin;go_must (refine wpList_append_own _ rfl (.tmp 5) (.tmp 6) 113 rfl w.heap.size 187 i0 (.agg #[.string ⟨#[]⟩, .slice none 0 0, .slice none 0 0]) 3 64 Tryz.underlying113 ji jz0 jz1 jz2 rfl (by decide) _ 0 _ rfl HO.out ⟨b,off,none⟩ n c xs rfl H3.out HC.out H2.out H4.out H5.out H6.out ?_))
 intro v' w3 hown hgrow hnil
 have HW:Hid (OwT w.heap.size w3 v' V):=by
  show World.ownsRow _ _ _ _ _ _ _
  rw [← HNn.out,← HX.out]
  simpa using hown
 have HB:Hid (RowKit.Below w.heap.size w w3):=⟨hgrow.os,hgrow.tape,hgrow.output,Nat.le_trans GA.out.size hgrow.size,fun k hk=>(hgrow.block k (Nat.lt_of_lt_of_le hk GA.out.size) (by intro e;simp [Value.ownBlock] at e;omega)).trans (GA.out.below.block k hk)⟩
 have HNl:=hid hnil
 clear hown hgrow hnil
 obtain ⟨va,vn,vc,rfl⟩:∃ a n c,v' = .slice a n c:=by
  obtain ⟨_,h | ⟨g',cap,cur,hv,_⟩⟩:=HW.out
  ·exact ⟨_,_,_,h.1⟩
  ·exact ⟨_,_,_,hv⟩
 go_wp2_with fail
 go_ret
 exact ⟨_,rfl,⟨HW.out,HNl.out⟩,HB.out⟩
end Go.Proofs.YtgnncnhkgmhngaaGreatDoor
