import Derived.Test.YtgnncnhkgmhngaaGreatDoorJ17
import Derived.Lib.SliceRun
set_option maxHeartbeats 4000000
set_option maxRecDepth 100000
namespace Go.Proofs.YtgnncnhkgmhngaaGreatDoor
open Go.RowKit Go.Sort
def enTs (V:List TV):List Value:=V.flatMap fun t => [.string t.name,t.cv,t.rv]
theorem enTs_len (V:List TV):(enTs V).length=V.length*3:=by
 induction V with
 | nil=>rfl
 | cons t V ih=>simp only [enTs,List.flatMap_cons,List.length_append,List.length_cons,List.length_nil] at ih ⊢;omega
theorem enTs_app (V U:List TV):enTs (V++U)=enTs V++enTs U:=by simp [enTs]
theorem enTs_at:∀ (l:List TV) (i d:Nat) (h:i<l.length) (_:d<3),(enTs l)[i*3+d]?=([.string l[i].name,l[i].cv,l[i].rv]:List Value)[d]?
 | [],i,d,h,_=>by simp at h
 | p::l,0,d,_,hd=>by
  simp only [enTs,List.flatMap_cons,List.getElem_cons_zero,Nat.zero_mul,Nat.zero_add]
  rw [List.getElem?_append_left (by simp;omega)]
 | p::l,i+1,d,h,hd=>by
  have ih:=enTs_at l i d (by simpa using h) hd
  simp only [enTs,List.flatMap_cons,List.getElem_cons_succ] at ih ⊢
  rw [List.getElem?_append_right (by simp;omega),<- ih]
  congr 1
  simp;omega
theorem enTs_one (V:List TV):∀ u∈enTs V,u.oneCell'=true:=fun u hu=>by
 simp only [enTs,List.mem_flatMap] at hu
 obtain ⟨t,_,h⟩:=hu
 simp only [List.mem_cons,List.not_mem_nil,or_false] at h
 rcases h with rfl | rfl | rfl <;> rfl
theorem Lt.cells {w:World} {b off:Nat} {V:List TV} (h:Lt w b off V):∀ j u,(enTs V)[j]?=some u->w.cell? ⟨b,off+j,none⟩=some u:=by
 intro j u hj
 have hlt:j<V.length*3:=by rw [<- enTs_len];exact (List.getElem?_eq_some_iff.1 hj).1
 have hi:j / 3<V.length:=by omega
 have hd:j % 3<3:=by omega
 have e:=enTs_at V (j / 3) (j % 3) hi hd
 rw [show j / 3*3+j % 3=j by omega,hj] at e
 have h3:j % 3=0\/j % 3=1\/j % 3=2:=by omega
 rcases h3 with h0 | h0 | h0
 ·rw [h0] at e
  simp at e
  rw [e,show off+j=off+j / 3*3 by omega]
  exact h.n _ hi
 ·rw [h0] at e
  simp at e
  rw [e,show off+j=off+j / 3*3+1 by omega]
  exact h.c _ hi
 ·rw [h0] at e
  simp at e
  rw [e,show off+j=off+j / 3*3+2 by omega]
  exact h.r _ hi
theorem Lt.of {w:World} {b off:Nat} {V:List TV} (hb:b<w.heap.size) (h:∀ j u,(enTs V)[j]?=some u->w.cell? ⟨b,off+j,none⟩=some u):Lt w b off V:=by
 refine ⟨hb,fun j hj=>?_,fun j hj=>?_,fun j hj=>?_⟩
 ·have:=h (j*3+0) (.string V[j].name) (by rw [enTs_at V j 0 hj (by omega)];rfl)
  simpa using this
 ·have:=h (j*3+1) V[j].cv (by rw [enTs_at V j 1 hj (by omega)];rfl)
  rw [Nat.add_assoc];exact this
 ·have:=h (j*3+2) V[j].rv (by rw [enTs_at V j 2 hj (by omega)];rfl)
  rw [Nat.add_assoc];exact this
def OwT (base:Nat) (w:World) (v:Value) (V:List TV):Prop:=w.ownsRow base 187 3 v V.length (enTs V)
theorem OwT.nil (base:Nat) (w:World):OwT base w (.slice none 0 0) []:=World.ownsRow_nil _ _ _ _
theorem infoTab:(Tryz.prog.info? 187).map (fun i=>(i.zero,i.size,i.bytes))=some (some (.agg #[.string ⟨#[]⟩, .slice none 0 0, .slice none 0 0]),3,64):=by kernel_rfl
theorem wout1_any (x:ByteArray) (p:Nat) (t:TV) (w:World) (hp:p<w.heap.size) (hx:w.cell? ⟨p,0,none⟩=some (.string x)) :
  Calls Tryz.prog 145 #[enT t, .pointer (some ⟨p,0,none⟩)] w fun e w'=>e = .returned (.bool (t.name.toList == x.toList))/\Gr w w':=by
 obtain ⟨tn,ca,cl,cc,ra,rl,rc⟩:=t
 have hx1:(w.alloc (.cells #[.string tn, .slice ca cl cc, .slice ra rl rc] 187)).cell? ⟨p,0,none⟩=some (.string x):=(((Gr.refl w).alloc _).cell (p:=⟨p,0,none⟩) hp).trans hx
 go_enter Tryz.func145,Tryz.ntmps145
 go_wp2
 go_ret
 exact ⟨rfl,(Gr.refl w).alloc _⟩
def tabFrom (x:Sp.Bs):Nat->List TV->Int
 | _, []=>-1
 | k,t::l=>if t.name.toList == x then (k:Int) else tabFrom x (k+1) l
theorem tab_skip (x:Sp.Bs) (cs:List TV) (k:Nat) (h:k<cs.length) (e:(cs[k].name.toList == x)=false):tabFrom x k (cs.drop k)=tabFrom x (k+1) (cs.drop (k+1)):=by
 rw [List.drop_eq_getElem_cons h,tabFrom,if_neg (by rw [e];decide)]
theorem tab_hit (x:Sp.Bs) (cs:List TV) (k:Nat) (h:k<cs.length) (e:(cs[k].name.toList == x)=true):tabFrom x k (cs.drop k)=(k:Int):=by
 rw [List.drop_eq_getElem_cons h,tabFrom,if_pos e]
theorem tabIndex_any (b off n c p:Nat) (cs:List TV) (x:ByteArray) (w:World) (hz:n=cs.length) (hbig:n<=100000) (hl:Lt w b off cs) (hp:p<w.heap.size) (hx:w.cell? ⟨p,0,none⟩=some (.string x)) :
  Calls Tryz.prog 187 #[.slice (some ⟨b,off,none⟩) n c, .func (.func 145) #[] #[.pointer (some ⟨p,0,none⟩)]] w fun e w'=>e = .returned (.int .i64 (tabFrom x.toList 0 cs))/\Gr w w':=by
 have HV:=hid hl
 have HZ:=hid hz
 have HP:=hid hx
 clear hl hz hx
 have HD:Hid (tabFrom x.toList 0 cs=tabFrom x.toList 0 (cs.drop 0)):=rfl
 generalize tabFrom x.toList 0 cs=dv at *
 go_enter Tryz.func187,Tryz.ntmps187
 go_wp2
 go_loopw [8] (fun i wr=>∃ k:Nat,k<=n/\i = .int .i64 k/\Hid (Gr w wr)/\Hid (dv=tabFrom x.toList k (cs.drop k))) (fun i _=>n - (intOf i).toNat)
 case atStart=>exact ⟨0,Nat.zero_le _,rfl,Gr.refl _,HD⟩
 case round=>
  obtain ⟨k,hk,rfl,HG,HR⟩:=hrel
  by_cases hlt:k<n
  ·have hkz:k<cs.length:=by have:=HZ.out;omega
   have HVr:=HV.out.gr HG.out
   have c0:=HVr.n k hkz
   have c1:=HVr.c k hkz
   have c2:=HVr.r k hkz
   clear HVr
   have HS:Hid ((cs[k].name.toList == x.toList)=false->dv=tabFrom x.toList (k+1) (cs.drop (k+1))):=fun h=>HR.out.trans (tab_skip _ cs k hkz h)
   have HT:Hid ((cs[k].name.toList == x.toList)=true->dv=(k:Int)):=fun h=>HR.out.trans (tab_hit _ cs k hkz h)
   have HC:Hid (Calls Tryz.prog 145 #[enT cs[k], .pointer (some ⟨p,0,none⟩)] wr fun e w'=>e = .returned (.bool (cs[k].name.toList == x.toList))/\Gr wr w'):=wout1_any x p _ wr (Nat.lt_of_lt_of_le hp HG.out.size) ((HG.out.cell (p:=⟨p,0,none⟩) hp).trans HP.out)
   generalize (cs[k].name.toList == x.toList)=bb at HC HS HT
   obtain ⟨tn,ca,cl,cc,ra,rl,rc⟩:=cs[k]
   clear HR
   go_wp2_with fail
   refine Calls.mono HC.out ?_
   rintro e w2 ⟨rfl,g2⟩
   have HG':=hid (HG.out.trans g2)
   clear g2
   cases bb
   ·go_wp2_with fail
    go_roundw
    case rel=>exact ⟨k+1,by omega,by go_num,HG',HS.out (by trivial)⟩
    case measure=>simp [intOf];omega
   ·go_wp2_with fail
    go_ret
    exact ⟨ret_int (HT.out (by trivial)).symm,HG'.out⟩
  ·have HF:Hid (dv=-1):=by show _=_;rw [HR.out,List.drop_of_length_le (by have:=HZ.out;omega)];rfl
   go_wp2_with fail
   go_ret
   exact ⟨ret_int HF.out.symm,HG.out⟩
theorem tclone_nil (w:World):Calls Tryz.prog 144 #[.slice none 0 0] w fun e w'=>e = .returned (.slice none 0 0)/\w'=w:=by
 have hq:=fun (w' : World)=>Lib.run_eql_slice_nil (P:=Tryz.prog) w' 113 187 none 0 0 0 0 Tryz.underlying113
 simp only [Option.isNone_none] at hq
 go_enter Tryz.func144,Tryz.ntmps144
 go_wp2_with fail
 go_ret
 exact ⟨rfl,rfl⟩
theorem tclone_any {b off c:Nat} {V:List TV} {w:World} (h:Lt w b off V) (hbig:V.length<=1000) :
  Calls Tryz.prog 144 #[.slice (some ⟨b,off,none⟩) V.length c] w fun e w'=>∃ v,e = .returned v/\(OwT w.heap.size w' v V/\v ≠ .slice none 0 0)/\RowKit.Below w.heap.size w w':=by
 obtain ⟨i0,ji,jz0,jz1,jz2⟩:=info_parts infoTab
 have HL:=hid h
 have hbw:=h.lb
 have HN:=hid (enTs_len V)
 have H1:=hid (enTs_one V)
 obtain ⟨xs,hxs⟩:∃ xs,xs=enTs V:=⟨_,rfl⟩
 have HX:=hid hxs
 obtain ⟨n,hn⟩:∃ n,n=V.length:=⟨_,rfl⟩
 have HNn:=hid hn
 rw [<- hn] at hbig ⊢
 clear h hxs hn
 have hq:=fun (w' : World)=>Lib.run_eql_slice_nil (P:=Tryz.prog) w' 113 187 (some ⟨b,off,none⟩) n c 0 0 Tryz.underlying113
 simp only [Option.isNone_some] at hq
 have GA:=hid ((Gr.refl w).alloc (.cells #[] 187))
 have HO:Hid ((w.alloc (.cells #[] 187)).ownsRow w.heap.size 187 3 (.slice (some ⟨w.heap.size,0,none⟩) 0 0) 0 []):=⟨rfl, .inr ⟨w.heap.size,0,_,rfl,Nat.le_refl _,heap_alloc_new w _,Nat.zero_le _,Nat.zero_le _,rfl,rfl⟩⟩
 have HC:Hid (∀ j u,xs[j]?=some u->(w.alloc (.cells #[] 187)).cell? ((⟨b,off,none⟩:Addr).add j)=some u):=fun j u hj=>by
  rw [Addr.add_lit]
  rw [HX.out] at hj
  exact (GA.out.cell (p:=⟨b,off+j,none⟩) hbw).trans (HL.out.cells j u hj)
 have H2:Hid (∀ u∈xs,u.oneCell'=true):=fun u hu=>H1.out u (by rw [<- HX.out];exact hu)
 have H3:Hid (xs.length=n*3):=by show _=_;rw [HX.out,HNn.out];exact HN.out
 have H4:Hid (0+n<=maxLen):=by show _<=_;unfold maxLen;omega
 have H5:Hid ((0+n)*64<=140737488355328):=by show _<=_;omega
 have H6:Hid (w.heap.size<=(w.alloc (.cells #[] 187)).heap.size):=GA.out.size
 go_enter Tryz.func144,Tryz.ntmps144
 go_wp2_with (at_builtin;go_must (refine wpList_append_own _ rfl (.tmp 5) (.tmp 6) 113 rfl w.heap.size 187 i0 (.agg #[.string ⟨#[]⟩, .slice none 0 0, .slice none 0 0]) 3 64 Tryz.underlying113 ji jz0 jz1 jz2 rfl (by decide) _ 0 _ rfl HO.out ⟨b,off,none⟩ n c xs rfl H3.out HC.out H2.out H4.out H5.out H6.out ?_))
 intro v' w3 hown hgrow hnil
 have HW:Hid (OwT w.heap.size w3 v' V):=by
  show World.ownsRow _ _ _ _ _ _ _
  rw [<- HNn.out,<- HX.out]
  simpa using hown
 have HB:Hid (RowKit.Below w.heap.size w w3):=⟨hgrow.os,hgrow.tape,hgrow.output,Nat.le_trans GA.out.size hgrow.size,fun k hk=>(hgrow.block k (Nat.lt_of_lt_of_le hk GA.out.size) (by intro e;simp [Value.ownBlock] at e;omega)).trans (GA.out.below.block k hk)⟩
 have HNl:=hid hnil
 clear hown hgrow hnil
 obtain ⟨va,vn,vc,rfl⟩:∃ a n c,v' = .slice a n c:=by
  obtain ⟨_,h | ⟨g',cap,cur,hv,_⟩⟩:=HW.out
  ·exact ⟨_,_,_,h.1⟩
  ·exact ⟨_,_,_,hv⟩
 go_wp2_with fail
 go_ret
 exact ⟨_,rfl,⟨HW.out,HNl.out⟩,HB.out⟩
theorem owns_put {w:World} {base g n cap k size:Nat} {e:TypeId} {xs:List Value} (h:w.ownsRow base e size (.slice (some ⟨g,0,none⟩) n cap) n xs) (u:Value):(w.setCell ⟨g,k,none⟩ u).ownsRow base e size (.slice (some ⟨g,0,none⟩) n cap) n (xs.set k u):=by
 obtain ⟨hl,h | ⟨g',cap',cur,hv,h0,hb,r1,r2,r3,r4⟩⟩:=h
 ·cases h.1
 ·injection hv with e1 e2 e3
  injection e1 with e1
  injection e1 with e1
  subst e1 e3
  refine ⟨by simpa using hl, .inr ⟨g,cap,cur.setIfInBounds k u,rfl,h0,?_,r1,r2,by simpa using r3,?_⟩⟩
  ·simp [World.setCell,Array.getElem?_modify,hb]
  ·rw [Array.toList_setIfInBounds,List.take_set,r4]
theorem owns_cut {w:World} {base g n cap m size:Nat} {e:TypeId} {xs:List Value} (h:w.ownsRow base e size (.slice (some ⟨g,0,none⟩) n cap) n xs) (hm:m<=n):w.ownsRow base e size (.slice (some ⟨g,0,none⟩) m cap) m (xs.take (m*size)):=by
 obtain ⟨hl,h | ⟨g',cap',cur,hv,h0,hb,r1,r2,r3,r4⟩⟩:=h
 ·cases h.1
 ·injection hv with e1 e2 e3
  injection e1 with e1
  injection e1 with e1
  subst e1 e3
  have hms:m*size<=n*size:=Nat.mul_le_mul_right _ hm
  refine ⟨by rw [List.length_take,hl];omega, .inr ⟨g,cap,cur,rfl,h0,hb,by omega,r2,r3,?_⟩⟩
  rw [<- r4,List.take_take,Nat.min_eq_left hms]
theorem owns_puts {base g n cap size:Nat} {e:TypeId} {xs:List Value} : ∀ (vs:List Value) (o:Nat) (w:World),w.ownsRow base e size (.slice (some ⟨g,0,none⟩) n cap) n xs->n*size<=o->(w.setCells g o vs).ownsRow base e size (.slice (some ⟨g,0,none⟩) n cap) n xs
 | [],_,_,h,_=>h
 | v::r,o,w,h,ho=>by
  have h1:=owns_put (k:=o) h v
  rw [List.set_eq_of_length_le (by rw [h.1];exact ho)] at h1
  exact owns_puts r (o+1) _ h1 (by omega)
theorem kept_puts (g:Nat):∀ (vs:List Value) (o:Nat) (w:World),Kept g w (w.setCells g o vs)
 | [],_,w=>⟨rfl,rfl,rfl,Nat.le_refl _,fun _ _ _=>rfl⟩
 | v::r,o,w=>by
  have h:=kept_puts g r (o+1) (w.setCell ⟨g,o,none⟩ v)
  exact ⟨h.os,h.tape,h.output,by have:=h.size;simp only [World.setCell,Array.size_modify] at this;exact this,fun k hk hb=>(h.block k (by simpa [World.setCell] using hk) hb).trans (Below.heap_setCell _ _ _ _ hb)⟩
theorem owns_some {w:World} {base g n cap size:Nat} {e:TypeId} {xs:List Value} (h:w.ownsRow base e size (.slice (some ⟨g,0,none⟩) n cap) n xs) (k:Nat) (hk:k<n*size):(w.cell? ⟨g,k,none⟩).isSome=true/\w.frozen? ⟨g,k,none⟩=false:=by
 obtain ⟨hl,h | ⟨g',cap',cur,hv,h0,hb,r1,r2,r3,r4⟩⟩:=h
 ·cases h.1
 ·injection hv with e1 e2 e3
  injection e1 with e1
  injection e1 with e1
  subst e1 e3
  have:n*size<=cap*size:=Nat.mul_le_mul_right _ r1
  refine ⟨?_,by simp [World.frozen?,hb]⟩
  simp [World.cell?,hb,show k<cur.size by omega]
theorem enTs_set:∀ (U:List TV) (i:Nat) (t:TV),i<U.length->enTs (U.set i t)=(((enTs U).set (i*3) (.string t.name)).set (i*3+1) t.cv).set (i*3+2) t.rv
 | [],i,t,h=>by simp at h
 | u::U,0,t,_=>by simp [enTs]
 | u::U,i+1,t,h=>by
  have ih:=enTs_set U i t (by simpa using h)
  simp only [enTs,List.set_cons_succ,List.flatMap_cons] at ih ⊢
  rw [ih]
  have e:(i+1)*3=(i*3)+3:=by omega
  rw [e]
  simp only [List.cons_append,List.nil_append,Nat.add_right_comm _ 3,List.set_cons_succ]
def keptT (x:Sp.Bs) (V:List TV):List TV:=V.filter fun t=>!(t.name.toList == x)
theorem keptT_snoc (x:Sp.Bs) (V:List TV) (j:Nat) (h:j<V.length):keptT x (V.take (j+1))=keptT x (V.take j)++(if V[j].name.toList == x then [] else [V[j]]):=by
 unfold keptT
 rw [List.take_succ_eq_append_getElem h,List.filter_append]
 congr 1
 cases hb:(V[j].name.toList == x) <;> simp [hb]
theorem keptT_len (x:Sp.Bs) (V:List TV) (j:Nat):(keptT x (V.take j)).length<=j:=by
 have:=List.length_filter_le (fun t:TV=>!(t.name.toList == x)) (V.take j)
 have:=List.length_take_le j V
 unfold keptT
 omega
theorem tabFrom_none (x:Sp.Bs):∀ (V:List TV) (k:Nat),tabFrom x k V=-1->keptT x V=V
 | [],_,_=>rfl
 | t::V,k,h=>by
  unfold tabFrom at h
  split at h
  ·exact absurd h (by omega)
  ·rename_i hb
   have:=tabFrom_none x V (k+1) h
   simp only [Bool.not_eq_true] at hb
   unfold keptT at this ⊢
   rw [List.filter_cons,hb]
   simp only [Bool.not_false,if_true]
   rw [this]
theorem tabFrom_some (x:Sp.Bs):∀ (V:List TV) (k:Nat),tabFrom x k V≠-1->∃ i,i<V.length/\tabFrom x k V=((k+i:Nat):Int)/\keptT x (V.take i)=V.take i/\keptT x (V.take (i+1))=V.take i
 | [],_,h=>absurd rfl h
 | t::V,k,h=>by
  unfold tabFrom at h ⊢
  by_cases hb:(t.name.toList == x)=true
  ·rw [if_pos hb]
   exact ⟨0,by simp,by simp,rfl,by unfold keptT;simp at hb;simp [hb]⟩
  ·rw [if_neg hb] at h ⊢
   simp only [Bool.not_eq_true] at hb
   obtain ⟨i,h1,h2,h3,h4⟩:=tabFrom_some x V (k+1) h
   refine ⟨i+1,by simpa using h1,by rw [h2];omega,?_,?_⟩
   ·unfold keptT at h3 ⊢
    rw [List.take_succ_cons,List.filter_cons,hb]
    simp only [Bool.not_false,if_true]
    rw [h3]
   ·unfold keptT at h4 ⊢
    rw [List.take_succ_cons,List.filter_cons,hb]
    simp only [Bool.not_false,if_true]
    rw [h4,List.take_succ_cons]
theorem run_clear3 {P:Program} (w:World) (t e ty:TypeId) (z:Value) (ht:P.underlying t=some (.slice e)) (hv:∀ w,(zeroValue e).run P w = .ok z w) (b o n c:Nat) (hn:0<n) (h1:∀ u∈(Builtin.zeroCells z.cells n).toList,u.oneCell'=true) (hz:z.cells.size=3)
  (hc:∀ j,j<n*3->(w.cell? ⟨b,o+j,none⟩).isSome=true) (hf:∀ j,j<n*3->w.frozen? ⟨b,o+j,none⟩=false) :
  (Builtin.clear_ #[t] ty #[.slice (some ⟨b,o,none⟩) n c]).run P w = .ok (.tuple #[]) (w.setCells b o (Builtin.zeroCells z.cells n).toList):=by
 have hl:(Builtin.zeroCells z.cells n).toList.length=n*3:=by simp [Builtin.zeroCells,hz]
 have hst:=run_storeCells_cells (P:=P) b o (Builtin.zeroCells z.cells n).toList 0 w (by rw [hl];simpa using hc) (by rw [hl];simpa using hf) h1
 simp only [Nat.add_zero] at hst
 obtain ⟨m,rfl⟩:∃ m,n=m+1:=⟨n - 1,by omega⟩
 simp [Builtin.clear_,run_underlying ht,hv,hst]
theorem zeroT_one (n:Nat):∀ u∈(Builtin.zeroCells #[Value.string ⟨#[]⟩, .slice none 0 0, .slice none 0 0] n).toList,u.oneCell'=true:=by
 intro u hu
 simp only [Builtin.zeroCells,Array.toList_map,List.mem_map] at hu
 obtain ⟨i,_,rfl⟩:=hu
 have h3:i % 3=0\/i % 3=1\/i % 3=2:=by omega
 simp only [List.size_toArray,List.length_cons,List.length_nil,Nat.zero_add,Nat.reduceAdd]
 rcases h3 with h | h | h <;> rw [h] <;> rfl
theorem owns_lt' {w:World} {base g n cap size:Nat} {e:TypeId} {xs:List Value} (h:w.ownsRow base e size (.slice (some ⟨g,0,none⟩) n cap) n xs):g<w.heap.size:=(ownsV_block h g rfl).2
theorem Lt.owned {w:World} {base g cap:Nat} {V:List TV} (h:OwT base w (.slice (some ⟨g,0,none⟩) V.length cap) V):Lt w g 0 V:=
 Lt.of (ownsV_block h g rfl).2 fun j u hj=>by rw [Nat.zero_add];exact owns_cells h j u hj
theorem tdelete_any {base g cap p:Nat} {V:List TV} {x:ByteArray} {w:World} (h:OwT base w (.slice (some ⟨g,0,none⟩) V.length cap) V) (hbig:V.length<=1000) (hp:p<w.heap.size) (hpg:p≠g) (hx:w.cell? ⟨p,0,none⟩=some (.string x)) :
  Calls Tryz.prog 143 #[.slice (some ⟨g,0,none⟩) V.length cap, .func (.func 145) #[] #[.pointer (some ⟨p,0,none⟩)]] w fun e w'=>∃ v,e = .returned v/\(OwT base w' v (keptT x.toList V)/\v = .slice (some ⟨g,0,none⟩) (keptT x.toList V).length cap)/\Kept g w w':=by
 have HI:=hid (tabIndex_any g 0 V.length cap p V x w rfl (by omega) (Lt.owned h) hp hx)
 have HO:=hid h
 have HX:=hid hx
 have hcap:V.length<=cap:=by
  obtain ⟨_,h | ⟨g',cap',cur,hv,_,_,r1,_⟩⟩:=h
  ·cases h.1
  ·injection hv with _ _ e3;omega
 clear h hx
 obtain ⟨n,hn⟩:∃ n,n=V.length:=⟨_,rfl⟩
 have HN:=hid hn
 rw [<- hn] at HI hbig hcap ⊢
 clear hn
 by_cases hm:tabFrom x.toList 0 V=-1
 ·have HF:=hid (tabFrom_none x.toList V 0 hm)
  rw [hm] at HI
  clear hm
  go_enter Tryz.func143,Tryz.ntmps143
  go_wp2_with fail
  refine HI.out.mono ?_
  rintro e w1 ⟨rfl,g1⟩
  have G1:=hid g1
  clear g1 HI
  go_wp2_with fail
  go_ret
  refine ⟨_,rfl,⟨?_,?_⟩,Kept.gr G1.out⟩
  ·rw [HF.out,HN.out];exact ownsV_below HO.out G1.out.below
  ·rw [HF.out,<- HN.out];rfl
 ·obtain ⟨i0,hi0,e0,k0,k1⟩:=tabFrom_some x.toList V 0 hm
  rw [e0,Nat.zero_add] at HI
  rw [<- HN.out] at hi0
  have HK0:=hid k0
  have HK1:=hid k1
  clear hm e0 k0 k1
  go_enter Tryz.func143,Tryz.ntmps143
  go_wp2_with fail
  refine HI.out.mono ?_
  rintro e w1 ⟨rfl,g1⟩
  have G1:=hid g1
  clear g1 HI
  go_wp2_with fail
  go_loopw [5,6] (fun iv jv wr=>∃ i j:Nat,∃ U:List TV,i<j/\j<=n/\iv = .int .i64 (i:Nat)/\jv = .int .i64 (j:Nat)/\Hid (U.length=n/\U.take i=keptT x.toList (V.take j)/\U.drop j=V.drop j)/\Hid (wr.ownsRow base 187 3 (.slice (some ⟨g,0,none⟩) n cap) n (enTs U))/\Hid (Kept g w wr)) (fun _ jv _=>n - (intOf jv).toNat)
  case atStart=>
   refine ⟨i0,i0+1,V,by omega,by omega,rfl,by go_num,⟨HN.out.symm,HK1.out.symm,rfl⟩,?_,Kept.gr G1.out⟩
   show World.ownsRow _ _ _ _ _ _ _
   rw [HN.out]
   exact ownsV_below HO.out G1.out.below
  case round=>
   obtain ⟨i,j,U,hij,hj,rfl,rfl,HU,HOr,HKr⟩:=hrel
   by_cases hlt:j<n
   ·have hjU:j<U.length:=by have:=HU.out.1;omega
    have hjV:j<V.length:=by have:=HN.out;omega
    have hUV:U[j]=V[j]:=by
     have h1:(U.drop j)[0]?=(V.drop j)[0]?:=by rw [HU.out.2.2]
     simpa [hjU,hjV] using h1
    have hiU:i<U.length:=by omega
    have hgw:=owns_lt' (g:=g) (n:=n) (cap:=cap) HOr.out
    have hcell:=fun d u hu=>owns_cells (n:=n) (cap:=cap) (g:=g) HOr.out d u hu
    have hsome:=fun k hk=>owns_some (g:=g) (n:=n) (cap:=cap) HOr.out k hk
    have c0:=hcell (j*3+0) (.string V[j].name) (by rw [enTs_at U j 0 hjU (by omega),hUV];rfl)
    have c1:=hcell (j*3+1) V[j].cv (by rw [enTs_at U j 1 hjU (by omega),hUV];rfl)
    have c2:=hcell (j*3+2) V[j].rv (by rw [enTs_at U j 2 hjU (by omega),hUV];rfl)
    rw [Nat.add_zero] at c0
    have f0:=(hsome (i*3) (by omega)).2
    have f1:=(hsome (i*3+1) (by omega)).2
    have f2:=(hsome (i*3+2) (by omega)).2
    have s0:=(hsome (i*3) (by omega)).1
    have s1:=(hsome (i*3+1) (by omega)).1
    have s2:=(hsome (i*3+2) (by omega)).1
    clear hcell hsome
    have HKs:=hid (keptT_snoc x.toList V j hjV)
    have HW1:=hid (fun (W:World) (gW:Gr wr W)=>wout1_any x p V[j] W (Nat.lt_of_lt_of_le hp (Nat.le_trans HKr.out.size gW.size)) ((gW.cell (p:=⟨p,0,none⟩) (Nat.lt_of_lt_of_le hp HKr.out.size)).trans ((HKr.out.cell (p:=⟨p,0,none⟩) hp hpg).trans HX.out)))
    have HVj:=hid hUV
    obtain ⟨t,ht⟩:∃ t,t=V[j]:=⟨_,rfl⟩
    have HTj:=hid ht
    rw [<- ht] at c0 c1 c2 HW1
    clear ht hUV
    have HBB:=hid (fun (b:Bool) (hb:(t.name.toList == x.toList)=b)=>hb)
    obtain ⟨o0,s0'⟩:=Option.isSome_iff_exists.1 s0
    obtain ⟨o1,s1'⟩:=Option.isSome_iff_exists.1 s1
    obtain ⟨o2,s2'⟩:=Option.isSome_iff_exists.1 s2
    clear s0 s1 s2
    obtain ⟨bb,hbb⟩:∃ bb,bb=(t.name.toList == x.toList):=⟨_,rfl⟩
    have HB:=hid hbb
    rw [<- hbb] at HW1
    clear hbb HBB
    obtain ⟨tn,ca,cl,cc,ra,rl,rc⟩:=t
    simp only [TV.cv,TV.rv] at c0 c1 c2
    have GA:=hid ((Gr.refl wr).alloc (.cells #[.string tn, .slice ca cl cc, .slice ra rl rc] 187))
    go_wp2_with fail
    refine (HW1.out _ GA.out).mono ?_
    rintro e w2 ⟨rfl,g2⟩
    have b0:=(g2.cell (p:=⟨wr.heap.size,0,none⟩) (by simp)).trans (World.cell?_alloc_new wr #[.string tn, .slice ca cl cc, .slice ra rl rc] 187 0)
    have b1:=(g2.cell (p:=⟨wr.heap.size,1,none⟩) (by simp)).trans (World.cell?_alloc_new wr #[.string tn, .slice ca cl cc, .slice ra rl rc] 187 1)
    have b2:=(g2.cell (p:=⟨wr.heap.size,2,none⟩) (by simp)).trans (World.cell?_alloc_new wr #[.string tn, .slice ca cl cc, .slice ra rl rc] 187 2)
    simp only [List.getElem?_toArray,List.getElem?_cons_zero,List.getElem?_cons_succ] at b0 b1 b2
    have G2:=hid (GA.out.trans g2)
    clear g2
    have d0:=(G2.out.cell (p:=⟨g,i*3,none⟩) hgw).trans s0'
    have d1:=(G2.out.cell (p:=⟨g,i*3+1,none⟩) hgw).trans s1'
    have d2:=(G2.out.cell (p:=⟨g,i*3+2,none⟩) hgw).trans s2'
    have e0:=(G2.out.frozen (p:=⟨g,i*3,none⟩) hgw).trans f0
    have e1:=(G2.out.frozen (p:=⟨g,i*3+1,none⟩) hgw).trans f1
    have e2:=(G2.out.frozen (p:=⟨g,i*3+2,none⟩) hgw).trans f2
    clear f0 f1 f2 s0' s1' s2' c0 c1 c2
    have HO2:=hid (ownsV_below HOr.out G2.out.below)
    cases bb
    ·have HKj:Hid (keptT x.toList (V.take (j+1))=keptT x.toList (V.take j) ++ [(⟨tn,ca,cl,cc,ra,rl,rc⟩:TV)]):=by
      show _=_
      rw [HKs.out,<- HTj.out,<- HB.out]
      rfl
     clear HKs HB
     go_wp2_with fail
     refine ⟨⟨_,_,_,_,_,_,_,_,_,_,_,_,_,_,_,_,_,_,_,_,_,_,_,?rel,rfl⟩,?measure⟩
     case rel=>
      refine ⟨i+1,j+1,U.set i ⟨tn,ca,cl,cc,ra,rl,rc⟩,by omega,by omega,by go_num,by go_num,⟨by simp [HU.out.1],?_,?_⟩,?_,?_⟩
      ·rw [HKj.out,<- HU.out.2.1,List.take_succ_eq_append_getElem (by simpa using hiU),List.getElem_set_self,List.take_set_of_le (Nat.le_refl _)]
      ·rw [List.drop_set_of_lt (by omega),<- List.drop_drop,<- List.drop_drop,HU.out.2.2]
      ·show World.ownsRow _ _ _ _ _ _ _
       rw [enTs_set U i _ hiU]
       exact owns_put (owns_put (owns_put HO2.out _) _) _
      ·have:=HKr.out
       have g2:=G2.out
       exact ⟨g2.below.os.trans this.os,g2.below.tape.trans this.tape,g2.below.output.trans this.output,by have:=this.size;have:=g2.size;simp [World.setCell];omega,fun k hk hb=>((Below.heap_setCell _ _ _ _ hb).trans ((Below.heap_setCell _ _ _ _ hb).trans (Below.heap_setCell _ _ _ _ hb))).trans ((g2.below.block k (Nat.lt_of_lt_of_le hk this.size)).trans (this.block k hk hb))⟩
     case measure=>simp [intOf];omega
    ·have HKj:Hid (keptT x.toList (V.take (j+1))=keptT x.toList (V.take j)):=by
      show _=_
      rw [HKs.out,<- HTj.out,<- HB.out]
      simp
     clear HKs HB
     go_wp2_with fail
     refine ⟨⟨_,_,_,_,_,_,_,_,_,_,_,_,_,_,_,_,_,_,_,_,_,_,_,?rel,rfl⟩,?measure⟩
     case rel=>
      refine ⟨i,j+1,U,by omega,by omega,rfl,by go_num,⟨HU.out.1,by rw [HKj.out];exact HU.out.2.1,?_⟩,HO2,?_⟩
      ·rw [<- List.drop_drop,<- List.drop_drop,HU.out.2.2]
      ·have:=HKr.out
       have g2:=G2.out
       exact ⟨g2.below.os.trans this.os,g2.below.tape.trans this.tape,g2.below.output.trans this.output,Nat.le_trans this.size g2.size,fun k hk hb=>(g2.below.block k (Nat.lt_of_lt_of_le hk this.size)).trans (this.block k hk hb)⟩
     case measure=>simp [intOf];omega
   ·obtain rfl:j=n:=by omega
    have hzv:∀ w' : World,(zeroValue 187).run Tryz.prog w' = .ok (.agg #[.string ⟨#[]⟩, .slice none 0 0, .slice none 0 0]) w':=fun w'=>by go_simp
    have hcl:=fun ty=>run_clear3 (P:=Tryz.prog) wr 113 187 ty (.agg #[.string ⟨#[]⟩, .slice none 0 0, .slice none 0 0]) Tryz.underlying113 hzv g (i*3) (j - i) (cap - i) (by omega) (zeroT_one _) rfl (fun q hq=>(owns_some HOr.out (i*3+q) (by omega)).1) (fun q hq=>(owns_some HOr.out (i*3+q) (by omega)).2)
    clear hzv
    generalize (Builtin.zeroCells (Value.agg #[Value.string ⟨#[]⟩, .slice none 0 0, .slice none 0 0]).cells (j - i)).toList=Z at hcl
    have HO3:=hid (owns_puts Z (i*3) wr (owns_cut HOr.out (Nat.le_of_lt hij)) (Nat.le_refl _))
    have HK3:=hid (kept_puts g Z (i*3) wr)
    have HE:Hid ((enTs U).take (i*3)=enTs (keptT x.toList V)/\(keptT x.toList V).length=i):=by
     have h1:=HU.out.2.1
     rw [HN.out,List.take_length] at h1
     have h2:U=U.take i++U.drop i:=(List.take_append_drop i U).symm
     have h3:=HU.out.1
     refine ⟨?_,?_⟩
     ·rw [<- h1]
      conv=>lhs;rw [h2,enTs_app]
      rw [List.take_append_of_le_length (by rw [enTs_len,List.length_take];omega),List.take_of_length_le (by rw [enTs_len,List.length_take];omega)]
     ·rw [<- h1,List.length_take];have:=HU.out.1;omega
    generalize hwz:wr.setCells g (i*3) Z=wz at hcl HO3 HK3
    clear hwz
    go_wp2_with fail
    go_ret
    refine ⟨_,rfl,⟨?_,?_⟩,?_⟩
    ·show World.ownsRow _ _ _ _ _ _ _
     rw [HE.out.2,<- HE.out.1]
     exact HO3.out
    ·rw [HE.out.2];rfl
    ·have h1:=HKr.out
     have h2:=HK3.out
     exact ⟨h2.os.trans h1.os,h2.tape.trans h1.tape,h2.output.trans h1.output,Nat.le_trans h1.size h2.size,fun k hk hb=>(h2.block k (Nat.lt_of_lt_of_le hk h1.size) hb).trans (h1.block k hk hb)⟩
end Go.Proofs.YtgnncnhkgmhngaaGreatDoor
