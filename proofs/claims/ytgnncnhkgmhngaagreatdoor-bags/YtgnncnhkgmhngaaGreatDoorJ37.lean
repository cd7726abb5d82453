import Derived.Test.YtgnncnhkgmhngaaGreatDoorJ18
import Derived.Lib.SliceRun
set_option maxHeartbeats 4000000
set_option maxRecDepth 100000
namespace Go.Proofs.YtgnncnhkgmhngaaGreatDoor
open Go.RowKit Go.Sort
def fP (V:List TV):List Value:=V.flatMap λt => [.string t.name,t.cv,t.rv]
theorem pX (V:List TV):(fP V).length=V.length*3:=by
 induction V with
 | nil=>rfl
 | cons t V ih=>simp only [fP,List.flatMap_cons,List.length_append,List.length_cons,List.length_nil] at ih ⊢;omega
theorem BX (V U:List TV):fP (V++U)=fP V++fP U:=by simp [fP]
theorem jB:∀ (l:List TV) (i d:Nat) (h:i<l.length) (_:d<3),(fP l)[i*3+d]?=([.string l[i].name,l[i].cv,l[i].rv]:List Value)[d]?
 | [],i,d,h,_=>by simp at h
 | p::l,0,d,_,hd=>by
  simp only [fP,List.flatMap_cons,List.getElem_cons_zero,Nat.zero_mul,Nat.zero_add]
  rw [List.getElem?_append_left (by simp;omega)]
 | p::l,i+1,d,h,hd=>by
  have ih:=jB l i d (by simpa using h) hd
  simp only [fP,List.flatMap_cons,List.getElem_cons_succ] at ih ⊢
  rw [List.getElem?_append_right (by simp;omega),<- ih]
  congr 1
  simp;omega
theorem JS (V:List TV):∀ u∈fP V,u.oneCell'=true:=λu hu=>by
 simp only [fP,List.mem_flatMap] at hu
 obtain ⟨t,_,h⟩:=hu
 simp only [List.mem_cons,List.not_mem_nil,or_false] at h
 rcases h with rfl | rfl | rfl <;> rfl
theorem Lt.cells {w:World} {b off:Nat} {V:List TV} (h:Lt w b off V):∀ j u,(fP V)[j]?=some u->w.cell? ⟨b,off+j,none⟩=some u:=by
 intro j u hj
 have hlt:j<V.length*3:=by rw [<- pX];exact (List.getElem?_eq_some_iff.1 hj).1
 have hi:j / 3<V.length:=by omega
 have hd:j % 3<3:=by omega
 have e:=jB V (j / 3) (j % 3) hi hd
 rw [show j / 3*3+j % 3=j by omega,hj] at e
 have h3:j % 3=0\/j % 3=1\/j % 3=2:=by omega
 rcases h3 with h0 | h0 | h0
 ·rw [h0] at e
  simp at e
  rw [e,show off+j=off+j / 3*3 by omega]
  exact h.n _ hi
 ·rw [h0] at e
  simp at e
  rw [e,show off+j=off+j / 3*3+1 by omega]
  exact h.c _ hi
 ·rw [h0] at e
  simp at e
  rw [e,show off+j=off+j / 3*3+2 by omega]
  exact h.r _ hi
theorem Lt.of {w:World} {b off:Nat} {V:List TV} (hb:b<w.heap.size) (h:∀ j u,(fP V)[j]?=some u->w.cell? ⟨b,off+j,none⟩=some u):Lt w b off V:=by
 refine ⟨hb,λj hj=>?_,λj hj=>?_,λj hj=>?_⟩
 ·have:=h (j*3+0) (.string V[j].name) (by rw [jB V j 0 hj (by omega)];rfl)
  simpa using this
 ·have:=h (j*3+1) V[j].cv (by rw [jB V j 1 hj (by omega)];rfl)
  rw [Nat.add_assoc];exact this
 ·have:=h (j*3+2) V[j].rv (by rw [jB V j 2 hj (by omega)];rfl)
  rw [Nat.add_assoc];exact this
def CX (base:Nat) (w:World) (v:Value) (V:List TV):Prop:=w.ownsRow base 187 3 v V.length (fP V)
theorem CX.nil (base:Nat) (w:World):CX base w (.slice none 0 0) []:=World.ownsRow_nil _ _ _ _
theorem Fq:(Tryz.prog.info? 187).map (λi=>(i.zero,i.size,i.bytes))=some (some (.agg #[.string ⟨#[]⟩, .slice none 0 0, .slice none 0 0]),3,64):=by kernel_rfl
theorem xO (x:ByteArray) (p:Nat) (t:TV) (w:World) (hp:p<w.heap.size) (hx:w.cell? ⟨p,0,none⟩=some (.string x)) :
  Calls Tryz.prog 145 #[sE t, .pointer (some ⟨p,0,none⟩)] w λe w'=>e = .returned (.bool (t.name.toList == x.toList))/\Gr w w':=by
 obtain ⟨tn,ca,cl,cc,ra,rl,rc⟩:=t
 have hx1:(w.alloc (.cells #[.string tn, .slice ca cl cc, .slice ra rl rc] 187)).cell? ⟨p,0,none⟩=some (.string x):=(((Gr.refl w).alloc _).cell (p:=⟨p,0,none⟩) hp).trans hx
 go_enter Tryz.func145,Tryz.ntmps145
 go_wp2
 go_ret
 exact ⟨rfl,(Gr.refl w).alloc _⟩
def cR (x:Sp.Bs):Nat->List TV->Int
 | _, []=>-1
 | k,t::l=>if t.name.toList == x then (k:Int) else cR x (k+1) l
theorem JT (x:Sp.Bs) (cs:List TV) (k:Nat) (h:k<cs.length) (e:(cs[k].name.toList == x)=false):cR x k (cs.drop k)=cR x (k+1) (cs.drop (k+1)):=by
 rw [nS h,cR,if_neg (by rw [e];decide)]
theorem LO (x:Sp.Bs) (cs:List TV) (k:Nat) (h:k<cs.length) (e:(cs[k].name.toList == x)=true):cR x k (cs.drop k)=(k:Int):=by
 rw [nS h,cR,if_pos e]
theorem z8 (b off n c p:Nat) (cs:List TV) (x:ByteArray) (w:World) (hz:n=cs.length) (hbig:n<=100000) (hl:Lt w b off cs) (hp:p<w.heap.size) (hx:w.cell? ⟨p,0,none⟩=some (.string x)) :
  Calls Tryz.prog 187 #[.slice (some ⟨b,off,none⟩) n c, .func (.func 145) #[] #[.pointer (some ⟨p,0,none⟩)]] w λe w'=>e = .returned (.int .i64 (cR x.toList 0 cs))/\Gr w w':=by
 have HV:=hid hl
 have HZ:=hid hz
 have HP:=hid hx
 clear hl hz hx
 have HD:Hid (cR x.toList 0 cs=cR x.toList 0 (cs.drop 0)):=rfl
 generalize cR x.toList 0 cs=dv at *
 go_enter Tryz.func187,Tryz.ntmps187
 go_wp2
 go_loopw [8] (λi wr=>∃ k:Nat,k<=n/\i = .int .i64 k/\Hid (Gr w wr)/\Hid (dv=cR x.toList k (cs.drop k))) (λi _=>n - (intOf i).toNat)
 case atStart=>exact ⟨0,fO _,rfl,Gr.refl _,HD⟩
 case round=>
  obtain ⟨k,hk,rfl,HG,HR⟩:=hrel
  by_cases hlt:k<n
  ·have hkz:k<cs.length:=by have:=HZ.out;omega
   have fQ:=HV.out.gr HG.out
   have c0:=fQ.n k hkz
   have c1:=fQ.c k hkz
   have c2:=fQ.r k hkz
   clear fQ
   have HS:Hid ((cs[k].name.toList == x.toList)=false->dv=cR x.toList (k+1) (cs.drop (k+1))):=λh=>HR.out.trans (JT _ cs k hkz h)
   have HT:Hid ((cs[k].name.toList == x.toList)=true->dv=(k:Int)):=λh=>HR.out.trans (LO _ cs k hkz h)
   have HC:Hid (Calls Tryz.prog 145 #[sE cs[k], .pointer (some ⟨p,0,none⟩)] wr λe w'=>e = .returned (.bool (cs[k].name.toList == x.toList))/\Gr wr w'):=xO x p _ wr (bY hp HG.out.size) ((HG.out.cell (p:=⟨p,0,none⟩) hp).trans HP.out)
   generalize (cs[k].name.toList == x.toList)=bb at HC HS HT
   obtain ⟨tn,ca,cl,cc,ra,rl,rc⟩:=cs[k]
   clear HR
   go_wp2_with fail
   refine Calls.mono HC.out ?_
   rintro e w2 ⟨rfl,g2⟩
   have uW:=hid (HG.out.trans g2)
   clear g2
   cases bb
   ·go_wp2_with fail
    go_roundw
    case rel=>exact ⟨k+1,by omega,by go_num,uW,HS.out (by trivial)⟩
    case measure=>simp [intOf];omega
   ·go_wp2_with fail
    go_ret
    exact ⟨aP (HT.out (by trivial)).symm,uW.out⟩
  ·have HF:Hid (dv=-1):=by show _=_;rw [HR.out,Aw (by have:=HZ.out;omega)];rfl
   go_wp2_with fail
   go_ret
   exact ⟨aP HF.out.symm,HG.out⟩
theorem Ee (w:World):Calls Tryz.prog 144 #[.slice none 0 0] w λe w'=>e = .returned (.slice none 0 0)/\w'=w:=by
 have hq:=λ(w' : World)=>Lib.run_eql_slice_nil (P:=Tryz.prog) w' 113 187 none 0 0 0 0 Tryz.underlying113
 simp only [Option.isNone_none] at hq
 go_enter Tryz.func144,Tryz.ntmps144
 go_wp2_with fail
 go_ret
 exact ⟨rfl,rfl⟩
theorem Ef {b off c:Nat} {V:List TV} {w:World} (h:Lt w b off V) (hbig:V.length<=1000) :
  Calls Tryz.prog 144 #[.slice (some ⟨b,off,none⟩) V.length c] w λe w'=>∃ v,e = .returned v/\(CX w.heap.size w' v V/\v ≠ .slice none 0 0)/\RowKit.Below w.heap.size w w':=by
 obtain ⟨i0,ji,fR,jz1,fS⟩:=info_parts Fq
 have HL:=hid h
 have hbw:=h.lb
 have HN:=hid (pX V)
 have H1:=hid (JS V)
 obtain ⟨xs,hxs⟩:∃ xs,xs=fP V:=⟨_,rfl⟩
 have HX:=hid hxs
 obtain ⟨n,hn⟩:∃ n,n=V.length:=⟨_,rfl⟩
 have MN:=hid hn
 rw [<- hn] at hbig ⊢
 clear h hxs hn
 have hq:=λ(w' : World)=>Lib.run_eql_slice_nil (P:=Tryz.prog) w' 113 187 (some ⟨b,off,none⟩) n c 0 0 Tryz.underlying113
 simp only [Option.isNone_some] at hq
 have GA:=hid ((Gr.refl w).alloc (.cells #[] 187))
 have HO:Hid ((w.alloc (.cells #[] 187)).ownsRow w.heap.size 187 3 (.slice (some ⟨w.heap.size,0,none⟩) 0 0) 0 []):=⟨rfl, .inr ⟨w.heap.size,0,_,rfl,aF _,heap_alloc_new w _,fO _,fO _,rfl,rfl⟩⟩
 have HC:Hid (∀ j u,xs[j]?=some u->(w.alloc (.cells #[] 187)).cell? ((⟨b,off,none⟩:Addr).add j)=some u):=λj u hj=>by
  rw [Addr.add_lit]
  rw [HX.out] at hj
  exact (GA.out.cell (p:=⟨b,off+j,none⟩) hbw).trans (HL.out.cells j u hj)
 have H2:Hid (∀ u∈xs,u.oneCell'=true):=λu hu=>H1.out u (by rw [<- HX.out];exact hu)
 have H3:Hid (xs.length=n*3):=by show _=_;rw [HX.out,MN.out];exact HN.out
 have H4:Hid (0+n<=maxLen):=by show _<=_;unfold maxLen;omega
 have H5:Hid ((0+n)*64<=140737488355328):=by show _<=_;omega
 have H6:Hid (w.heap.size<=(w.alloc (.cells #[] 187)).heap.size):=GA.out.size
 go_enter Tryz.func144,Tryz.ntmps144
 go_wp2_with (at_builtin;go_must (refine wpList_append_own _ rfl (.tmp 5) (.tmp 6) 113 rfl w.heap.size 187 i0 (.agg #[.string ⟨#[]⟩, .slice none 0 0, .slice none 0 0]) 3 64 Tryz.underlying113 ji fR jz1 fS rfl (by decide) _ 0 _ rfl HO.out ⟨b,off,none⟩ n c xs rfl H3.out HC.out H2.out H4.out H5.out H6.out ?_))
 intro v' w3 hown hgrow hnil
 have HW:Hid (CX w.heap.size w3 v' V):=by
  show World.ownsRow _ _ _ _ _ _ _
  rw [<- MN.out,<- HX.out]
  simpa using hown
 have HB:Hid (RowKit.Below w.heap.size w w3):=⟨hgrow.os,hgrow.tape,hgrow.output,cE GA.out.size hgrow.size,λk hk=>(hgrow.block k (bY hk GA.out.size) (by intro e;simp [Value.ownBlock] at e;omega)).trans (GA.out.below.block k hk)⟩
 have Yw:=hid hnil
 clear hown hgrow hnil
 obtain ⟨va,vn,vc,rfl⟩:∃ a n c,v' = .slice a n c:=by
  obtain ⟨_,h | ⟨g',cap,cur,hv,_⟩⟩:=HW.out
  ·exact ⟨_,_,_,h.1⟩
  ·exact ⟨_,_,_,hv⟩
 go_wp2_with fail
 go_ret
 exact ⟨_,rfl,⟨HW.out,Yw.out⟩,HB.out⟩
theorem pY {w:World} {base g n cap k size:Nat} {e:TypeId} {xs:List Value} (h:w.ownsRow base e size (.slice (some ⟨g,0,none⟩) n cap) n xs) (u:Value):(w.setCell ⟨g,k,none⟩ u).ownsRow base e size (.slice (some ⟨g,0,none⟩) n cap) n (xs.set k u):=by
 obtain ⟨hl,h | ⟨g',cap',cur,hv,h0,hb,r1,r2,r3,r4⟩⟩:=h
 ·cases h.1
 ·injection hv with e1 e2 e3
  injection e1 with e1
  injection e1 with e1
  subst e1 e3
  refine ⟨by simpa using hl, .inr ⟨g,cap,cur.setIfInBounds k u,rfl,h0,?_,r1,r2,by simpa using r3,?_⟩⟩
  ·simp [World.setCell,Array.getElem?_modify,hb]
  ·rw [Array.toList_setIfInBounds,List.take_set,r4]
theorem JU {w:World} {base g n cap m size:Nat} {e:TypeId} {xs:List Value} (h:w.ownsRow base e size (.slice (some ⟨g,0,none⟩) n cap) n xs) (hm:m<=n):w.ownsRow base e size (.slice (some ⟨g,0,none⟩) m cap) m (xs.take (m*size)):=by
 obtain ⟨hl,h | ⟨g',cap',cur,hv,h0,hb,r1,r2,r3,r4⟩⟩:=h
 ·cases h.1
 ·injection hv with e1 e2 e3
  injection e1 with e1
  injection e1 with e1
  subst e1 e3
  have hms:m*size<=n*size:=Nat.mul_le_mul_right _ hm
  refine ⟨by rw [List.length_take,hl];omega, .inr ⟨g,cap,cur,rfl,h0,hb,by omega,r2,r3,?_⟩⟩
  rw [<- r4,List.take_take,Nat.min_eq_left hms]
theorem xP {base g n cap size:Nat} {e:TypeId} {xs:List Value} : ∀ (vs:List Value) (o:Nat) (w:World),w.ownsRow base e size (.slice (some ⟨g,0,none⟩) n cap) n xs->n*size<=o->(w.setCells g o vs).ownsRow base e size (.slice (some ⟨g,0,none⟩) n cap) n xs
 | [],_,_,h,_=>h
 | v::r,o,w,h,ho=>by
  have h1:=pY (k:=o) h v
  rw [List.set_eq_of_length_le (by rw [h.1];exact ho)] at h1
  exact xP r (o+1) _ h1 (by omega)
theorem q9 (g:Nat):∀ (vs:List Value) (o:Nat) (w:World),Kept g w (w.setCells g o vs)
 | [],_,w=>⟨rfl,rfl,rfl,aF _,λ_ _ _=>rfl⟩
 | v::r,o,w=>by
  have h:=q9 g r (o+1) (w.setCell ⟨g,o,none⟩ v)
  exact ⟨h.os,h.tape,h.output,by have:=h.size;simp only [World.setCell,Array.size_modify] at this;exact this,λk hk hb=>(h.block k (by simpa [World.setCell] using hk) hb).trans (dQ _ _ _ _ hb)⟩
theorem rA {w:World} {base g n cap size:Nat} {e:TypeId} {xs:List Value} (h:w.ownsRow base e size (.slice (some ⟨g,0,none⟩) n cap) n xs) (k:Nat) (hk:k<n*size):(w.cell? ⟨g,k,none⟩).isSome=true/\w.frozen? ⟨g,k,none⟩=false:=by
 obtain ⟨hl,h | ⟨g',cap',cur,hv,h0,hb,r1,r2,r3,r4⟩⟩:=h
 ·cases h.1
 ·injection hv with e1 e2 e3
  injection e1 with e1
  injection e1 with e1
  subst e1 e3
  have:n*size<=cap*size:=Nat.mul_le_mul_right _ r1
  refine ⟨?_,by simp [World.frozen?,hb]⟩
  simp [World.cell?,hb,show k<cur.size by omega]
theorem BY:∀ (U:List TV) (i:Nat) (t:TV),i<U.length->fP (U.set i t)=(((fP U).set (i*3) (.string t.name)).set (i*3+1) t.cv).set (i*3+2) t.rv
 | [],i,t,h=>by simp at h
 | u::U,0,t,_=>by simp [fP]
 | u::U,i+1,t,h=>by
  have ih:=BY U i t (by simpa using h)
  simp only [fP,List.set_cons_succ,List.flatMap_cons] at ih ⊢
  rw [ih]
  have e:(i+1)*3=(i*3)+3:=by omega
  rw [e]
  simp only [List.cons_append,List.nil_append,Nat.add_right_comm _ 3,List.set_cons_succ]
def cI (x:Sp.Bs) (V:List TV):List TV:=V.filter λt=>!(t.name.toList == x)
theorem Eg (x:Sp.Bs) (V:List TV) (j:Nat) (h:j<V.length):cI x (V.take (j+1))=cI x (V.take j)++(if V[j].name.toList == x then [] else [V[j]]):=by
 unfold cI
 rw [uV h,List.filter_append]
 congr 1
 cases hb:(V[j].name.toList == x) <;> simp [hb]
theorem pZ (x:Sp.Bs):∀ (V:List TV) (k:Nat),cR x k V=-1->cI x V=V
 | [],_,_=>rfl
 | t::V,k,h=>by
  unfold cR at h
  split at h
  ·exact absurd h (by omega)
  ·rename_i hb
   have:=pZ x V (k+1) h
   simp only [Bool.not_eq_true] at hb
   unfold cI at this ⊢
   rw [List.filter_cons,hb]
   simp only [Bool.not_false,if_true]
   rw [this]
theorem p6 (x:Sp.Bs):∀ (V:List TV) (k:Nat),cR x k V≠-1->∃ i,i<V.length/\cR x k V=((k+i:Nat):Int)/\cI x (V.take i)=V.take i/\cI x (V.take (i+1))=V.take i
 | [],_,h=>absurd rfl h
 | t::V,k,h=>by
  unfold cR at h ⊢
  by_cases hb:(t.name.toList == x)=true
  ·rw [if_pos hb]
   exact ⟨0,by simp,by simp,rfl,by unfold cI;simp at hb;simp [hb]⟩
  ·rw [if_neg hb] at h ⊢
   simp only [Bool.not_eq_true] at hb
   obtain ⟨i,h1,h2,h3,h4⟩:=p6 x V (k+1) h
   refine ⟨i+1,by simpa using h1,by rw [h2];omega,?_,?_⟩
   ·unfold cI at h3 ⊢
    rw [List.take_succ_cons,List.filter_cons,hb]
    simp only [Bool.not_false,if_true]
    rw [h3]
   ·unfold cI at h4 ⊢
    rw [List.take_succ_cons,List.filter_cons,hb]
    simp only [Bool.not_false,if_true]
    rw [h4,List.take_succ_cons]
theorem Eh {P:Program} (w:World) (t e ty:TypeId) (z:Value) (ht:P.underlying t=some (.slice e)) (hv:∀ w,(zeroValue e).run P w = .ok z w) (b o n c:Nat) (hn:0<n) (h1:∀ u∈(Builtin.zeroCells z.cells n).toList,u.oneCell'=true) (hz:z.cells.size=3)
  (hc:∀ j,j<n*3->(w.cell? ⟨b,o+j,none⟩).isSome=true) (hf:∀ j,j<n*3->w.frozen? ⟨b,o+j,none⟩=false) :
  (Builtin.clear_ #[t] ty #[.slice (some ⟨b,o,none⟩) n c]).run P w = .ok (.tuple #[]) (w.setCells b o (Builtin.zeroCells z.cells n).toList):=by
 have hl:(Builtin.zeroCells z.cells n).toList.length=n*3:=by simp [Builtin.zeroCells,hz]
 have hst:=run_storeCells_cells (P:=P) b o (Builtin.zeroCells z.cells n).toList 0 w (by rw [hl];simpa using hc) (by rw [hl];simpa using hf) h1
 simp only [Nat.add_zero] at hst
 obtain ⟨m,rfl⟩:∃ m,n=m+1:=⟨n - 1,by omega⟩
 simp [Builtin.clear_,run_underlying ht,hv,hst]
theorem GZ (n:Nat):∀ u∈(Builtin.zeroCells #[Value.string ⟨#[]⟩, .slice none 0 0, .slice none 0 0] n).toList,u.oneCell'=true:=by
 intro u hu
 simp only [Builtin.zeroCells,Array.toList_map,List.mem_map] at hu
 obtain ⟨i,_,rfl⟩:=hu
 have h3:i % 3=0\/i % 3=1\/i % 3=2:=by omega
 simp only [List.size_toArray,List.length_cons,List.length_nil,Nat.zero_add,Nat.reduceAdd]
 rcases h3 with h | h | h <;> rw [h] <;> rfl
theorem JV {w:World} {base g n cap size:Nat} {e:TypeId} {xs:List Value} (h:w.ownsRow base e size (.slice (some ⟨g,0,none⟩) n cap) n xs):g<w.heap.size:=(aB h g rfl).2
theorem Lt.owned {w:World} {base g cap:Nat} {V:List TV} (h:CX base w (.slice (some ⟨g,0,none⟩) V.length cap) V):Lt w g 0 V:=
 Lt.of (aB h g rfl).2 λj u hj=>by rw [Nat.zero_add];exact bO h j u hj
theorem BZ {base g cap p:Nat} {V:List TV} {x:ByteArray} {w:World} (h:CX base w (.slice (some ⟨g,0,none⟩) V.length cap) V) (hbig:V.length<=1000) (hp:p<w.heap.size) (hpg:p≠g) (hx:w.cell? ⟨p,0,none⟩=some (.string x)) :
  Calls Tryz.prog 143 #[.slice (some ⟨g,0,none⟩) V.length cap, .func (.func 145) #[] #[.pointer (some ⟨p,0,none⟩)]] w λe w'=>∃ v,e = .returned v/\(CX base w' v (cI x.toList V)/\v = .slice (some ⟨g,0,none⟩) (cI x.toList V).length cap)/\Kept g w w':=by
 have HI:=hid (z8 g 0 V.length cap p V x w rfl (by omega) (Lt.owned h) hp hx)
 have HO:=hid h
 have HX:=hid hx
 have hcap:V.length<=cap:=by
  obtain ⟨_,h | ⟨g',cap',cur,hv,_,_,r1,_⟩⟩:=h
  ·cases h.1
  ·injection hv with _ _ e3;omega
 clear h hx
 obtain ⟨n,hn⟩:∃ n,n=V.length:=⟨_,rfl⟩
 have HN:=hid hn
 rw [<- hn] at HI hbig hcap ⊢
 clear hn
 by_cases hm:cR x.toList 0 V=-1
 ·have HF:=hid (pZ x.toList V 0 hm)
  rw [hm] at HI
  clear hm
  go_enter Tryz.func143,Tryz.ntmps143
  go_wp2_with fail
  refine HI.out.mono ?_
  rintro e w1 ⟨rfl,g1⟩
  have G1:=hid g1
  clear g1 HI
  go_wp2_with fail
  go_ret
  refine ⟨_,rfl,⟨?_,?_⟩,Kept.gr G1.out⟩
  ·rw [HF.out,HN.out];exact aH HO.out G1.out.below
  ·rw [HF.out,<- HN.out];rfl
 ·obtain ⟨i0,hi0,e0,k0,k1⟩:=p6 x.toList V 0 hm
  rw [e0,Nat.zero_add] at HI
  rw [<- HN.out] at hi0
  have pH:=hid k0
  have bD:=hid k1
  clear hm e0 k0 k1
  go_enter Tryz.func143,Tryz.ntmps143
  go_wp2_with fail
  refine HI.out.mono ?_
  rintro e w1 ⟨rfl,g1⟩
  have G1:=hid g1
  clear g1 HI
  go_wp2_with fail
  go_loopw [5,6] (λiv jv wr=>∃ i j:Nat,∃ U:List TV,i<j/\j<=n/\iv = .int .i64 (i:Nat)/\jv = .int .i64 (j:Nat)/\Hid (U.length=n/\U.take i=cI x.toList (V.take j)/\U.drop j=V.drop j)/\Hid (wr.ownsRow base 187 3 (.slice (some ⟨g,0,none⟩) n cap) n (fP U))/\Hid (Kept g w wr)) (λ_ jv _=>n - (intOf jv).toNat)
  case atStart=>
   refine ⟨i0,i0+1,V,by omega,by omega,rfl,by go_num,⟨HN.out.symm,bD.out.symm,rfl⟩,?_,Kept.gr G1.out⟩
   show World.ownsRow _ _ _ _ _ _ _
   rw [HN.out]
   exact aH HO.out G1.out.below
  case round=>
   obtain ⟨i,j,U,hij,hj,rfl,rfl,HU,HOr,fY⟩:=hrel
   by_cases hlt:j<n
   ·have SG:j<U.length:=by have:=HU.out.1;omega
    have V8:j<V.length:=by have:=HN.out;omega
    have QR:U[j]=V[j]:=by
     have h1:(U.drop j)[0]?=(V.drop j)[0]?:=by rw [HU.out.2.2]
     simpa [SG,V8] using h1
    have V9:i<U.length:=by omega
    have hgw:=JV (g:=g) (n:=n) (cap:=cap) HOr.out
    have hcell:=λd u hu=>bO (n:=n) (cap:=cap) (g:=g) HOr.out d u hu
    have hsome:=λk hk=>rA (g:=g) (n:=n) (cap:=cap) HOr.out k hk
    have c0:=hcell (j*3+0) (.string V[j].name) (by rw [jB U j 0 SG (by omega),QR];rfl)
    have c1:=hcell (j*3+1) V[j].cv (by rw [jB U j 1 SG (by omega),QR];rfl)
    have c2:=hcell (j*3+2) V[j].rv (by rw [jB U j 2 SG (by omega),QR];rfl)
    rw [Nat.add_zero] at c0
    have f0:=(hsome (i*3) (by omega)).2
    have f1:=(hsome (i*3+1) (by omega)).2
    have f2:=(hsome (i*3+2) (by omega)).2
    have s0:=(hsome (i*3) (by omega)).1
    have s1:=(hsome (i*3+1) (by omega)).1
    have s2:=(hsome (i*3+2) (by omega)).1
    clear hcell hsome
    have SH:=hid (Eg x.toList V j V8)
    have HW1:=hid (λ(W:World) (gW:Gr wr W)=>xO x p V[j] W (bY hp (cE fY.out.size gW.size)) ((gW.cell (p:=⟨p,0,none⟩) (bY hp fY.out.size)).trans ((fY.out.cell (p:=⟨p,0,none⟩) hp hpg).trans HX.out)))
    have ZU:=hid QR
    obtain ⟨t,ht⟩:∃ t,t=V[j]:=⟨_,rfl⟩
    have Wa:=hid ht
    rw [<- ht] at c0 c1 c2 HW1
    clear ht QR
    have SI:=hid (λ(b:Bool) (hb:(t.name.toList == x.toList)=b)=>hb)
    obtain ⟨o0,s0'⟩:=Option.isSome_iff_exists.1 s0
    obtain ⟨o1,s1'⟩:=Option.isSome_iff_exists.1 s1
    obtain ⟨o2,s2'⟩:=Option.isSome_iff_exists.1 s2
    clear s0 s1 s2
    obtain ⟨bb,hbb⟩:∃ bb,bb=(t.name.toList == x.toList):=⟨_,rfl⟩
    have HB:=hid hbb
    rw [<- hbb] at HW1
    clear hbb SI
    obtain ⟨tn,ca,cl,cc,ra,rl,rc⟩:=t
    simp only [TV.cv,TV.rv] at c0 c1 c2
    have GA:=hid ((Gr.refl wr).alloc (.cells #[.string tn, .slice ca cl cc, .slice ra rl rc] 187))
    go_wp2_with fail
    refine (HW1.out _ GA.out).mono ?_
    rintro e w2 ⟨rfl,g2⟩
    have b0:=(g2.cell (p:=⟨wr.heap.size,0,none⟩) (by simp)).trans (oZ wr #[.string tn, .slice ca cl cc, .slice ra rl rc] 187 0)
    have b1:=(g2.cell (p:=⟨wr.heap.size,1,none⟩) (by simp)).trans (oZ wr #[.string tn, .slice ca cl cc, .slice ra rl rc] 187 1)
    have b2:=(g2.cell (p:=⟨wr.heap.size,2,none⟩) (by simp)).trans (oZ wr #[.string tn, .slice ca cl cc, .slice ra rl rc] 187 2)
    simp only [List.getElem?_toArray,List.getElem?_cons_zero,List.getElem?_cons_succ] at b0 b1 b2
    have G2:=hid (GA.out.trans g2)
    clear g2
    have d0:=(G2.out.cell (p:=⟨g,i*3,none⟩) hgw).trans s0'
    have d1:=(G2.out.cell (p:=⟨g,i*3+1,none⟩) hgw).trans s1'
    have d2:=(G2.out.cell (p:=⟨g,i*3+2,none⟩) hgw).trans s2'
    have e0:=(G2.out.frozen (p:=⟨g,i*3,none⟩) hgw).trans f0
    have e1:=(G2.out.frozen (p:=⟨g,i*3+1,none⟩) hgw).trans f1
    have e2:=(G2.out.frozen (p:=⟨g,i*3+2,none⟩) hgw).trans f2
    clear f0 f1 f2 s0' s1' s2' c0 c1 c2
    have fN:=hid (aH HOr.out G2.out.below)
    cases bb
    ·have Uj:Hid (cI x.toList (V.take (j+1))=cI x.toList (V.take j) ++ [(⟨tn,ca,cl,cc,ra,rl,rc⟩:TV)]):=by
      show _=_
      rw [SH.out,<- Wa.out,<- HB.out]
      rfl
     clear SH HB
     go_wp2_with fail
     refine ⟨⟨_,_,_,_,_,_,_,_,_,_,_,_,_,_,_,_,_,_,_,_,_,_,_,?rel,rfl⟩,?measure⟩
     case rel=>
      refine ⟨i+1,j+1,U.set i ⟨tn,ca,cl,cc,ra,rl,rc⟩,by omega,by omega,by go_num,by go_num,⟨by simp [HU.out.1],?_,?_⟩,?_,?_⟩
      ·rw [Uj.out,<- HU.out.2.1,uV (by simpa using V9),List.getElem_set_self,List.take_set_of_le (aF _)]
      ·rw [List.drop_set_of_lt (by omega),<- List.drop_drop,<- List.drop_drop,HU.out.2.2]
      ·show World.ownsRow _ _ _ _ _ _ _
       rw [BY U i _ V9]
       exact pY (pY (pY fN.out _) _) _
      ·have:=fY.out
       have g2:=G2.out
       exact ⟨g2.below.os.trans this.os,g2.below.tape.trans this.tape,g2.below.output.trans this.output,by have:=this.size;have:=g2.size;simp [World.setCell];omega,λk hk hb=>((dQ _ _ _ _ hb).trans ((dQ _ _ _ _ hb).trans (dQ _ _ _ _ hb))).trans ((g2.below.block k (bY hk this.size)).trans (this.block k hk hb))⟩
     case measure=>simp [intOf];omega
    ·have Uj:Hid (cI x.toList (V.take (j+1))=cI x.toList (V.take j)):=by
      show _=_
      rw [SH.out,<- Wa.out,<- HB.out]
      simp
     clear SH HB
     go_wp2_with fail
     refine ⟨⟨_,_,_,_,_,_,_,_,_,_,_,_,_,_,_,_,_,_,_,_,_,_,_,?rel,rfl⟩,?measure⟩
     case rel=>
      refine ⟨i,j+1,U,by omega,by omega,rfl,by go_num,⟨HU.out.1,by rw [Uj.out];exact HU.out.2.1,?_⟩,fN,?_⟩
      ·rw [<- List.drop_drop,<- List.drop_drop,HU.out.2.2]
      ·have:=fY.out
       have g2:=G2.out
       exact ⟨g2.below.os.trans this.os,g2.below.tape.trans this.tape,g2.below.output.trans this.output,cE this.size g2.size,λk hk hb=>(g2.below.block k (bY hk this.size)).trans (this.block k hk hb)⟩
     case measure=>simp [intOf];omega
   ·obtain rfl:j=n:=by omega
    have hzv:∀ w' : World,(zeroValue 187).run Tryz.prog w' = .ok (.agg #[.string ⟨#[]⟩, .slice none 0 0, .slice none 0 0]) w':=λw'=>by go_simp
    have hcl:=λty=>Eh (P:=Tryz.prog) wr 113 187 ty (.agg #[.string ⟨#[]⟩, .slice none 0 0, .slice none 0 0]) Tryz.underlying113 hzv g (i*3) (j - i) (cap - i) (by omega) (GZ _) rfl (λq hq=>(rA HOr.out (i*3+q) (by omega)).1) (λq hq=>(rA HOr.out (i*3+q) (by omega)).2)
    clear hzv
    generalize (Builtin.zeroCells (Value.agg #[Value.string ⟨#[]⟩, .slice none 0 0, .slice none 0 0]).cells (j - i)).toList=Z at hcl
    have jG:=hid (xP Z (i*3) wr (JU HOr.out (Nat.le_of_lt hij)) (aF _))
    have bH:=hid (q9 g Z (i*3) wr)
    have HE:Hid ((fP U).take (i*3)=fP (cI x.toList V)/\(cI x.toList V).length=i):=by
     have h1:=HU.out.2.1
     rw [HN.out,List.take_length] at h1
     have h2:U=U.take i++U.drop i:=(List.take_append_drop i U).symm
     have h3:=HU.out.1
     refine ⟨?_,?_⟩
     ·rw [<- h1]
      conv=>lhs;rw [h2,BX]
      rw [List.take_append_of_le_length (by rw [pX,List.length_take];omega),sD (by rw [pX,List.length_take];omega)]
     ·rw [<- h1,List.length_take];have:=HU.out.1;omega
    generalize hwz:wr.setCells g (i*3) Z=wz at hcl jG bH
    clear hwz
    go_wp2_with fail
    go_ret
    refine ⟨_,rfl,⟨?_,?_⟩,?_⟩
    ·show World.ownsRow _ _ _ _ _ _ _
     rw [HE.out.2,<- HE.out.1]
     exact jG.out
    ·rw [HE.out.2];rfl
    ·have h1:=fY.out
     have h2:=bH.out
     exact ⟨h2.os.trans h1.os,h2.tape.trans h1.tape,h2.output.trans h1.output,cE h1.size h2.size,λk hk hb=>(h2.block k (bY hk h1.size) hb).trans (h1.block k hk hb)⟩
end Go.Proofs.YtgnncnhkgmhngaaGreatDoor
