import Derived.Test.YtgnncnhkgmhngaaGreatDoorJ39
set_option maxHeartbeats 4000000
set_option maxRecDepth 100000
namespace Go.Proofs.YtgnncnhkgmhngaaGreatDoor
open Go.RowKit Go.Sort
namespace Sp
def TOk (T:List Tb):Prop:=∀ t∈T,∀ r∈t.rows,List.length r=t.cols.length
theorem findTb_mem {x:Bs} : ∀ {T:List Tb} {t:Tb},findTb x T=some t→t∈T
 | [],_,h=>by simp [findTb] at h
 | u::T,t,h=>by
  rw [findTb] at h
  split at h
  ·injection h with h;rw [h];exact List.mem_cons_self
  ·exact List.mem_cons_of_mem _ (findTb_mem h)
def cellsOf (T:List Tb) (ex:Nd) (tk:List Row) (env:List (List Row)):Row:=match ex with | .none=>tk.flatten | _=>(rn T ex (tk::env)).headD []
theorem rn_sel (T:List Tb) (st:Nat) (ex:Nd) (src:List (Nm×Nm)) (wh:Nd) (env:List (List Row)):rn T (.sel false st ex src wh) env=sortR ((prods (rowsOf T src)).flatMap fun tk=>if holds T wh (tk::env) then [cellsOf T ex tk env] else []):=by
 simp only [rn,Bool.false_eq_true,if_false]
 congr 2
 funext tk
 cases wh <;> rfl
theorem taken_ok {T:List Tb} (hT:TOk T) {src:List (Nm×Nm)} (hf:∀ x∈src,(findTb x.1.1 T).isSome=true) {tk:List Row} (htk:tk∈prods (rowsOf T src)):tk.length=src.length∧∀ i,(h:i<tk.length)→(h' : i<src.length)→tk[i].length=((findTb src[i].1.1 T).getD noTb).cols.length:=by
 obtain ⟨h1,h2⟩:=prods_mem htk
 have hl:(rowsOf T src).length=src.length:=by simp [rowsOf]
 refine ⟨h1.trans hl,fun i hi hi'=>?_⟩
 have hm:=h2 i hi (by omega)
 simp only [rowsOf,List.getElem_map] at hm
 have hs:=hf _ (List.getElem_mem hi')
 obtain ⟨t,ht⟩:=Option.isSome_iff_exists.1 hs
 rw [ht] at hm ⊢
 exact hT t (findTb_mem ht) _ hm
theorem eo_sel {T:List Tb} (hT:TOk T) {src:List (Nm×Nm)} (hf:∀ x∈src,(findTb x.1.1 T).isSome=true) (hc:∀ t∈T,t.cols.length≤50) (hs:src.length≤1000) {env:List (List Row)} {lvs:List Lv} (he:Eo env lvs) (hl:env.length<100000) {tk:List Row} (htk:tk∈prods (rowsOf T src)):Eo (tk::env) (lvT T src::lvs):=by
 obtain ⟨h1,h2⟩:=taken_ok hT hf htk
 refine ⟨by simp;omega,fun o lv ho=>?_⟩
 match o with
 | 0=>
  simp only [List.getElem?_cons_zero,Option.some.injEq] at ho
  subst ho
  refine ⟨tk,rfl,by omega,fun i x hx=>?_⟩
  have hi:i<src.length:=by
   have:=(List.getElem?_eq_some_iff.1 hx).1
   simpa [lvT] using this
  have hx' : x=(src[i].2.1,(findTb src[i].1.1 T).getD noTb):=by
   have:=(List.getElem?_eq_some_iff.1 hx).2
   simpa [lvT] using this.symm
  have hit:i<tk.length:=by omega
  refine ⟨tk[i],List.getElem?_eq_getElem hit,?_,?_⟩
  ·rw [h2 i hit hi]
   obtain ⟨t,ht⟩:=Option.isSome_iff_exists.1 (hf _ (List.getElem_mem hi))
   rw [ht]
   have:=hc t (findTb_mem ht)
   simp only [Option.getD_some]
   omega
  ·rw [hx',h2 i hit hi]
   exact Nat.le_refl _
 | o+1=>
  simp only [List.getElem?_cons_succ] at ho
  obtain ⟨tk',e,r⟩:=he.at_ o lv ho
  exact ⟨tk',by simpa using e,r⟩
end Sp
theorem ta_rs (v:Option Addr) (w:World):Sem.run Tryz.prog (Instr.typeAssert (.iface 278 (.pointer v)) 179 278 true) w = .ok (.tuple #[.pointer v, .bool true]) w:=by kernel_rfl
theorem rquery_sel {b:Nat} {ia:Option Addr} {w:World} {P:Value→World→Prop} (hC:Calls Tryz.prog 154 #[.pointer (some ⟨b,0,none⟩), .pointer ia] w fun r w'=>∃ v,r = .returned v∧P v w') :
  Calls Tryz.prog 93 #[.iface 278 (.pointer (some ⟨b,0,none⟩)), .pointer ia] w fun r w'=>∃ v,r = .returned v∧P v w':=by
 have HC:=hid hC
 have t1:=ta_rs
 clear hC
 go_enter Tryz.func93,Tryz.ntmps93
 go_wp2_with fail
 refine HC.out.mono ?_
 rintro e w1 ⟨v,rfl,h⟩
 have H:=hid h
 clear h
 go_wp2_with fail
 exact bodyPost_ret (v:=v) (by simp [results,Tryz.results93,go_sem]) rfl ⟨v,rfl,H.out⟩
theorem rq_sel {k N lo hi st:Nat} {T:List Sp.Tb} {ex wh:Sp.Nd} {src:List (Sp.Nm×Sp.Nm)} {tv qv iv:Value} {env:List (List Sp.Row)} {lvs:List Sp.Lv} {w:World} (wd:Nat)
  (hN:N≤90000) (hw:Sp.wf N (.sel false st ex src wh) .query) (hp:Sp.plain (.sel false st ex src wh)=true) (hb:Sp.bd T (.sel false st ex src wh) lvs) (ht:Tbs k w T tv) (hT:Sp.TOk T) (hTc:∀ t∈T,t.cols.length≤50)
  (ha:Arn w tv env iv) (he:Sp.Eo env lvs) (hel:env.length<100000) (hr:Rp w (.sel false st ex src wh) lo hi qv) (hh:hi≤w.heap.size) (hs:src ≠ []) (hsl:src.length≤1000) (hpl:(prods (Sp.rowsOf T src)).length≤1000)
  (hwd:∀ tk∈prods (Sp.rowsOf T src),(Sp.cellsOf T ex tk env).length=wd) (hwb:wd≤100000) :
  Calls Tryz.prog 93 #[qv,iv] w fun r w'=>∃ v,r = .returned v∧RsO w.heap.size wd w' v (Sp.rn T (.sel false st ex src wh) env)∧Gr w w':=by
 apply calls_grV
 obtain ⟨b,xv,fv,wv,m1,m2,m3,m4,rfl,l1,l2,hS,hS2,hA,hI,hX,hF,hn,hR⟩:=hr
 obtain ⟨_,hex,_,hwh⟩:=hw
 obtain ⟨hf,_,hbe,hbw⟩:=hb
 simp only [Sp.plain,Bool.and_eq_true] at hp
 unfold Sub at hS hS2
 obtain ⟨blk,c,rfl,_,q1,q2,q3,q4⟩:∃ blk c,fv = .slice (some ⟨blk,0,none⟩) src.length c∧src ≠ []∧m2≤blk∧blk<m3∧blk<w.heap.size∧Srcs w blk 0 src:=by
  rcases hF with ⟨e,_⟩ | h
  ·exact absurd e hs
  ·exact h
 obtain ⟨ib,rfl,hib,_⟩:=ha.ptr
 rw [Sp.rn_sel]
 have hEo:=fun tk htk=>Sp.eo_sel (tk:=tk) hT hf hTc hsl he hel htk
 have hH:=rh_main T N hN wh hp.2 hwh
 refine rquery_sel (callsIn_wide.1 (rselected_in 6 (Nat.le_refl _) (fun tk=>Sp.holds T wh (tk::env)) (fun tk=>Sp.cellsOf T ex tk env) hA ha ht q4 q3 hs hsl hf hpl ?_ ?_ hwd hwb))
 ·intro tk htk A iv' hbA haA
  exact hH m3 m4 tv wv iv' (tk::env) (Sp.lvT T src::lvs) A haA (hEo tk htk) hbw (hR.belN hbA (by omega) hn) (by have:=hbA.size;omega)
 ·intro tk htk A iv' hbA haA
  have hA' : At A b [.bool false, .int .i64 (st:Int),xv, .slice (some ⟨blk,0,none⟩) src.length c,wv]:=hA.same hbA.size (hbA.block b (by omega))
  obtain ⟨hl,hcw⟩:=Sp.taken_ok hT hf htk
  rcases hX with ⟨rfl,rfl⟩ | ⟨hne,hX⟩
  ·refine (rcells_star hA' haA ?_ (by omega) ?_)
   ·intro e
    rw [e] at hl
    exact hs (List.eq_nil_of_length_eq_zero hl.symm)
   ·have:=hwd tk htk
    simp only [Sp.cellsOf] at this
    omega
  ·have hex' : 1≤ex.len∧ex.len≤N∧Sp.wf N ex .list:=by
    rcases hex with h | h
    ·exact absurd h hne
    ·exact h
   obtain ⟨h1,h2,h3⟩:=hex'
   obtain ⟨e1,e2,e3⟩:=els_lapp N ex h3
   have hval:Sp.cellsOf T ex tk env=ex.els.map fun n=>Sp.val (Sp.rn T n (tk::env)):=by
    have:Sp.cellsOf T ex tk env=(Sp.rn T ex (tk::env)).headD []:=by
     cases ex <;> first | rfl | exact absurd rfl hne
    rw [this,e1,Sp.rn_list]
    have e4:(Sp.lapp ex.els .nil).els=ex.els:=by rw [← e1]
    rw [e4];rfl
   have hbe':=Sp.bd_els ex hbe
   have hXx:=(rx_main T N hN ex hp.1).2 h3
   rw [hval]
   generalize hns:ex.els=ns at *
   rw [e1] at hX
   obtain ⟨g,off,n,cp,rfl,hbl⟩:∃ g off n c,xv = .slice (some ⟨g,off,none⟩) n c∧g<w.heap.size:=by
    cases ns with
    | nil=>simp at e2;omega
    | cons n0 ns'=>
     simp only [Sp.lapp,List.foldr_cons] at hX
     obtain ⟨blk,off,n,c,v,m1,m2,e,hl,_⟩:=hX
     exact ⟨blk,off,_,c,e,hl⟩
   obtain ⟨hnn,xs,hel',hxs⟩:=Rp.els ns m1 m2 g off n cp hX
   obtain ⟨ib',rfl,_,_⟩:=haA.ptr
   have hlen:(ns.map fun n=>Sp.val (Sp.rn T n (tk::env))).length=n:=by simp [hnn]
   refine rcells_exprs (g:=g) (off:=off) (cap:=cp) (by rw [hlen];exact hA') (by rw [hlen];omega) (Nat.lt_of_lt_of_le hbl hbA.size) (fun i hi'=>?_)
   rw [hlen] at hi'
   have hin:i<ns.length:=by omega
   have hsp:ns=ns.take i++ns[i]::ns.drop (i+1):=by rw [← List.drop_eq_getElem_cons hin,List.take_append_drop]
   rw [hsp] at hel'
   obtain ⟨p1,p2,x,exx,r1,r2,r3,r4,r5,r6,_⟩:=hel'.upd
   rw [List.length_take,Nat.min_eq_left (by omega)] at exx
   obtain ⟨tt,pp,rfl⟩:=r6.ifc (e3 _ (List.getElem_mem hin))
   refine ⟨tt,_,(hbA.cell (p:=⟨g,off+i,none⟩) hbl).trans (hxs i _ exx),fun W hbW=>?_⟩
   have hbW' : RowKit.Below w.heap.size w W:=hbA.trans (hbW.mono hbA.size)
   have:=hXx ns[i] (List.getElem_mem hin) p1 p2 tv _ _ (tk::env) (Sp.lvT T src::lvs) W (haA.bel hbW) (hEo tk htk) (hbe' _ (List.getElem_mem hin)) (r6.belN hbW' (by omega) r5) (by have:=hbW'.size;omega)
   simpa using this
structure Tb1C (C:Nat→Prop) (w:World) (t:Sp.Tb) (tv:TV):Prop where
 name:tv.name=bz t.name
 cols:(t.cols = []∧tv.ca=none∧tv.cl=0∧tv.cc=0)∨∃ b off,tv.ca=some ⟨b,off,none⟩∧tv.cl=t.cols.length∧C b∧Cols w b off (t.cols.map fun x=>(bz x.1,x.2))
 colN:t.cols.length≤50
 rl:tv.rl=t.rows.length
 rows:(t.rows = []∧tv.ra=none∧tv.rc=0)∨∃ rb ro,tv.ra=some ⟨rb,ro,none⟩∧C rb∧rb<w.heap.size∧∀ i,(h:i<t.rows.length)→∃ v,w.cell? ⟨rb,ro+i,none⟩=some v∧RwC C w v t.rows[i]
 rowN:t.rows.length≤1000
theorem Cols.blk {w w' : World} {b off:Nat} {cs:List (ByteArray×Int)} (h:Cols w b off cs) (hs:w.heap.size≤w'.heap.size) (e:w'.heap[b]?=w.heap[b]?):Cols w' b off cs:=by
 have hc:∀ o,w'.cell? ⟨b,o,none⟩=w.cell? ⟨b,o,none⟩:=fun o=>World.cell?_of_block (w:=w) (a:=⟨b,o,none⟩) e
 exact ⟨Nat.lt_of_lt_of_le h.lb hs,fun j hj=>(hc _).trans (h.n j hj),fun j hj=>(hc _).trans (h.t j hj)⟩
theorem Lt.blk {w w' : World} {b off:Nat} {ts:List TV} (h:Lt w b off ts) (hs:w.heap.size≤w'.heap.size) (e:w'.heap[b]?=w.heap[b]?):Lt w' b off ts:=by
 have hc:∀ o,w'.cell? ⟨b,o,none⟩=w.cell? ⟨b,o,none⟩:=fun o=>World.cell?_of_block (w:=w) (a:=⟨b,o,none⟩) e
 exact ⟨Nat.lt_of_lt_of_le h.lb hs,fun j hj=>(hc _).trans (h.n j hj),fun j hj=>(hc _).trans (h.c j hj),fun j hj=>(hc _).trans (h.r j hj)⟩
theorem Hv.blk' {w w' : World} {b off:Nat} {vs:List Sv.Val} (h:Hv w b off vs) (hs:w.heap.size≤w'.heap.size) (e:w'.heap[b]?=w.heap[b]?):Hv w' b off vs:=by
 have hc:∀ o,w'.cell? ⟨b,o,none⟩=w.cell? ⟨b,o,none⟩:=fun o=>World.cell?_of_block (w:=w) (a:=⟨b,o,none⟩) e
 exact ⟨Nat.lt_of_lt_of_le h.lb hs,fun j hj=>(hc _).trans (h.k j hj),fun j hj=>(hc _).trans (h.n j hj),fun j hj=>(hc _).trans (h.s j hj)⟩
theorem RwC.blk' {C:Nat→Prop} {w w' : World} {v:Value} {r:List Sv.Val} (h:RwC C w v r) (hs:w.heap.size≤w'.heap.size) (e:∀ b,C b→b<w.heap.size→w'.heap[b]?=w.heap[b]?):RwC C w' v r:=by
 rcases h with h | ⟨b,o,c,ev,hb,hv⟩
 ·exact .inl h
 ·exact .inr ⟨b,o,c,ev,hb,hv.blk' hs (e b hb hv.lb)⟩
theorem Tb1C.blk {C:Nat→Prop} {w w' : World} {t:Sp.Tb} {tv:TV} (h:Tb1C C w t tv) (hs:w.heap.size≤w'.heap.size) (e:∀ b,C b→b<w.heap.size→w'.heap[b]?=w.heap[b]?):Tb1C C w' t tv:=by
 refine ⟨h.name,?_,h.colN,h.rl,?_,h.rowN⟩
 ·rcases h.cols with h | ⟨b,off,h1,h2,h3,h4⟩
  ·exact .inl h
  ·exact .inr ⟨b,off,h1,h2,h3,h4.blk hs (e b h3 h4.lb)⟩
 ·rcases h.rows with h | ⟨b,off,h1,h2,h3,h4⟩
  ·exact .inl h
  ·refine .inr ⟨b,off,h1,h2,by omega,fun i hi=>?_⟩
   obtain ⟨v,p1,p2⟩:=h4 i hi
   exact ⟨v,(World.cell?_of_block (w:=w) (a:=⟨b,off+i,none⟩) (e b h2 h3)).trans p1,p2.blk' hs e⟩
theorem Tb1C.tb1 {C:Nat→Prop} {w:World} {t:Sp.Tb} {tv:TV} (h:Tb1C C w t tv):Tb1 w.heap.size w t tv:=by
 refine ⟨h.name,?_,h.colN,h.rl,?_,h.rowN⟩
 ·rcases h.cols with h | ⟨b,off,h1,h2,h3,h4⟩
  ·exact .inl h
  ·exact .inr ⟨b,off,h1,h2,h4.lb,h4⟩
 ·rcases h.rows with h | ⟨b,off,h1,h2,h3,h4⟩
  ·exact .inl h
  ·refine .inr ⟨b,off,h1,h3,fun i hi=>?_⟩
   obtain ⟨v,p1,p2⟩:=h4 i hi
   exact ⟨v,p1,p2.rw⟩
theorem Tb1C.lrs {C:Nat→Prop} {w:World} {t:Sp.Tb} {tv:TV} (h:Tb1C C w t tv):Lrs C w tv.rv t.rows:=by
 rcases h.rows with ⟨e,e1,e2⟩ | ⟨rb,ro,e1,hC,hlt,hr⟩
 ·have:=h.rl
  rw [e] at this ⊢
  exact ⟨[], .inl ⟨by simp [TV.rv,e1,e2,this],rfl⟩,trivial⟩
 ·obtain ⟨xs,h1,h2⟩:=choose_list (fun i v=>∃ h:i<t.rows.length,w.cell? ⟨rb,ro+i,none⟩=some v∧RwC C w v t.rows[i]) t.rows.length (fun i hi=>by obtain ⟨v,hv1,hv2⟩:=hr i hi;exact ⟨v,hi,hv1,hv2⟩)
  refine ⟨xs, .inr ⟨rb,ro,tv.rc,?_,hlt,fun j hj=>(h2 j hj).2.1⟩,Al.of h1 fun i hi hi'=>(h2 i hi).2.2⟩
  simp [TV.rv,e1,h.rl,h1]
def TbsC (C:Nat→Prop) (w:World) (T:List Sp.Tb) (v:Value):Prop:=
 T.length≤900∧((T = []∧v = .slice none 0 0)∨∃ b off c V,v = .slice (some ⟨b,off,none⟩) T.length c∧C b∧Lt w b off V∧Al (Tb1C C w) T V)
theorem tbl_of_al {k:Nat} {w:World} : ∀ {T:List Sp.Tb} {V:List TV},Al (Tb1 k w) T V→Tbl k w T V
 | [], [],_=>trivial
 | _::_,_::_,h=>⟨h.1,tbl_of_al h.2⟩
 | [],_::_,h=>h.elim
 | _::_, [],h=>h.elim
theorem TbsC.tbs {C:Nat→Prop} {w:World} {T:List Sp.Tb} {v:Value} (h:TbsC C w T v):Tbs w.heap.size w T v:=by
 refine ⟨by have:=h.1;omega,Nat.le_refl _,?_⟩
 rcases h.2 with h | ⟨b,off,c,V,e,_,hl,ha⟩
 ·exact .inl h
 ·exact .inr ⟨b,off,c,V,e,hl.lb,hl,tbl_of_al (ha.mono fun t V h=>h.tb1)⟩
theorem TbsC.blk {C:Nat→Prop} {w w' : World} {T:List Sp.Tb} {v:Value} (h:TbsC C w T v) (hs:w.heap.size≤w'.heap.size) (e:∀ b,C b→b<w.heap.size→w'.heap[b]?=w.heap[b]?):TbsC C w' T v:=by
 refine ⟨h.1,?_⟩
 rcases h.2 with h | ⟨b,off,c,V,ev,hC,hl,ha⟩
 ·exact .inl h
 ·exact .inr ⟨b,off,c,V,ev,hC,hl.blk hs (e b hC hl.lb),ha.mono fun t V h=>h.blk hs e⟩
theorem TbsC.bel {C:Nat→Prop} {w w' : World} {T:List Sp.Tb} {v:Value} (h:TbsC C w T v) (g:RowKit.Below w.heap.size w w'):TbsC C w' T v:=h.blk g.size fun b _ hb=>g.block b hb
theorem Tb1C.bel {C:Nat→Prop} {w w' : World} {t:Sp.Tb} {tv:TV} (h:Tb1C C w t tv) (g:RowKit.Below w.heap.size w w'):Tb1C C w' t tv:=h.blk g.size fun b _ hb=>g.block b hb
theorem TbsC.ltv {C:Nat→Prop} {w:World} {T:List Sp.Tb} {v:Value} (h:TbsC C w T v):∃ V,LtV w v V∧Al (Tb1C C w) T V∧V.length≤900:=by
 rcases h.2 with ⟨rfl,rfl⟩ | ⟨b,off,c,V,e,hC,hl,ha⟩
 ·exact ⟨[], .inl ⟨rfl,rfl⟩,trivial,by simp⟩
 ·have hlen:=ha.len
  exact ⟨V, .inr ⟨b,off,c,by rw [e,hlen],hl⟩,ha,by have:=h.1;omega⟩
theorem keptT_al {C:Nat→Prop} {w:World} (x:Sp.Bs):∀ {T:List Sp.Tb} {V:List TV},Al (Tb1C C w) T V→Al (Tb1C C w) (Sp.without x T) (keptT x V)
 | [], [],_=>trivial
 | t::T,v::V,h=>by
  have ih:=keptT_al x h.2
  have e:v.name.toList=t.name:=by rw [h.1.name,bz_list]
  unfold Sp.without keptT at ih ⊢
  rw [List.filter_cons,List.filter_cons,e]
  cases hb:(t.name == x)
  ·exact ⟨h.1,ih⟩
  ·exact ih
 | [],_::_,h=>h.elim
 | _::_, [],h=>h.elim
theorem TbsC.owned {C:Nat→Prop} {base:Nat} {w:World} {T:List Sp.Tb} {V:List TV} {v:Value} (o:OwT base w v V) (hC:∀ b,base≤b→C b) (ha:Al (Tb1C C w) T V) (hl:V.length≤900):TbsC C w T v:=by
 have hlen:=ha.len
 have ho:=o
 have hb:=ownsV_block o
 refine ⟨by omega,?_⟩
 obtain ⟨h1,h | ⟨g,cap,cur,hv,h0,r⟩⟩:=o
 ·have hV:V = []:=List.eq_nil_of_length_eq_zero h.2
  subst hV
  exact .inl ⟨List.eq_nil_of_length_eq_zero (by simpa using hlen),h.1⟩
 ·subst hv
  exact .inr ⟨g,0,cap,V,by rw [hlen],hC g h0,Lt.owned ho,ha⟩
theorem Tb1C.to {C D:Nat→Prop} {w:World} {t:Sp.Tb} {tv:TV} (h:Tb1C C w t tv) (hd:∀ b,C b→b<w.heap.size→D b):Tb1C D w t tv:=by
 refine ⟨h.name,?_,h.colN,h.rl,?_,h.rowN⟩
 ·rcases h.cols with h | ⟨b,off,h1,h2,h3,h4⟩
  ·exact .inl h
  ·exact .inr ⟨b,off,h1,h2,hd b h3 h4.lb,h4⟩
 ·rcases h.rows with h | ⟨b,off,h1,h2,h3,h4⟩
  ·exact .inl h
  ·refine .inr ⟨b,off,h1,hd b h2 h3,h3,fun i hi=>?_⟩
   obtain ⟨v,p1,p2⟩:=h4 i hi
   exact ⟨v,p1,p2.to hd⟩
theorem Tb1C.having {D:Nat→Prop} {base:Nat} {w:World} {t:Sp.Tb} {V:TV} {v:Value} {xs:List Value} {rows:List (List Sv.Val)} (h:Tb1C D w t V) (o:w.ownsRow base 41 1 v xs.length xs) (hnil:xs = []→v = .slice none 0 0) (ha:Al (RwC D w) xs rows) (hD:∀ b,base≤b→D b) (hb:rows.length≤1000) :
  ∃ va vc,v = .slice va xs.length vc∧Tb1C D w { t with rows:=rows } ⟨V.name,V.ca,V.cl,V.cc,va,xs.length,vc⟩:=by
 have hbk:=ownsV_block o
 have hlen:=ha.len
 by_cases hx:xs = []
 ·refine ⟨none,0,by rw [hnil hx,hx];rfl,h.name,h.cols,h.colN,hlen, .inl ⟨List.eq_nil_of_length_eq_zero (by rw [← hlen,hx];rfl),rfl,rfl⟩,hb⟩
 ·have ho:=o
  obtain ⟨_,h' | ⟨g,cap,cur,hv,h0,hcc,r⟩⟩:=o
  ·exact absurd (List.eq_nil_of_length_eq_zero h'.2) hx
  ·subst hv
   refine ⟨_,_,rfl,h.name,h.cols,h.colN,hlen, .inr ⟨g,0,rfl,hD g h0,(hbk g rfl).2,fun i hi=>?_⟩,hb⟩
   have hix:i<xs.length:=by rw [hlen];exact hi
   exact ⟨xs[i],by rw [Nat.zero_add];exact owns_cells ho i _ (List.getElem?_eq_getElem hix),ha.get i hix hi⟩
theorem having_any {C:Nat→Prop} {b off n c:Nat} {t:Sp.Tb} {V:TV} {vs:List Value} {rss:List (List (List Sv.Val))} {w:World} (hC:∀ j,w.heap.size≤j→C j) (hV:Tb1C C w t V) (hz:n=vs.length) (hz2:rss.length=vs.length) (hb:b<w.heap.size) (hc:∀ j,(h:j<vs.length)→w.cell? ⟨b,off+j,none⟩=some vs[j])
  (hs:∀ j,(h:j<vs.length)→Lrs C w vs[j] (rss[j]'(by omega))) (hbig:rss.flatten.length≤1000) (hn:n≤1000) :
  Calls Tryz.prog 148 #[enT V, .slice (some ⟨b,off,none⟩) n c] w fun e w'=>∃ v,e = .returned v∧(∃ V',v=enT V'∧Tb1C C w' { t with rows:=rss.flatten } V')∧RowKit.Below w.heap.size w w':=by
 have HV:Hid (Tb1C (fun b=>(C b∧b<w.heap.size)∨w.heap.size+2≤b) w t V):=hV.to fun b h1 h2 => .inl ⟨h1,h2⟩
 have GA:=hid (((Gr.refl w).alloc (.cells #[.string V.name,V.cv,V.rv] 187)).alloc (.cells #[.string ⟨#[]⟩, .slice none 0 0, .slice none 0 0] 187))
 have HCc:=hid (concat_rows (C:=fun b=>(C b∧b<w.heap.size)∨w.heap.size+2≤b) (c:=c) (w:=((w.alloc (.cells #[.string V.name,V.cv,V.rv] 187)).alloc (.cells #[.string ⟨#[]⟩, .slice none 0 0, .slice none 0 0] 187))) hz hz2 (Nat.lt_of_lt_of_le hb GA.out.size) (fun j h=>(GA.out.cell (p:=⟨b,off+j,none⟩) hb).trans (hc j h)) (fun j h=>((hs j h).to fun b h1 h2 => .inl ⟨h1,h2⟩).bel GA.out.below) (by omega) hn)
 have HBg:=hid hbig
 have HCC:=hid hC
 clear hz hz2 hb hc hs hV hbig hC
 obtain ⟨vn,ca,cl,cc,ra,rl,rc⟩:=V
 have HF3:Hid (B3 ((w.alloc (.cells #[.string vn, .slice ca cl cc, .slice ra rl rc] 187)).alloc (.cells #[.string ⟨#[]⟩, .slice none 0 0, .slice none 0 0] 187)) w.heap.size (.string vn) (.slice ca cl cc) (.slice ra rl rc)):=(B3.new w (.string vn) (.slice ca cl cc) (.slice ra rl rc) 187).gr ((Gr.refl _).alloc _)
 have HG3:Hid (B3 ((w.alloc (.cells #[.string vn, .slice ca cl cc, .slice ra rl rc] 187)).alloc (.cells #[.string ⟨#[]⟩, .slice none 0 0, .slice none 0 0] 187)) (w.heap.size+1) (.string ⟨#[]⟩) (.slice none 0 0) (.slice none 0 0)):=by
  have h:=B3.new (w.alloc (.cells #[.string vn, .slice ca cl cc, .slice ra rl rc] 187)) (.string ⟨#[]⟩) (.slice none 0 0) (.slice none 0 0) 187
  rw [World.size_alloc] at h
  exact h
 go_enter Tryz.func148,Tryz.ntmps148
 go_wp2_with fail
 refine HCc.out.mono ?_
 rintro e w1 ⟨v,rfl,⟨xs,o,hnil,ha⟩,hb1⟩
 have HB1:Hid (RowKit.Below w.heap.size w w1):=GA.out.below.trans (hb1.mono GA.out.size)
 obtain ⟨va,vc,rfl,hT⟩:=(HV.out.bel HB1.out).having o hnil ha (fun b hb => .inr (by simpa using hb)) HBg.out
 have HT:=hid hT
 have HF4:=hid (HF3.out.same hb1.size (hb1.block _ (by simp;omega)))
 have HG4:=hid (HG3.out.same hb1.size (hb1.block _ (by simp)))
 obtain ⟨q0,q1,q2,q3,q4,q5,q6⟩:=HF4.out
 obtain ⟨r0,r1,r2,r3,r4,r5,r6⟩:=HG4.out
 clear hT o hnil ha hb1 HCc
 go_wp2_with fail
 refine bodyPost_ret (v := .agg #[.string vn, .slice ca cl cc, .slice va xs.length vc]) (by simp [results,Tryz.results148,go_sem,r1,r2,r3]) rfl ⟨_,rfl,⟨⟨vn,ca,cl,cc,va,xs.length,vc⟩,rfl,?_⟩,?_⟩
 ·refine (HT.out.blk (by simp [World.setCell]) fun b hb _=>?_).to fun b hb _=>?_
  ·have h1:b≠w.heap.size:=by rcases hb with hb | hb <;> omega
   have h2:b≠w.heap.size+1:=by rcases hb with hb | hb <;> omega
   exact (Below.heap_setCell _ _ _ _ h2).trans ((Below.heap_setCell _ _ _ _ h2).trans ((Below.heap_setCell _ _ _ _ h2).trans (Below.heap_setCell _ _ _ _ h1)))
  ·rcases hb with hb | hb
   ·exact hb.1
   ·exact HCC.out b (by omega)
 ·exact (((HB1.out.setCell (p:=⟨w.heap.size,2,none⟩) (Nat.le_refl _) _).setCell (p:=⟨w.heap.size+1,0,none⟩) (Nat.le_succ _) _).setCell (p:=⟨w.heap.size+1,1,none⟩) (Nat.le_succ _) _).setCell (p:=⟨w.heap.size+1,2,none⟩) (Nat.le_succ _) _
theorem exprs_calls {T:List Sp.Tb} {N:Nat} (hN:N≤90000) {nd:Sp.Nd} (hw:Sp.wf N nd .list) (hl:1≤nd.len) (hp:Sp.plain nd=true) {lo hi:Nat} {sv:Value} {env:List (List Sp.Row)} {lvs:List Sp.Lv} {w:World} (hb:Sp.bd T nd lvs) (he:Sp.Eo env lvs) (hr:Rp w nd lo hi sv) (hh:hi≤w.heap.size) :
  ∃ g off cap,sv = .slice (some ⟨g,off,none⟩) nd.len cap∧g<w.heap.size∧((Sp.rn T nd env).headD []).length=nd.len∧∀ (W:World) (tv:Value) (ia:Option Addr),RowKit.Below w.heap.size w W→Arn W tv env (.pointer ia)→∀ i,(hi:i<((Sp.rn T nd env).headD []).length)→∃ t p,W.cell? ⟨g,off+i,none⟩=some (.iface t p)∧∀ W',RowKit.Below W.heap.size W W'→Calls Tryz.prog 194 #[.iface t p, .pointer ia] W' fun e W''=>e = .returned (enV ((Sp.rn T nd env).headD [])[i])∧Gr W' W'':=by
 obtain ⟨e1,e2,e3⟩:=els_lapp N nd hw
 have hval:(Sp.rn T nd env).headD []=nd.els.map fun n=>Sp.val (Sp.rn T n env):=by
  rw [e1,Sp.rn_list]
  have e4:(Sp.lapp nd.els .nil).els=nd.els:=by rw [← e1]
  rw [e4];rfl
 have hbe':=Sp.bd_els nd hb
 have hXx:=(rx_main T N hN nd hp).2 hw
 rw [hval]
 generalize hns:nd.els=ns at *
 rw [e1] at hr
 obtain ⟨g,off,n,cp,rfl,hbl⟩:∃ g off n c,sv = .slice (some ⟨g,off,none⟩) n c∧g<w.heap.size:=by
  cases ns with
  | nil=>simp at e2;omega
  | cons n0 ns'=>
   simp only [Sp.lapp,List.foldr_cons] at hr
   obtain ⟨blk,off,n,c,v,m1,m2,e,hl,_⟩:=hr
   exact ⟨blk,off,_,c,e,hl⟩
 obtain ⟨hnn,xs,hel',hxs⟩:=Rp.els ns lo hi g off n cp hr
 refine ⟨g,off,cp,by rw [hnn,e2],hbl,by simp [e2],fun W tv ia hbW haW i hi'=>?_⟩
 have hin:i<ns.length:=by simpa using hi'
 have hsp:ns=ns.take i++ns[i]::ns.drop (i+1):=by rw [← List.drop_eq_getElem_cons hin,List.take_append_drop]
 rw [hsp] at hel'
 obtain ⟨p1,p2,x,exx,r1,r2,r3,r4,r5,r6,_⟩:=hel'.upd
 rw [List.length_take,Nat.min_eq_left (by omega)] at exx
 obtain ⟨tt,pp,rfl⟩:=r6.ifc (e3 _ (List.getElem_mem hin))
 refine ⟨tt,_,(hbW.cell (p:=⟨g,off+i,none⟩) hbl).trans (hxs i _ exx),fun W' hbW'=>?_⟩
 have hbb:RowKit.Below w.heap.size w W':=hbW.trans (hbW'.mono hbW.size)
 have:=hXx ns[i] (List.getElem_mem hin) p1 p2 tv _ _ env lvs W' (haW.bel hbW') he (hbe' _ (List.getElem_mem hin)) (r6.belN hbb (by omega) r5) (by have:=hbb.size;omega)
 simpa using this
theorem rows_next {wr w3 w5:World} {base j vc g' c' : Nat} {va:Option Addr} {vs:List Value} {rows:List (List Sv.Val)} {u:Value} {r:List Sv.Val} (o:wr.ownsRow base 41 1 (.slice va j vc) j vs) (a:Al (RwC (fun b=>base≤b∧some b≠(Value.slice va j vc).ownBlock) wr) vs rows) (b3:RowKit.Below wr.heap.size wr w3) (_hz:wr.heap.size≤w3.heap.size) (ou:RwC (fun b=>wr.heap.size≤b) w3 u r) (hbase:base≤wr.heap.size)
  (hgrow:(w3.alloc (.cells #[u] 41)).grownBy w5 (Value.slice va j vc).ownBlock) (hat:(Value.slice va j vc).ownBlock=some g'∨g'=w3.heap.size+1):Al (RwC (fun b=>base≤b∧some b≠(Value.slice (some ⟨g',0,none⟩) (j+1) c').ownBlock) w5) (vs ++ [u]) (rows ++ [r]):=by
 have hblk:=ownsV_block o
 have hz5:w3.heap.size+1≤w5.heap.size:=by have:=hgrow.size;simpa using this
 have hrow:∀ (y:Value) (q:List Sv.Val),RwC (fun b=>base≤b∧some b≠(Value.slice va j vc).ownBlock) w3 y q→RwC (fun b=>base≤b∧some b≠(Value.slice (some ⟨g',0,none⟩) (j+1) c').ownBlock) w5 y q:=by
  intro y q hy
  rcases hy with h | ⟨b,o,c,ev,⟨hd,hne⟩,hv⟩
  ·exact .inl h
  ·have hlb:=hv.lb
   refine .inr ⟨b,o,c,ev,⟨hd,?_⟩,hv.blk (by omega) ((hgrow.block b (by simp;omega) hne).trans (Below.heap_alloc w3 _ b hlb))⟩
   intro e
   have e' : b=g':=by simpa [Value.ownBlock] using e
   rcases hat with h | h
   ·exact hne (by rw [e',h])
   ·omega
 refine Al.snoc (a.mono fun y q hy=>hrow y q (hy.bel b3)) (hrow _ _ (ou.to fun b hb _=>⟨by omega,fun e=>by have:=(hblk b e.symm).2;omega⟩))
theorem newRows_any {T:List Sp.Tb} {N a hi lo:Nat} {nm:Sp.Nm} {ns:List (Nat×Sp.Nd)} {ta:Option Addr} {tn tc:Nat} {pv:Value} {w:World} (hN:N≤90000) (hI:InV w a nm ns lo hi pv) (hh:hi≤w.heap.size) (hn:ns.length≤1000)
  (hw:∀ x∈ns,Sp.wf N x.2 .list∧1≤x.2.len∧x.2.len≤N∧Sp.plain x.2=true∧Sp.bd T x.2 []) :
  Calls Tryz.prog 147 #[.slice ta tn tc,pv] w fun e w'=>∃ v,e = .returned v∧(∃ xs,w'.ownsRow w.heap.size 41 1 v xs.length xs∧Al (RwC (fun b=>w.heap.size≤b) w') xs (ns.map fun x=>(Sp.rn T x.2 []).headD []))∧RowKit.Below w.heap.size w w':=by
 obtain ⟨q,sl,rfl,l1,l2,hA,g,kc,xs,h',rfl,m1,m2,⟨m3,m4⟩,hL,hcl⟩:=hI
 have b3:=hA.k3
 have b4:=hA.k4
 have hqw:=hA.1
 have HL:=hid hL
 have HW:=hid hw
 have HCl:=hid hcl
 obtain ⟨n,hnn⟩:∃ n,n=ns.length:=⟨_,rfl⟩
 have HN:=hid hnn
 rw [← hnn] at b3 hn m4
 clear hA hL hw hcl hnn
 go_enter Tryz.func147,Tryz.ntmps147
 obtain ⟨i0,ji,jz0,jz1,jz2⟩:=info_parts infoRowC
 go_wp2_with fail
 go_loopw [5,25] (fun v i wr=>∃ (j:Nat) (vs:List Value) (va:Option Addr) (vc:Nat),j≤n∧i = .int .i64 (j:Nat)∧v = .slice va j vc∧Hid (wr.ownsRow w.heap.size 41 1 (.slice va j vc) j vs)∧Hid (Al (RwC (fun b=>w.heap.size≤b∧some b≠(Value.slice va j vc).ownBlock) wr) vs ((ns.take j).map fun x=>(Sp.rn T x.2 []).headD []))∧Hid (RowKit.Below w.heap.size w wr)) (fun _ i _=>n - (intOf i).toNat)
 case atStart=>exact ⟨0, [],none,0,Nat.zero_le _,rfl,rfl,World.ownsRow_nil _ _ _ _,trivial,Below.refl _ _⟩
 case round=>
  obtain ⟨j,vs,va,vc,hj,rfl,rfl,HO,HA,HB⟩:=hrel
  by_cases hlt:j<n
  ·have hjs:j<ns.length:=by have:=HN.out;omega
   have hsp:ns=ns.take j++ns[j]::ns.drop (j+1):=by rw [← List.drop_eq_getElem_cons hjs,List.take_append_drop]
   have hL2:=HL.out
   rw [hsp] at hL2
   obtain ⟨p1,p2,x,ex,q1,q2,q3,q4,⟨sv,rfl,hrq,hsi⟩,_⟩:=LsR.upd (fun w' n x m1 m2 hs h hk=>RowP.frame hs n x m1 m2 h hk) _ _ _ _ _ _ hL2
   rw [List.length_take,Nat.min_eq_left (by omega)] at ex
   obtain ⟨w1',w2',w3',w4',w5'⟩:=HW.out ns[j] (List.getElem_mem hjs)
   have hflat:=flat_pos 2 xs (LsR.lens (fun n x m1 m2 h=>by obtain ⟨v,e,_⟩:=h;rw [e];rfl) HL.out) j
   have y0:=HCl.out (j*2+0) _ ((hflat 0 _ ex (by omega)).trans rfl)
   have y1:=HCl.out (j*2+1) _ ((hflat 1 _ ex (by omega)).trans rfl)
   rw [Nat.add_zero] at y0
   have hgw:g<w.heap.size:=by omega
   have c0:=(HB.out.cell (p:=⟨g,j*2,none⟩) hgw).trans y0
   have c1:=(HB.out.cell (p:=⟨g,j*2+1,none⟩) hgw).trans y1
   obtain ⟨eg,eoff,ecap,rfl,heg,hvl,hE⟩:=exprs_calls hN w1' w2' w4' w5' (⟨by simp,fun o lv h=>by simp at h⟩:Sp.Eo [] []) hrq (by omega)
   have HTk:Hid ((ns.take (j+1)).map (fun x=>(Sp.rn T x.2 []).headD [])=(ns.take j).map (fun x=>(Sp.rn T x.2 []).headD []) ++ [(Sp.rn T ns[j].2 []).headD []]):=by show _=_;rw [List.take_succ_eq_append_getElem hjs,List.map_append];rfl
   have hln:ns[j].2.len≤90000:=by omega
   generalize (Sp.rn T ns[j].2 []).headD []=vals at HTk hvl hE
   rw [← hvl] at c1 hln
   have HE:=hid hE
   obtain ⟨an,han⟩:∃ an,an=ns[j].1:=⟨_,rfl⟩
   rw [← han] at c0
   clear hE hvl han hrq hsi hflat y0 y1 ex hL2 hsp w1' w2' w3' w4' w5'
   have hjb:j<1000:=by omega
   have hgl:g<wr.heap.size:=by have:=HB.out.size;omega
   obtain ⟨wA,hwA⟩:∃ wA,wA=(wr.alloc (.cells #[.int .i64 (an:Int), .slice (some ⟨eg,eoff,none⟩) vals.length ecap] 239)):=⟨_,rfl⟩
   have GA:Hid (Gr wr wA.drew):=by show Gr _ _;rw [hwA];exact ((Gr.refl wr).alloc _).drew
   have hzA:wA.heap.size=wr.heap.size+1:=by rw [hwA];simp
   have z1:wA.cell? ⟨wr.heap.size,1,none⟩=some (.slice (some ⟨eg,eoff,none⟩) vals.length ecap):=by rw [hwA];simp
   have HBA:Hid (RowKit.Below w.heap.size w wA.drew):=HB.out.trans (GA.out.below.mono HB.out.size)
   have HOA:=hid (ownsV_below HO.out GA.out.below)
   go_wp2_with fail
   rw [← hwA]
   clear hwA
   go_region_law (first
    | (have _hx:=hO5;refine step_append_lies _ (by rfl) _ _ _ (by rfl) w.heap.size 41 i0 (.slice none 0 0) 1 24 Tryz.underlying32 ji jz0 jz1 jz2 rfl (by omega) (.slice va j vc) j vs (by rfl) hO5 ⟨w3.heap.size,0,none⟩ 1 1 [.slice ua vals.length uc] (by rfl) (by rfl) (World.news_of_block (cs:=#[.slice ua vals.length uc]) (t:=41) (fr:=(0,0)) (heap_alloc_new w3 _)) (one_slice _ _ _) (by omega) (by unfold maxLen;omega) (by omega) (by simp;omega) (w3.heap.size+1) (by simp) ?_;intro g' kc' w5 hown hgrow hat hlt')
    | (go_simp;go_at_call 94;refine (nothing_any _ _ _ _).mono ?_;rintro e1 w1 ⟨v1,rfl,ar1,g1⟩;obtain ⟨nb,rfl,hnb,_⟩:=ar1.ptr;have HAr:=hid ar1;have HG1:=hid (GA.out.trans g1);have z2:=(g1.cell (p:=⟨wr.heap.size,1,none⟩) (by show wr.heap.size<wA.heap.size;omega)).trans z1;have hz1:=HG1.out.size;clear ar1 g1)
    | (have _hx:=HAr;go_simp;go_at_call 189;refine (rexprs_any _ _ _ _ _).mono ?_;rintro e2 w2 ⟨rfl,hw2⟩;have HW2:=hid hw2;clear hw2)
    | (have _hx:=HW2;go_simp;go_at_call 188;rw [HW2.out];refine (row_exprs (by omega) (Nat.lt_of_lt_of_le heg (Nat.le_trans HB.out.size hz1)) (HE.out w1 _ _ (HB.out.trans (HG1.out.below.mono HB.out.size)) HAr.out)).mono ?_;rintro e3 w3 ⟨u,rfl,ou,bu⟩;obtain ⟨ua,uc,rfl⟩:=ou.sl;have HOu:=hid ou;have HBu:=hid bu;have hO5:(w3.alloc (.cells #[.slice ua vals.length uc] 41)).ownsRow w.heap.size 41 1 (.slice va j vc) j vs:=ownsV_below (ownsV_below (ownsV_below HO.out HG1.out.below) bu) ((Gr.refl w3).alloc _).below;have hz3:w.heap.size≤w3.heap.size:=Nat.le_trans HB.out.size (Nat.le_trans hz1 bu.size);clear ou bu))
   all_goals
    have HB3:Hid (RowKit.Below wr.heap.size wr w3):=HG1.out.below.trans (HBu.out.mono hz1)
    have HX5:=hid (rows_next (c':=kc') HO.out HA.out HB3.out HB3.out.size (HOu.out.rwc.to fun b hb _=>(by have:w1.heap.size≤b:=hb;omega)) HB.out.size hgrow hat)
    have HX6:=hid hown
    have HX7:=hid (below_grown ((HB.out.trans (HB3.out.mono HB.out.size)).alloc (Nat.le_trans HB.out.size HB3.out.size) _) hgrow hO5 (Nat.le_refl _))
    clear hown hgrow hat hO5 _hx
    go_wp2_with fail
    go_roundw
    case rel=>exact ⟨j+1,vs ++ [.slice ua vals.length uc],some ⟨g',0,none⟩,kc',by omega,by go_num,rfl,HX6,by rw [HTk.out];exact HX5,HX7⟩
    case measure=>simp [intOf];omega
  ·obtain rfl:j=n:=by omega
   have HA2:Hid (Al (RwC (fun b=>w.heap.size≤b) wr) vs (ns.map fun x=>(Sp.rn T x.2 []).headD [])):=by
    have:=HA.out
    rw [HN.out,List.take_length] at this
    exact this.mono fun a b h=>h.to fun _ h _=>h.1
   have hvl:vs.length=j:=by have:=HO.out.1;omega
   clear hlt
   go_wp2_with fail
   go_ret
   exact ⟨_,rfl,⟨vs,by rw [hvl];exact HO.out,HA2.out⟩,HB.out⟩
end Go.Proofs.YtgnncnhkgmhngaaGreatDoor
