import Derived.Test.YtgnncnhkgmhngaaGreatDoorJ43
set_option maxHeartbeats 4000000
set_option maxRecDepth 100000
namespace Go.Proofs.YtgnncnhkgmhngaaGreatDoor
open Go.RowKit Go.Sort
theorem runs_create {T:List Sp.Tb} {nm:Sp.Nm} {ns:List (Sp.Nm×Int)} {wd:Nat} (hn:ns.length≤50) (hs:(bz nm.1).size≤100000) (hs2:∀ x∈ns,(bz x.1.1).size≤100000) (hTl:T.length≤800) :
  Runs T (.create nm ns) (Sp.withT ⟨nm.1,ns.map fun x=>(x.1.1,x.2), []⟩ T) wd 0 0 0 0 []:=by
 intro C W tv v lo hi hC ht hV hh
 obtain ⟨p,rfl,hV⟩:=hV
 have hV':=hV
 obtain ⟨q,sl,rfl,_⟩:=hV'
 refine (rs_create hC ht hV hh hn hs hs2 hTl).mono ?_
 rintro r w' ⟨v,rfl,⟨tv',rfl,h⟩,hb⟩
 obtain ⟨a,n,c,rfl⟩:=h.sl
 exact ⟨a,n,c,none,0,0,rfl,⟨h, .inl ⟨rfl,rfl⟩⟩,hb⟩
theorem resC {C:Nat→Prop} {W:World} {T:List Sp.Tb} {tv:Value} (ht:TbsC C W T tv):TbsC (fun b=>(C b∧b<W.heap.size)∨W.heap.size+1≤b) (res0 W) T tv:=
 (ht.to fun _b h1 h2 => .inl ⟨h1,h2⟩).bel ((Gr.refl W).alloc (.cells #[.int .i64 0, .int .i64 0, .int .i64 0, .slice none 0 0, .int .i64 0] 56)).below
theorem res_below (W:World):RowKit.Below W.heap.size W (res0 W):=((Gr.refl W).alloc (.cells #[.int .i64 0, .int .i64 0, .int .i64 0, .slice none 0 0, .int .i64 0] 56)).below
theorem resW_below {W w1:World} (hb:RowKit.Below (res0 W).heap.size (res0 W) w1) (a b c:Int) (v:Value) (d:Int):RowKit.Below W.heap.size W (resW w1 W.heap.size a b c v d):=
 below_set5 ((res_below W).trans (hb.mono (res_below W).size)) (Nat.le_refl _) _ _ _ _ _
theorem runs_insert {T:List Sp.Tb} {t:Sp.Tb} {N a:Nat} {nm:Sp.Nm} {ns:List (Nat×Sp.Nd)} {wd:Nat} (hf:Sp.findTb nm.1 T=some t) (hrN:t.rows.length+ns.length≤100) (hN:N≤90000) 
  (hw:∀ x∈ns,Sp.wf N x.2 .list∧1≤x.2.len∧x.2.len≤N∧Sp.plain x.2=true∧Sp.bd T x.2 []) (hTl:T.length≤800) :
  Runs T (.insertV a nm ns) (Sp.withT { t with rows:=t.rows++ns.map fun x=>(Sp.rn T x.2 []).headD [] } T) wd 0 0 0 (ns.length:Nat) []:=by
 intro C W tv v lo hi hC ht hV hh
 obtain ⟨p,rfl,hV⟩:=hV
 have hV':=hV
 obtain ⟨q,sl,rfl,_⟩:=hV'
 obtain ⟨ta,tn,tc,rfl⟩:=ht.sl
 have hz:(res0 W).heap.size=W.heap.size+1:=by simp [res0]
 refine (rs_insert (P:=fun tv' e a d rv c w3=>e=0∧a=0∧d=0∧rv = .slice none 0 0∧c=(ns.length:Nat)∧TbsC (fun b=>(C b∧b<W.heap.size)∨W.heap.size+1≤b) w3 (Sp.withT { t with rows:=t.rows++ns.map fun x=>(Sp.rn T x.2 []).headD [] } T) tv') ?_).mono ?_
 ·refine (rinsert_any (w:=res0 W) (fun j hj => .inr (by omega)) (resC ht) hf (by omega) hN (hV.bel (res_below W) hh) (by omega) (by omega) hw hTl).mono ?_
  rintro r w' ⟨v,rfl,⟨tv',h⟩,hb⟩
  rcases h with ⟨h,_⟩ | ⟨_,rfl,h⟩
  ·omega
  ·obtain ⟨va,vn,vc,rfl⟩:=h.sl
   exact ⟨va,vn,vc,_,_,_,none,0,0,_,rfl,⟨rfl,rfl,rfl,rfl,rfl,h⟩,hb⟩
 ·rintro r w' ⟨va,vn,vc,e,a,d,ra,rn,rc,c,w1,rfl,⟨rfl,rfl,rfl,hrv,rfl,hT⟩,hb,rfl⟩
  cases hrv
  exact ⟨va,vn,vc,none,0,0,rfl,⟨TbsC.resW hC hT, .inl ⟨rfl,rfl⟩⟩,resW_below hb _ _ _ _ _⟩
theorem runs_remove {T:List Sp.Tb} {t:Sp.Tb} {N:Nat} {nm:Sp.Nm} {wh:Sp.Nd} {wd:Nat} {lvs:List Sp.Lv} (hf:Sp.findTb nm.1 T=some t) (hN:N≤90000) (hp:Sp.plain wh=true) (hw:Sp.wf N wh .cl) (he:∀ r∈t.rows,Sp.Eo [[r]] lvs) (hbd:Sp.bd T wh lvs) (hTl:T.length≤800) :
  Runs T (.delete nm wh) (Sp.withT { t with rows:=t.rows.filter fun r=>!Sp.holds T wh [[r]] } T) wd 0 0 0 ((t.rows.length - (t.rows.filter fun r=>!Sp.holds T wh [[r]]).length:Nat)) []:=by
 intro C W tv v lo hi hC ht hV hh
 obtain ⟨q,pv,rfl,l1,l2,hA,hpt,hR⟩:=hV
 obtain ⟨ta,tn,tc,rfl⟩:=ht.sl
 have hz:(res0 W).heap.size=W.heap.size+1:=by simp [res0]
 have hH:=rh_main T N hN wh hp hw
 have hnp:NoSl pv:=by obtain ⟨a,rfl⟩:=hpt;intro _ _ _ h;cases h
 refine (rs_remove (P:=fun tv' e a d rv c w3=>e=0∧a=0∧d=0∧rv = .slice none 0 0∧c=((t.rows.length - (t.rows.filter fun r=>!Sp.holds T wh [[r]]).length:Nat))∧TbsC (fun b=>(C b∧b<W.heap.size)∨W.heap.size+1≤b) w3 (Sp.withT { t with rows:=t.rows.filter fun r=>!Sp.holds T wh [[r]] } T) tv') ?_).mono ?_
 ·refine (callsIn_wide.1 (rremove_in 6 (Nat.le_refl _) (w:=res0 W) (fun r=>Sp.holds T wh [[r]]) (fun j hj => .inr (by omega)) (resC ht) hf (hA.same (by omega) ((res_below W).block q (by omega))) hTl ?_)).mono ?_
  ·intro r hr A iv hbA haA
   have hbW:RowKit.Below W.heap.size W A:=(res_below W).trans (hbA.mono (res_below W).size)
   exact hH lo q _ pv iv [[r]] lvs A haA (he r hr) hbd (hR.belN hbW (by omega) hnp) (by have:=hbW.size;omega)
  ·rintro r w' ⟨v,rfl,⟨tv',rfl,h⟩,hb⟩
   obtain ⟨va,vn,vc,rfl⟩:=h.sl
   exact ⟨va,vn,vc,_,_,_,none,0,0,_,rfl,⟨rfl,rfl,rfl,rfl,rfl,h⟩,hb⟩
 ·rintro r w' ⟨va,vn,vc,e,a,d,ra,rn,rc,c,w1,rfl,⟨rfl,rfl,rfl,hrv,rfl,hT⟩,hb,rfl⟩
  cases hrv
  exact ⟨va,vn,vc,none,0,0,rfl,⟨TbsC.resW hC hT, .inl ⟨rfl,rfl⟩⟩,resW_below hb _ _ _ _ _⟩
theorem runs_select {T:List Sp.Tb} {N st:Nat} {ex wh:Sp.Nd} {src:List (Sp.Nm×Sp.Nm)} {wd:Nat}
  (hN:N≤90000) (hw:Sp.wf N (.sel false st ex src wh) .query) (hp:Sp.plain (.sel false st ex src wh)=true) (hb:Sp.bd T (.sel false st ex src wh) []) (hT:Sp.TOk T) (hTc:∀ t∈T,t.cols.length≤50)
  (hs:src ≠ []) (hsl:src.length≤1000) (hpl:(prods (Sp.rowsOf T src)).length≤1000)
  (hwd:∀ tk∈prods (Sp.rowsOf T src),(Sp.cellsOf T ex tk []).length=wd) (hwb:wd≤100000) (hz1:ex = .none→wdF T src=wd) (hz2:ex ≠ .none→ex.els.length=wd) :
  Runs T (.query (.sel false st ex src wh)) T wd 0 0 (wd:Nat) 0 (Sp.rn T (.sel false st ex src wh) []):=by
 intro C W tv v lo hi hC ht hV hh
 have hr:Rp W (.sel false st ex src wh) lo hi v:=hV
 obtain ⟨ta,tn,tc,rfl⟩:=ht.sl
 have hV2:=hr
 obtain ⟨b,xv,fv,wv,m1,m2,m3,m4,rfl,l1,l2,hS,hS2,hA,hI,hX,hF,hn,hR⟩:=hV2
 have hf:∀ x∈src,(Sp.findTb x.1.1 T).isSome=true:=hb.1
 have hz:(res0 W).heap.size=W.heap.size+1:=by simp [res0]
 obtain ⟨blk,c,rfl,_,q1,q2,q3,q4⟩:∃ blk c,fv = .slice (some ⟨blk,0,none⟩) src.length c∧src ≠ []∧m2≤blk∧blk<m3∧blk<W.heap.size∧Srcs W blk 0 src:=by
  rcases hF with ⟨e,_⟩ | h
  ·exact absurd e hs
  ·exact h
 have hxl:ex ≠ .none→∃ g off cp,xv = .slice (some ⟨g,off,none⟩) wd cp:=by
  intro hne
  rcases hX with ⟨h,_⟩ | ⟨_,hX⟩
  ·exact absurd h hne
  ·obtain ⟨_,hex,_,hwh⟩:=hw
   have hex' : 1≤ex.len∧ex.len≤N∧Sp.wf N ex .list:=by
    rcases hex with h | h
    ·exact absurd h hne
    ·exact h
   obtain ⟨h1,h2,h3⟩:=hex'
   obtain ⟨e1,e2,e3⟩:=els_lapp N ex h3
   have hz2:=hz2 hne
   generalize hns:ex.els=ns at *
   rw [e1] at hX
   obtain ⟨g,off,n,cp,rfl,hbl⟩:∃ g off n c,xv = .slice (some ⟨g,off,none⟩) n c∧g<W.heap.size:=by
    cases ns with
    | nil=>simp at e2;omega
    | cons n0 ns'=>
     simp only [Sp.lapp,List.foldr_cons] at hX
     obtain ⟨blk,off,n,c,v,m1,m2,e,hl,_⟩:=hX
     exact ⟨blk,off,_,c,e,hl⟩
   obtain ⟨hnn,xs,hel',hxs⟩:=Rp.els ns m1 m2 g off n cp hX
   exact ⟨g,off,cp,by rw [← hz2,← hnn]⟩
 refine (rs_select (z:=(wd:Nat)) (P:=fun v w1=>RsO (W.heap.size+1) wd w1 v (Sp.rn T (.sel false st ex src wh) [])) ?_ ?_).mono ?_
 ·intro W' hb'
  have hs':=hb'.size
  have hA' : At W' b [.bool false, .int .i64 (st:Int),xv, .slice (some ⟨blk,0,none⟩) src.length c,wv]:=hA.same hb'.size (hb'.block b (by omega))
  apply width_sel
  by_cases hne:ex = .none
  ·obtain ⟨_,rfl⟩:ex = .none∧xv = .slice none 0 0:=by
    rcases hX with h | ⟨h,_⟩
    ·exact h
    ·exact absurd hne h
   have:=swidth_star hA' (ht.bel hb').tbs (Srcs.same (hb'.block blk q3) _ _ q4) (by omega) hsl hf hTc
   rw [hz1 hne] at this
   exact this
  ·obtain ⟨g,off,cp,rfl⟩:=hxl hne
   exact swidth_exprs hA'
 ·intro W' iv hb' hlt ha
  have hs':=hb'.size
  refine (rq_sel wd hN hw hp hb (ht.bel hb').tbs hT hTc ha ⟨by simp,fun o lv h=>by simp at h⟩ (by simp) (hr.belN hb' hh (by intro _ _ _ h;cases h)) (by omega) hs hsl hpl hwd hwb).mono ?_
  rintro r w' ⟨v,rfl,h1,h2⟩
  obtain ⟨a,c,rfl⟩:=h1.sl
  exact ⟨a,_,c,rfl,h1.lower (by omega),h2.below⟩
 ·rintro r w' ⟨a,n,c,w1,rfl,hP,hb1,rfl⟩
  have hz3:=hb1.size
  refine ⟨ta,tn,tc,a,n,c,rfl,⟨TbsC.resW hC ((resC ht).bel hb1),?_⟩,resW_below hb1 _ _ _ _ _⟩
  refine RsO.lower (b:=W.heap.size+1) (hP.noS (Q:=fun q=>q=W.heap.size) ?_ ?_ (by simp [World.setCell]) (fun j _ hn=>heap_set5 hn _ _ _ _ _)) (by omega)
  ·rintro q rfl
   exact res_noS (t:=56) ((hb1.block _ (by omega)).trans (World.alloc_heap_new W _))
  ·rintro q rfl
   omega
def VRX (w:World):Prop:=VR w∧VM w
theorem VRX.below {w w' : World} (h:VRX w) (hb:RowKit.Below w.heap.size w w'):VRX w':=by
 refine ⟨?_,h.2.below hb⟩
 obtain ⟨te,pe,h1,h2⟩:=h.1
 exact ⟨te,pe,(World.cell?_of_block (w:=w) (a:=⟨1,0,none⟩) (hb.block 1 h2)).trans h1,Nat.lt_of_lt_of_le h2 hb.size⟩
theorem tx_Create (v:Option Addr) (w:World):Sem.run Tryz.prog (Instr.typeAssert (.iface 160 (.pointer v)) 90 122 true) w = .ok (.tuple #[.pointer none, .bool false]) w:=by kernel_rfl
theorem tx_Drop (v:Option Addr) (w:World):Sem.run Tryz.prog (Instr.typeAssert (.iface 163 (.pointer v)) 90 122 true) w = .ok (.tuple #[.pointer none, .bool false]) w:=by kernel_rfl
theorem tx_Insert (v:Option Addr) (w:World):Sem.run Tryz.prog (Instr.typeAssert (.iface 169 (.pointer v)) 90 122 true) w = .ok (.tuple #[.pointer none, .bool false]) w:=by kernel_rfl
theorem tx_Delete (v:Option Addr) (w:World):Sem.run Tryz.prog (Instr.typeAssert (.iface 171 (.pointer v)) 90 122 true) w = .ok (.tuple #[.pointer none, .bool false]) w:=by kernel_rfl
theorem tx_Update (v:Option Addr) (w:World):Sem.run Tryz.prog (Instr.typeAssert (.iface 176 (.pointer v)) 90 122 true) w = .ok (.tuple #[.pointer none, .bool false]) w:=by kernel_rfl
theorem tx_Select (v:Option Addr) (w:World):Sem.run Tryz.prog (Instr.typeAssert (.iface 278 (.pointer v)) 90 122 true) w = .ok (.tuple #[.pointer none, .bool false]) w:=by kernel_rfl
theorem tx_Combined (v:Option Addr) (w:World):Sem.run Tryz.prog (Instr.typeAssert (.iface 280 (.pointer v)) 90 122 true) w = .ok (.tuple #[.pointer none, .bool false]) w:=by kernel_rfl
theorem no_trans {w:World} {s:Sp.Stm} {lo hi:Nat} {v:Value} (hs:Sp.okS 90000 s) (hnt:∀ z,s ≠ .trans z) (h:StV w s lo hi v) (w' : World):Sem.run Tryz.prog (Instr.typeAssert v 90 122 true) w' = .ok (.tuple #[.pointer none, .bool false]) w':=by
 cases s with
 | create t cols=>obtain ⟨p,rfl,q,sl,rfl,_⟩:=h;exact tx_Create _ _
 | drop t=>obtain ⟨q,rfl,_⟩:=h;exact tx_Drop _ _
 | insertV a t rows=>obtain ⟨p,rfl,q,sl,rfl,_⟩:=h;exact tx_Insert _ _
 | insertQ a t nd=>obtain ⟨p,rfl,q,sl,rfl,_⟩:=h;exact tx_Insert _ _
 | delete t wh=>obtain ⟨q,pv,rfl,_⟩:=h;exact tx_Delete _ _
 | update t sets wh=>obtain ⟨p,rfl,q,sl,pv,mid,rfl,_⟩:=h;exact tx_Update _ _
 | trans z=>exact absurd rfl (hnt z)
 | query nd=>
  rcases rp_query h hs.1 with ⟨b,rfl⟩ | ⟨b,rfl⟩
  ·exact tx_Select _ _
  ·exact tx_Combined _ _
theorem exec_ok {bb:Nat} {T T' : List Sp.Tb} {st:Sp.Stm} {wd:Nat} {e a d c:Int} {rows:List (List Sv.Val)} {tv:Value} {s:ByteArray} {w:World} {D:Nat→Prop} (hD:∀ j,w.heap.size≤j→D j) (hDb:¬ D bb) (hbb:BasB w bb tv) (hbt:TbsC D w T tv) (hr:VRX w) (hs:s.size≤maxLen) (hp:Sp.parse s.data.toList=(0,0)) (ht:Sp.tree s.data.toList=st) (hnt:∀ z,st ≠ .trans z) (hok:Sp.okS 90000 st) (hck:(Sp.check T st).1.out=(0,0))
  (hR:Runs T (Sp.check T st).2 T' wd e a d c rows) :
  Calls Tryz.prog 26 #[.pointer (some ⟨bb,0,none⟩), .string s] w fun r w'=>Ran D bb w T' wd e a d c rows r w':=by
 have hbl:=hbb.lt
 have hz0:(res0 w).heap.size=w.heap.size+1:=by simp [res0]
 have HVR:Hid (VRX (res0 w)):=hr.below (res_below w)
 have HB:Hid (BasB (res0 w) bb tv):=((res_below w).block bb hbl).trans hbb
 have HT:Hid (TbsC (fun j=>D j∧j≠w.heap.size) (res0 w) T tv):=(hbt.to fun b h1 h2=>⟨h1,by omega⟩).bel (res_below w)
 have HO:=hid hok
 have HP:=hid (synParse_any s (res0 w) hs HVR.out.1 HVR.out.2)
 rw [hp,ht] at HP
 simp only [] at HP
 have HR:=hid hR
 have HN:=hid hnt
 have HCk:=hid hck
 clear hR hnt hck hok hbb hbt hr
 go_enter Tryz.func26,Tryz.ntmps26
 go_wp2_with fail
 refine HP.out.mono ?_
 rintro x w1 ⟨v,rfl,b1,hif,hV⟩
 have HV:=hid (hV trivial)
 obtain ⟨vt,va,rfl⟩:=stv_if HO.out HV.out
 have hz1:=b1.size
 have HDo:=hid (do_ok (D:=fun j=>D j∧j≠w.heap.size) (fun j hj=>⟨hD j (by omega),by omega⟩) (fun h=>hDb h.1) HB.out HT.out b1 HV.out (Nat.le_refl _) (Nat.le_refl _) HO.out HN.out HCk.out (no_trans HO.out HN.out HV.out) HR.out)
 have HB1:=hid b1
 clear hif hV b1 HP
 go_wp2_with fail
 refine HDo.out.mono ?_
 rintro x w2 ⟨rv,tv',rfl,⟨h1,h2⟩,h3,h4⟩
 obtain ⟨ra,rc,rfl⟩:=h3.sl
 have eQ:w2.heap[w.heap.size]?=some (.cells #[.int .i64 0, .int .i64 0, .int .i64 0, .slice none 0 0, .int .i64 0] 56 (0,0)):=(h4.block _ (by omega) (by omega)).trans (World.alloc_heap_new w _)
 have HBk:Hid (Bk w2 w.heap.size [.int .i64 0, .int .i64 0, .int .i64 0, .slice none 0 0, .int .i64 0]):=(Bk.new w #[.int .i64 0, .int .i64 0, .int .i64 0, .slice none 0 0, .int .i64 0] 56).same (by simpa using h4.size) (h4.block _ (by simp) (by omega))
 obtain ⟨⟨k0,k1,k2,k3,k4⟩,f0,f1,f2,f3,f4⟩:=HBk.out.five
 have HE:=hid eQ
 have H1:=hid h1
 have H2:=hid h2
 have H3:=hid h3
 have H4:=hid h4
 clear h1 h2 h3 h4 eQ HDo
 go_wp2_with fail
 refine bodyPost_ret (v:=enRes e a d (.slice ra rows.length rc) c) (by simp [results,Tryz.results26,go_sem,enRes, *]) rfl ⟨.slice ra rows.length rc,tv',rfl,⟨?_,?_⟩,?_,?_⟩
 ·exact (heap_set5 (by omega) _ _ _ _ _).trans H1.out
 ·exact (H2.out.blk (by simp [World.setCell]) fun b hb _=>heap_set5 hb.2 _ _ _ _ _).to fun b hb _=>hb.1
 ·refine RsO.lower (b:=(res0 w).heap.size) (H3.out.noS (Q:=fun q=>q=w.heap.size) ?_ ?_ (by simp [World.setCell]) (fun j _ hn=>heap_set5 hn _ _ _ _ _)) (by omega)
  ·rintro q rfl
   exact res_noS HE.out
  ·rintro q rfl
   omega
 ·have hz2:=H4.out.size
  refine ⟨?_,?_,?_,by simp [World.setCell];omega,fun j hj hn=>?_⟩
  ·simp only [sc_os]
   exact H4.out.os.trans (al_os _ _)
  ·simp only [sc_tape]
   exact H4.out.tape.trans (al_tape _ _)
  ·simp only [sc_output]
   exact H4.out.output.trans (al_output _ _)
  ·exact (heap_set5 (by omega) _ _ _ _ _).trans ((H4.out.block j (by omega) hn).trans ((res_below w).block j hj))
theorem new_ok {w:World} : Calls Tryz.prog 32 #[] w fun r w'=>∃ bb tv,r = .returned (.pointer (some ⟨bb,0,none⟩))∧Bas bb w' [] tv∧w.heap.size≤bb∧RowKit.Below w.heap.size w w':=by
 go_enter Tryz.func32,Tryz.ntmps32
 go_wp2_with fail
 exact bodyPost_ret (v := .pointer (some ⟨w.heap.size,0,none⟩)) (by simp [results,Tryz.results32,go_sem]) rfl ⟨w.heap.size, .slice none 0 0,rfl,⟨World.alloc_heap_new w _,⟨by simp, .inl ⟨rfl,rfl⟩⟩⟩,Nat.le_refl _,((Gr.refl w).alloc _).below⟩
namespace Sp
def cab:List (Bs×Int) := [([97],2),([98],3)]
def tt (R:List Row):Tb:=⟨[116],cab,R⟩
def uu (R:List Row):Tb:=⟨[117],cab,R⟩
def TU (R S:List Row) (T:List Tb):Prop:=T = [tt R,uu S]∨T = [uu S,tt R]
theorem TU.len {R S:List Row} {T:List Tb} (h:TU R S T):T.length≤800:=by rcases h with rfl | rfl <;> simp
theorem TU.ft {R S:List Row} {T:List Tb} (h:TU R S T):findTb [116] T=some (tt R):=by rcases h with rfl | rfl <;> rfl
theorem TU.fu {R S:List Row} {T:List Tb} (h:TU R S T):findTb [117] T=some (uu S):=by rcases h with rfl | rfl <;> rfl
theorem TU.wt {R S:List Row} {T:List Tb} (h:TU R S T) (Q:List Row):TU Q S (withT (tt Q) T):=by rcases h with rfl | rfl <;> exact .inr rfl
theorem TU.wu {R S:List Row} {T:List Tb} (h:TU R S T) (Q:List Row):TU R Q (withT (uu Q) T):=by rcases h with rfl | rfl <;> exact .inl rfl
def all (nm:Bs):Nd := .sel false 7 .none [((nm,14),nm,14)] .none
theorem p_create_t:parse [99,114,101,97,116,101,32,116,97,98,108,101,32,116,32,40,97,32,105,110,116,44,32,98,32,116,101,120,116,41]=(0,0):=by kernel_rfl
theorem t_create_t:tree [99,114,101,97,116,101,32,116,97,98,108,101,32,116,32,40,97,32,105,110,116,44,32,98,32,116,101,120,116,41] = .create ([116],13) [(([97],16),2),(([98],23),3)]:=by kernel_rfl
theorem p_create_u:parse [99,114,101,97,116,101,32,116,97,98,108,101,32,117,32,40,97,32,105,110,116,44,32,98,32,116,101,120,116,41]=(0,0):=by kernel_rfl
theorem t_create_u:tree [99,114,101,97,116,101,32,116,97,98,108,101,32,117,32,40,97,32,105,110,116,44,32,98,32,116,101,120,116,41] = .create ([117],13) [(([97],16),2),(([98],23),3)]:=by kernel_rfl
theorem p_sel_t:parse [115,101,108,101,99,116,32,42,32,102,114,111,109,32,116]=(0,0):=by kernel_rfl
theorem t_sel_t:tree [115,101,108,101,99,116,32,42,32,102,114,111,109,32,116] = .query (all [116]):=by kernel_rfl
theorem p_sel_u:parse [115,101,108,101,99,116,32,42,32,102,114,111,109,32,117]=(0,0):=by kernel_rfl
theorem t_sel_u:tree [115,101,108,101,99,116,32,42,32,102,114,111,109,32,117] = .query (all [117]):=by kernel_rfl
theorem c_create_t:check [] (.create ([116],13) [(([97],16),2),(([98],23),3)])=(⟨0,0,false⟩, .create ([116],13) [(([97],16),2),(([98],23),3)]):=by kernel_rfl
theorem c_create_u (R:List Row):check [tt R] (.create ([117],13) [(([97],16),2),(([98],23),3)])=(⟨0,0,false⟩, .create ([117],13) [(([97],16),2),(([98],23),3)]):=by kernel_rfl
theorem note_one {c:CS} {nm:Bs} {b:Tb} (hR:b.rows.length≤1000):c.note [[(nm,b)]]=c:=by
 unfold CS.note
 rw [if_neg]
 simp only [product,List.foldl_cons,List.foldl_nil]
 omega
theorem c_sel_t {R S:List Row} {T:List Tb} (h:TU R S T) (hR:R.length≤1000):check T (.query (all [116]))=(⟨0,0,false⟩, .query (all [116])):=by
 have e:check T (.query (all [116]))=(CS.note [[([116],tt R)]] ⟨0,0,false⟩, .query (all [116])):=by rcases h with rfl | rfl <;> kernel_rfl
 rw [e,note_one hR]
theorem c_sel_u {R S:List Row} {T:List Tb} (h:TU R S T) (hR:S.length≤1000):check T (.query (all [117]))=(⟨0,0,false⟩, .query (all [117])):=by
 have e:check T (.query (all [117]))=(CS.note [[([117],uu S)]] ⟨0,0,false⟩, .query (all [117])):=by rcases h with rfl | rfl <;> kernel_rfl
 rw [e,note_one hR]
def ins (nm:Bs) (va vb:Sv.Val):Stm := .insertV 7 (nm,12) [(21, .cons (.const va) (.cons (.const vb) .nil))]
def rowK (va vb:Sv.Val):Prop:=((∃ n,va=⟨2,n,ByteArray.empty⟩)∨va=⟨0,0,ByteArray.empty⟩)∧((∃ s,vb=⟨3,0,s⟩)∨vb=⟨0,0,ByteArray.empty⟩)
theorem c_ins_t {R S:List Row} {T:List Tb} (h:TU R S T) {va vb:Sv.Val} (hv:rowK va vb):check T (ins [116] va vb)=(⟨0,0,false⟩,ins [116] va vb):=by
 obtain ⟨⟨n,rfl⟩ | rfl,⟨s,rfl⟩ | rfl⟩:=hv <;> rcases h with rfl | rfl <;> kernel_rfl
theorem c_ins_u {R S:List Row} {T:List Tb} (h:TU R S T) {va vb:Sv.Val} (hv:rowK va vb):check T (ins [117] va vb)=(⟨0,0,false⟩,ins [117] va vb):=by
 obtain ⟨⟨n,rfl⟩ | rfl,⟨s,rfl⟩ | rfl⟩:=hv <;> rcases h with rfl | rfl <;> kernel_rfl
theorem TU.ok {R S:List Row} {T:List Tb} (h:TU R S T) (hR:∀ r∈R,r.length=2) (hS:∀ r∈S,r.length=2):TOk T:=by
 intro t ht r hr
 rcases h with rfl | rfl <;> simp only [List.mem_cons,List.not_mem_nil,or_false] at ht <;> rcases ht with rfl | rfl
 ·exact hR r hr
 ·exact hS r hr
 ·exact hS r hr
 ·exact hR r hr
theorem TU.cols {R S:List Row} {T:List Tb} (h:TU R S T):∀ t∈T,t.cols.length≤50:=by
 intro t ht
 rcases h with rfl | rfl <;> simp only [List.mem_cons,List.not_mem_nil,or_false] at ht <;> rcases ht with rfl | rfl <;> simp [tt,uu,cab]
theorem prods_one {α:Type} (l:List α):prods [l]=l.map fun r => [r]:=by
 simp only [prods,List.map_cons,List.map_nil]
 induction l with
 | nil=>rfl
 | cons x l ih=>rw [List.flatMap_cons,ih];rfl
end Sp
theorem runs_ins_t {R S:List Sp.Row} {T:List Sp.Tb} (h:Sp.TU R S T) (va vb:Sv.Val) (hl:R.length<100) {wd:Nat} : Runs T (Sp.ins [116] va vb) (Sp.withT (Sp.tt (R ++ [[va,vb]])) T) wd 0 0 0 1 []:=
 runs_insert (N:=90000) (nm:=([116],12)) (ns := [(21, .cons (.const va) (.cons (.const vb) .nil))]) h.ft (by simp [Sp.tt];omega) (by omega) (fun x hx=>by
  rw [List.mem_singleton] at hx
  subst hx
  exact ⟨by simp [Sp.wf],by simp [Sp.Nd.len],by simp [Sp.Nd.len],rfl,trivial,trivial,trivial⟩) h.len
theorem runs_ins_u {R S:List Sp.Row} {T:List Sp.Tb} (h:Sp.TU R S T) (va vb:Sv.Val) (hl:S.length<100) {wd:Nat} : Runs T (Sp.ins [117] va vb) (Sp.withT (Sp.uu (S ++ [[va,vb]])) T) wd 0 0 0 1 []:=
 runs_insert (N:=90000) (nm:=([117],12)) (ns := [(21, .cons (.const va) (.cons (.const vb) .nil))]) h.fu (by simp [Sp.uu];omega) (by omega) (fun x hx=>by
  rw [List.mem_singleton] at hx
  subst hx
  exact ⟨by simp [Sp.wf],by simp [Sp.Nd.len],by simp [Sp.Nd.len],rfl,trivial,trivial,trivial⟩) h.len
theorem rn_all {T:List Sp.Tb} {nm:Sp.Bs} {R:List Sp.Row} {b:Sp.Tb} (hf:Sp.findTb nm T=some b) (hb:b.rows=R):Sp.rn T (Sp.all nm) []=sortR R:=by
 unfold Sp.all
 rw [Sp.rn_sel]
 congr 1
 simp only [Sp.rowsOf,List.map_cons,List.map_nil,hf,Option.getD_some,hb,Sp.prods_one,List.flatMap_map,Sp.holds,if_true,Sp.cellsOf,List.flatten_cons,List.flatten_nil,List.append_nil]
 clear hb
 induction R with
 | nil=>rfl
 | cons x l ih=>rw [List.flatMap_cons,ih];rfl
theorem runs_all {T:List Sp.Tb} {nm:Sp.Bs} {R:List Sp.Row} {b:Sp.Tb} (hf:Sp.findTb nm T=some b) (hb:b.rows=R) (hc:b.cols=Sp.cab) (hT:Sp.TOk T) (hTc:∀ t∈T,t.cols.length≤50) (hl:R.length≤1000):Runs T (.query (Sp.all nm)) T 2 0 0 2 0 (sortR R):=by
 rw [← rn_all hf hb]
 have e:Sp.rowsOf T [((nm,14),nm,14)] = [R]:=by simp [Sp.rowsOf,hf,hb]
 refine runs_select (N:=90000) (wd:=2) (by omega) ?_ rfl ?_ hT hTc (by simp) (by simp) ?_ ?_ (by omega) ?_ (fun h=>absurd rfl h)
 ·simp [Sp.wf]
 ·refine ⟨?_,?_,trivial,trivial⟩
  ·intro x hx
   rw [List.mem_singleton] at hx
   subst hx
   simp [hf]
  ·simp only [Sp.product,Sp.lvT,List.map_cons,List.map_nil,List.foldl_cons,List.foldl_nil,hf,Option.getD_some,hb]
   omega
 ·rw [e,Sp.prods_one]
  simpa using hl
 ·rw [e,Sp.prods_one]
  intro tk htk
  obtain ⟨r,hr,rfl⟩:=List.mem_map.1 htk
  have:=hT b (Sp.findTb_mem hf) r (by rw [hb];exact hr)
  rw [hc] at this
  simpa [Sp.cellsOf,Sp.cab] using this
 ·intro _
  simp [wdF,hf,hc,Sp.cab]
end Go.Proofs.YtgnncnhkgmhngaaGreatDoor
namespace Go.Proofs.YtgnncnhkgmhngaaGreatDoor.Sp
structure Tok (s:Bs) (e:Nat) (c:Cl) (a:Nat) (w:Bs) (z:Nat):Prop where
 c:tokCl s e=c
 a:tokAt s e=a
 w:tokWord s e=w
 z:tokEnd s e=z
theorem Tok.no {s:Bs} {e:Nat} {c:Cl} {a:Nat} {w:Bs} {z:Nat} (h:Tok s e c a w z) (hc:(c == .key)=false) (w' : Bs):St.is s w' (.live e)=false:=by
 show (tokCl s e == .key&&tokWord s e == w')=false
 rw [h.c,hc];rfl
theorem Tok.is {s:Bs} {e:Nat} {a:Nat} {w:Bs} {z:Nat} (h:Tok s e .key a w z) (w' : Bs):St.is s w' (.live e)=(w == w'):=by
 show (tokCl s e == .key&&tokWord s e == w')=_
 rw [h.c,h.w];rfl
theorem Tok.isCl {s:Bs} {e:Nat} {c:Cl} {a:Nat} {w:Bs} {z:Nat} (h:Tok s e c a w z) (c' : Cl):St.isCl s c' (.live e)=(c == c'):=by
 show (tokCl s e == c')=_
 rw [h.c]
theorem Tok.step {s:Bs} {e:Nat} {c:Cl} {a:Nat} {w:Bs} {z:Nat} (h:Tok s e c a w z):St.step s (.live e) = .live z:=by
 show St.live (tokEnd s e)=_
 rw [h.z]
def Par (s:Bs) (nt:Nt) (k d e z:Nat) (A:Nd):Prop:=∀ m,run s (m+k) nt d (.live e) = .live z∧tr s (m+k) nt d .nil (.live e)=A
theorem par_txt {s:Bs} {d e a z:Nat} {Q:Bs} (h:Tok s e .txt a Q z):Par s .atom 1 d e z (.const (Sv.text ⟨(txtVal Q).toArray⟩)):=by
 intro m
 constructor
 ·show (if (St.isCl s .num (.live e)||St.isCl s .txt (.live e))=true then St.step s (.live e) else _)=_
  rw [h.isCl,h.isCl,h.step];rfl
 ·show (if St.isCl s .num (.live e)=true then _ else if St.isCl s .txt (.live e)=true then Nd.const (Sv.text ⟨(txtVal (tokWord s e)).toArray⟩) else _)=_
  rw [h.isCl,h.isCl,h.w];rfl
theorem par_num {s:Bs} {d e a z:Nat} {Q:Bs} (h:Tok s e .num a Q z):Par s .atom 1 d e z (.const (Sv.int (numVal Q))):=by
 intro m
 constructor
 ·show (if (St.isCl s .num (.live e)||St.isCl s .txt (.live e))=true then St.step s (.live e) else _)=_
  rw [h.isCl,h.step];rfl
 ·show (if St.isCl s .num (.live e)=true then Nd.const (Sv.int (numVal (tokWord s e))) else _)=_
  rw [h.isCl,h.w];rfl
theorem par_col {s:Bs} {d e a z:Nat} {Q:Bs} (h:Tok s e .name a Q z) (hd:St.is s [46] (.live z)=false):Par s .atom 1 d e z (.col [] Q a 0 0 0):=by
 intro m
 constructor
 ·show (if (St.isCl s .num (.live e)||St.isCl s .txt (.live e))=true then St.step s (.live e) else if (St.is s _ (.live e)||St.is s _ (.live e)||St.is s _ (.live e))=true then St.step s (.live e) else if St.isCl s .name (.live e)=true then (if St.is s _ (St.step s (.live e))=true then _ else St.step s (.live e)) else _)=_
  rw [h.isCl,h.isCl,h.isCl,h.no rfl,h.no rfl,h.no rfl,h.step,hd];rfl
 ·show (if St.isCl s .num (.live e)=true then _ else if St.isCl s .txt (.live e)=true then _ else if St.is s _ (.live e)=true then _ else if St.is s _ (.live e)=true then _ else if St.is s _ (.live e)=true then _ else if St.isCl s .name (.live e)=true then (if St.is s _ (St.step s (.live e))=true then _ else Nd.col [] (tokWord s e) (tokAt s e) 0 0 0) else _)=_
  rw [h.isCl,h.isCl,h.isCl,h.no rfl,h.no rfl,h.no rfl,h.step,hd,h.w,h.a];rfl
theorem par_sum {s:Bs} {d e z:Nat} {A:Nd} (h:Par s .atom 1 d e z A) (h0:St.is s [45] (.live e)=false) (h1:St.is s [42] (.live z)=false) (h2:St.is s [47] (.live z)=false) (h3:St.is s [43] (.live z)=false) (h4:St.is s [45] (.live z)=false):Par s .sum 4 d e z A:=by
 have hu:Par s .unary 2 d e z A:=fun m=>by
  constructor
  ·show (if St.is s _ (.live e)=true then _ else run s (m+1) .atom d (.live e))=_
   rw [h0];exact (h m).1
  ·show (if St.is s _ (.live e)=true then _ else tr s (m+1) .atom d .nil (.live e))=_
   rw [h0];exact (h m).2
 have hp:Par s .product 3 d e z A:=fun m=>by
  constructor
  ·show run s (m+2) .prodL d (run s (m+2) .unary d (.live e))=_
   rw [(hu m).1]
   show (if (St.is s _ (.live z)||St.is s _ (.live z))=true then _ else St.live z)=_
   rw [h1,h2];rfl
  ·show tr s (m+2) .prodL d (tr s (m+2) .unary d .nil (.live e)) (run s (m+2) .unary d (.live e))=_
   rw [(hu m).1,(hu m).2]
   show (if (St.is s _ (.live z)||St.is s _ (.live z))=true then _ else A)=_
   rw [h1,h2];rfl
 intro m
 constructor
 ·show run s (m+3) .sumL d (run s (m+3) .product d (.live e))=_
  rw [(hp m).1]
  show (if (St.is s _ (.live z)||St.is s _ (.live z))=true then _ else St.live z)=_
  rw [h3,h4];rfl
 ·show tr s (m+3) .sumL d (tr s (m+3) .product d .nil (.live e)) (run s (m+3) .product d (.live e))=_
  rw [(hp m).1,(hp m).2]
  show (if (St.is s _ (.live z)||St.is s _ (.live z))=true then _ else A)=_
  rw [h3,h4];rfl
theorem Tok.must {s:Bs} {e a z:Nat} {w:Bs} (h:Tok s e .key a w z):St.must s w (.live e) = .live z:=by
 show (if St.is s w (.live e)=true then St.step s (.live e) else _)=_
 rw [h.is,h.step,if_pos (by simp)]
theorem Tok.nameT {s:Bs} {e a z:Nat} {w:Bs} (h:Tok s e .name a w z):St.nameT s (.live e) = .live z:=by
 show (if St.isCl s .name (.live e)=true then St.step s (.live e) else _)=_
 rw [h.isCl,h.step];rfl
theorem Tok.nm {s:Bs} {e a z:Nat} {c:Cl} {w:Bs} (h:Tok s e c a w z):St.nm s (.live e)=(w,a):=by
 show (tokWord s e,tokAt s e)=_
 rw [h.w,h.a]
theorem Tok.at_ {s:Bs} {e a z:Nat} {c:Cl} {w:Bs} (h:Tok s e c a w z):St.at_ s (.live e)=a:=h.a
def NoCmp (s:Bs) (z:Nat):Prop:=St.isCmp s (.live z)=false∧St.is s [105,115] (.live z)=false∧St.is s [110,111,116] (.live z)=false∧St.is s [105,110] (.live z)=false
theorem par_plain {s:Bs} {d e z:Nat} {A:Nd} (h:Par s .sum 4 d e z A) (hz:NoCmp s z):Par s .compare 5 d e z A:=by
 intro m
 constructor
 ·show (if St.isCmp s (run s (m+4) .sum d (.live e))=true then _ else if St.is s _ (run s (m+4) .sum d (.live e))=true then _ else if St.is s _ (run s (m+4) .sum d (.live e))=true then _ else if St.is s _ (run s (m+4) .sum d (.live e))=true then _ else run s (m+4) .sum d (.live e))=_
  rw [(h m).1,hz.1,hz.2.1,hz.2.2.1,hz.2.2.2];rfl
 ·show (if St.isCmp s (run s (m+4) .sum d (.live e))=true then _ else if St.is s _ (run s (m+4) .sum d (.live e))=true then _ else if St.is s _ (run s (m+4) .sum d (.live e))=true then _ else if St.is s _ (run s (m+4) .sum d (.live e))=true then _ else tr s (m+4) .sum d .nil (.live e))=_
  rw [(h m).1,(h m).2,hz.1,hz.2.1,hz.2.2.1,hz.2.2.2];rfl
theorem par_eq {s:Bs} {d e e1 a e2 z:Nat} {A B:Nd} (h:Par s .sum 4 d e e1 A) (ht:Tok s e1 .key a [61] e2) (h' : Par s .sum 4 d e2 z B):Par s .compare 5 d e z (.op [61] a (.cons A (.cons B .nil))):=by
 have hc:St.isCmp s (.live e1)=true:=by
  show (St.is s _ (.live e1)||_||_||_||_||_)=true
  rw [ht.is];rfl
 intro m
 constructor
 ·show (if St.isCmp s (run s (m+4) .sum d (.live e))=true then run s (m+4) .sum d (St.step s (run s (m+4) .sum d (.live e))) else _)=_
  rw [(h m).1,hc,ht.step,(h' m).1];rfl
 ·show (if St.isCmp s (run s (m+4) .sum d (.live e))=true then Nd.op (St.word s (run s (m+4) .sum d (.live e))) (St.at_ s (run s (m+4) .sum d (.live e))) (.cons (tr s (m+4) .sum d .nil (.live e)) (.cons (tr s (m+4) .sum d .nil (St.step s (run s (m+4) .sum d (.live e)))) .nil)) else _)=_
  rw [(h m).1,(h m).2,hc,ht.step,(h' m).2,ht.at_,show St.word s (.live e1)=_ from ht.w];rfl
theorem par_expr {s:Bs} {d e z:Nat} {A:Nd} (h:Par s .compare 5 d e z A) (h0:St.is s [110,111,116] (.live e)=false) (h1:St.is s [97,110,100] (.live z)=false) (h2:St.is s [111,114] (.live z)=false):Par s .expr 8 d e z A:=by
 have hn:Par s .no 6 d e z A:=fun m=>by
  constructor
  ·show (if St.is s _ (.live e)=true then _ else run s (m+5) .compare d (.live e))=_
   rw [h0];exact (h m).1
  ·show (if St.is s _ (.live e)=true then _ else tr s (m+5) .compare d .nil (.live e))=_
   rw [h0];exact (h m).2
 have hb:Par s .both 7 d e z A:=fun m=>by
  constructor
  ·show run s (m+6) .andL d (run s (m+6) .no d (.live e))=_
   rw [(hn m).1]
   show (if St.is s _ (.live z)=true then _ else St.live z)=_
   rw [h1];rfl
  ·show tr s (m+6) .andL d (tr s (m+6) .no d .nil (.live e)) (run s (m+6) .no d (.live e))=_
   rw [(hn m).1,(hn m).2]
   show (if St.is s _ (.live z)=true then _ else A)=_
   rw [h1];rfl
 intro m
 constructor
 ·show run s (m+7) .orL d (run s (m+7) .both d (.live e))=_
  rw [(hb m).1]
  show (if St.is s _ (.live z)=true then _ else St.live z)=_
  rw [h2];rfl
 ·show tr s (m+7) .orL d (tr s (m+7) .both d .nil (.live e)) (run s (m+7) .both d (.live e))=_
  rw [(hb m).1,(hb m).2]
  show (if St.is s _ (.live z)=true then _ else A)=_
  rw [h2];rfl
theorem par_where {s:Bs} {d e a e1 z:Nat} {A:Nd} (ht:Tok s e .key a [119,104,101,114,101] e1) (h:Par s .expr 8 d e1 z A):Par s .where_ 9 d e z (.clause a A):=by
 intro m
 constructor
 ·show (if St.is s _ (.live e)=true then run s (m+8) .expr d (St.step s (.live e)) else _)=_
  rw [ht.is,ht.step,(h m).1];rfl
 ·show (if St.is s _ (.live e)=true then Nd.clause (tokAt s e) (tr s (m+8) .expr d .nil (St.step s (.live e))) else _)=_
  rw [ht.is,ht.step,(h m).2,ht.a];rfl
theorem par_two {s:Bs} {d e e1 a e2 z:Nat} {A B:Nd} (h:Par s .expr 8 d e e1 A) (ht:Tok s e1 .key a [44] e2) (h' : Par s .expr 8 d e2 z B) (hz:St.is s [44] (.live z)=false):Par s .list 10 d e z (.cons A (.cons B .nil)):=by
 intro m
 have e9:run s (m+9) .listL d (.live e1) = .live z:=by
  show (if St.is s _ (.live e1)=true then run s (m+8) .listL d (run s (m+8) .expr d (St.step s (.live e1))) else _)=_
  rw [ht.is,ht.step,(h' m).1,if_pos (by decide)]
  show (if St.is s _ (.live z)=true then _ else St.live z)=_
  rw [hz];rfl
 have t9:tr s (m+9) .listL d .nil (.live e1) = .cons B .nil:=by
  show (if St.is s _ (.live e1)=true then Nd.cons (tr s (m+8) .expr d .nil (St.step s (.live e1))) (tr s (m+8) .listL d .nil (run s (m+8) .expr d (St.step s (.live e1)))) else _)=_
  rw [ht.is,ht.step,(h' m).1,(h' m).2,if_pos (by decide)]
  show Nd.cons B (if St.is s _ (.live z)=true then _ else Nd.nil)=_
  rw [hz];rfl
 constructor
 ·show run s (m+9) .listL d (run s (m+9) .expr d (.live e))=_
  rw [show m+9=(m+1)+8 from rfl,(h (m+1)).1];exact e9
 ·show Nd.cons (tr s (m+9) .expr d .nil (.live e)) (tr s (m+9) .listL d .nil (run s (m+9) .expr d (.live e)))=_
  rw [show m+9=(m+1)+8 from rfl,(h (m+1)).1,(h (m+1)).2];exact congrArg _ t9
theorem par_one {s:Bs} {d e z:Nat} {A:Nd} (h:Par s .expr 8 d e z A) (hz:St.is s [44] (.live z)=false):Par s .list 9 d e z (.cons A .nil):=by
 intro m
 constructor
 ·show run s (m+8) .listL d (run s (m+8) .expr d (.live e))=_
  rw [(h m).1]
  show (if St.is s _ (.live z)=true then _ else St.live z)=_
  rw [hz];rfl
 ·show Nd.cons (tr s (m+8) .expr d .nil (.live e)) (tr s (m+8) .listL d .nil (run s (m+8) .expr d (.live e)))=_
  rw [(h m).1,(h m).2]
  show Nd.cons A (if St.is s _ (.live z)=true then _ else Nd.nil)=_
  rw [hz];rfl
end Go.Proofs.YtgnncnhkgmhngaaGreatDoor.Sp
