import Derived.Test.YtgnncnhkgmhngaaGreatDoorJ44
import Derived.OrdersHeld
set_option maxHeartbeats 4000000
set_option maxRecDepth 100000
namespace Go.Proofs.YtgnncnhkgmhngaaGreatDoor
open Go.RowKit Go.Sort
namespace Sp
def TOk (T:List Tb):Prop:=∀ t∈T,∀ r∈t.rows,List.length r=t.cols.length
theorem findTb_mem {x:Bs} : ∀ {T:List Tb} {t:Tb},findTb x T=some t->t∈T
 | [],_,h=>by simp [findTb] at h
 | u::T,t,h=>by
  rw [findTb] at h
  split at h
  ·injection h with h;rw [h];exact List.mem_cons_self
  ·exact List.mem_cons_of_mem _ (findTb_mem h)
def cellsOf (T:List Tb) (ex:Nd) (tk:List Row) (env:List (List Row)):Row:=match ex with | .none=>tk.flatten | _=>(rn T ex (tk::env)).headD []
theorem rn_sel (T:List Tb) (st:Nat) (ex:Nd) (src:List (Nm×Nm)) (wh:Nd) (env:List (List Row)):rn T (.sel false st ex src wh) env=sortR ((prods (rowsOf T src)).flatMap fun tk=>if holds T wh (tk::env) then [cellsOf T ex tk env] else []):=by
 simp only [rn,Bool.false_eq_true,if_false]
 congr 2
 funext tk
 cases wh <;> rfl
theorem taken_ok {T:List Tb} (hT:TOk T) {src:List (Nm×Nm)} (hf:∀ x∈src,(findTb x.1.1 T).isSome=true) {tk:List Row} (htk:tk∈prods (rowsOf T src)):tk.length=src.length/\∀ i,(h:i<tk.length)->(h' : i<src.length)->tk[i].length=((findTb src[i].1.1 T).getD noTb).cols.length:=by
 obtain ⟨h1,h2⟩:=prods_mem htk
 have hl:(rowsOf T src).length=src.length:=by simp [rowsOf]
 refine ⟨h1.trans hl,fun i hi hi'=>?_⟩
 have hm:=h2 i hi (by omega)
 simp only [rowsOf,List.getElem_map] at hm
 have hs:=hf _ (List.getElem_mem hi')
 obtain ⟨t,ht⟩:=Option.isSome_iff_exists.1 hs
 rw [ht] at hm ⊢
 exact hT t (findTb_mem ht) _ hm
theorem eo_sel {T:List Tb} (hT:TOk T) {src:List (Nm×Nm)} (hf:∀ x∈src,(findTb x.1.1 T).isSome=true) (hc:∀ t∈T,t.cols.length<=50) (hs:src.length<=1000) {env:List (List Row)} {lvs:List Lv} (he:Eo env lvs) (hl:env.length<100000) {tk:List Row} (htk:tk∈prods (rowsOf T src)):Eo (tk::env) (lvT T src::lvs):=by
 obtain ⟨h1,h2⟩:=taken_ok hT hf htk
 refine ⟨by simp;omega,fun o lv ho=>?_⟩
 match o with
 | 0=>
  simp only [List.getElem?_cons_zero,Option.some.injEq] at ho
  subst ho
  refine ⟨tk,rfl,by omega,fun i x hx=>?_⟩
  have hi:i<src.length:=by
   have:=(List.getElem?_eq_some_iff.1 hx).1
   simpa [lvT] using this
  have hx' : x=(src[i].2.1,(findTb src[i].1.1 T).getD noTb):=by
   have:=(List.getElem?_eq_some_iff.1 hx).2
   simpa [lvT] using this.symm
  have hit:i<tk.length:=by omega
  refine ⟨tk[i],List.getElem?_eq_getElem hit,?_,?_⟩
  ·rw [h2 i hit hi]
   obtain ⟨t,ht⟩:=Option.isSome_iff_exists.1 (hf _ (List.getElem_mem hi))
   rw [ht]
   have:=hc t (findTb_mem ht)
   simp only [Option.getD_some]
   omega
  ·rw [hx',h2 i hit hi]
   exact Nat.le_refl _
 | o+1=>
  simp only [List.getElem?_cons_succ] at ho
  obtain ⟨tk',e,r⟩:=he.at_ o lv ho
  exact ⟨tk',by simpa using e,r⟩
end Sp
theorem ta_rs (v:Option Addr) (w:World):Sem.run Tryz.prog (Instr.typeAssert (.iface 278 (.pointer v)) 179 278 true) w = .ok (.tuple #[.pointer v, .bool true]) w:=by kernel_rfl
theorem rquery_sel {b:Nat} {ia:Option Addr} {w:World} {P:Value->World->Prop} (hC:Calls Tryz.prog 154 #[.pointer (some ⟨b,0,none⟩), .pointer ia] w fun r w'=>∃ v,r = .returned v/\P v w') :
  Calls Tryz.prog 93 #[.iface 278 (.pointer (some ⟨b,0,none⟩)), .pointer ia] w fun r w'=>∃ v,r = .returned v/\P v w':=by
 have HC:=hid hC
 have t1:=ta_rs
 clear hC
 go_enter Tryz.func93,Tryz.ntmps93
 go_wp2_with fail
 refine HC.out.mono ?_
 rintro e w1 ⟨v,rfl,h⟩
 have H:=hid h
 clear h
 go_wp2_with fail
 exact bodyPost_ret (v:=v) (by simp [results,Tryz.results93,go_sem]) rfl ⟨v,rfl,H.out⟩
theorem rq_sel {k N lo hi st:Nat} {T:List Sp.Tb} {ex wh:Sp.Nd} {src:List (Sp.Nm×Sp.Nm)} {tv qv iv:Value} {env:List (List Sp.Row)} {lvs:List Sp.Lv} {w:World} (wd:Nat)
  (hN:N<=90000) (hw:Sp.wf N (.sel false st ex src wh) .query) (hp:Sp.plain (.sel false st ex src wh)=true) (hb:Sp.bd T (.sel false st ex src wh) lvs) (ht:Tbs k w T tv) (hT:Sp.TOk T) (hTc:∀ t∈T,t.cols.length<=50)
  (ha:Arn w tv env iv) (he:Sp.Eo env lvs) (hel:env.length<100000) (hr:Rp w (.sel false st ex src wh) lo hi qv) (hh:hi<=w.heap.size) (hs:src ≠ []) (hsl:src.length<=1000) (hpl:(prods (Sp.rowsOf T src)).length<=1000)
  (hwd:∀ tk∈prods (Sp.rowsOf T src),(Sp.cellsOf T ex tk env).length=wd) (hwb:wd<=100000) :
  Calls Tryz.prog 93 #[qv,iv] w fun r w'=>∃ v,r = .returned v/\RsO w.heap.size wd w' v (Sp.rn T (.sel false st ex src wh) env)/\Gr w w':=by
 apply calls_grV
 obtain ⟨b,xv,fv,wv,m1,m2,m3,m4,rfl,l1,l2,hS,hS2,hA,hI,hX,hF,hn,hR⟩:=hr
 obtain ⟨_,hex,_,hwh⟩:=hw
 obtain ⟨hf,_,hbe,hbw⟩:=hb
 simp only [Sp.plain,Bool.and_eq_true] at hp
 unfold Sub at hS hS2
 obtain ⟨blk,c,rfl,_,q1,q2,q3,q4⟩:∃ blk c,fv = .slice (some ⟨blk,0,none⟩) src.length c/\src ≠ []/\m2<=blk/\blk<m3/\blk<w.heap.size/\Srcs w blk 0 src:=by
  rcases hF with ⟨e,_⟩ | h
  ·exact absurd e hs
  ·exact h
 obtain ⟨ib,rfl,hib,_⟩:=ha.ptr
 rw [Sp.rn_sel]
 have hEo:=fun tk htk=>Sp.eo_sel (tk:=tk) hT hf hTc hsl he hel htk
 have hH:=rh_main T N hN wh hp.2 hwh
 refine rquery_sel (callsIn_wide.1 (rselected_in 6 (Nat.le_refl _) (fun tk=>Sp.holds T wh (tk::env)) (fun tk=>Sp.cellsOf T ex tk env) hA ha ht q4 q3 hs hsl hf hpl ?_ ?_ hwd hwb))
 ·intro tk htk A iv' hbA haA
  exact hH m3 m4 tv wv iv' (tk::env) (Sp.lvT T src::lvs) A haA (hEo tk htk) hbw (hR.belN hbA (by omega) hn) (by have:=hbA.size;omega)
 ·intro tk htk A iv' hbA haA
  have hA' : At A b [.bool false, .int .i64 (st:Int),xv, .slice (some ⟨blk,0,none⟩) src.length c,wv]:=hA.same hbA.size (hbA.block b (by omega))
  obtain ⟨hl,hcw⟩:=Sp.taken_ok hT hf htk
  rcases hX with ⟨rfl,rfl⟩ | ⟨hne,hX⟩
  ·refine (rcells_star hA' haA ?_ (by omega) ?_)
   ·intro e
    rw [e] at hl
    exact hs (List.eq_nil_of_length_eq_zero hl.symm)
   ·have:=hwd tk htk
    simp only [Sp.cellsOf] at this
    omega
  ·have hex' : 1<=ex.len/\ex.len<=N/\Sp.wf N ex .list:=by
    rcases hex with h | h
    ·exact absurd h hne
    ·exact h
   obtain ⟨h1,h2,h3⟩:=hex'
   obtain ⟨e1,e2,e3⟩:=els_lapp N ex h3
   have hval:Sp.cellsOf T ex tk env=ex.els.map fun n=>Sp.val (Sp.rn T n (tk::env)):=by
    have:Sp.cellsOf T ex tk env=(Sp.rn T ex (tk::env)).headD []:=by
     cases ex <;> first | rfl | exact absurd rfl hne
    rw [this,e1,Sp.rn_list]
    have e4:(Sp.lapp ex.els .nil).els=ex.els:=by rw [<- e1]
    rw [e4];rfl
   have hbe':=Sp.bd_els ex hbe
   have hXx:=(rx_main T N hN ex hp.1).2 h3
   rw [hval]
   generalize hns:ex.els=ns at *
   rw [e1] at hX
   obtain ⟨g,off,n,cp,rfl,hbl⟩:∃ g off n c,xv = .slice (some ⟨g,off,none⟩) n c/\g<w.heap.size:=by
    cases ns with
    | nil=>simp at e2;omega
    | cons n0 ns'=>
     simp only [Sp.lapp,List.foldr_cons] at hX
     obtain ⟨blk,off,n,c,v,m1,m2,e,hl,_⟩:=hX
     exact ⟨blk,off,_,c,e,hl⟩
   obtain ⟨hnn,xs,hel',hxs⟩:=Rp.els ns m1 m2 g off n cp hX
   obtain ⟨ib',rfl,_,_⟩:=haA.ptr
   have hlen:(ns.map fun n=>Sp.val (Sp.rn T n (tk::env))).length=n:=by simp [hnn]
   refine rcells_exprs (g:=g) (off:=off) (cap:=cp) (by rw [hlen];exact hA') (by rw [hlen];omega) (Nat.lt_of_lt_of_le hbl hbA.size) (fun i hi'=>?_)
   rw [hlen] at hi'
   have hin:i<ns.length:=by omega
   have hsp:ns=ns.take i++ns[i]::ns.drop (i+1):=by rw [<- List.drop_eq_getElem_cons hin,List.take_append_drop]
   rw [hsp] at hel'
   obtain ⟨p1,p2,x,exx,r1,r2,r3,r4,r5,r6,_⟩:=hel'.upd
   rw [List.length_take,Nat.min_eq_left (by omega)] at exx
   obtain ⟨tt,pp,rfl⟩:=r6.ifc (e3 _ (List.getElem_mem hin))
   refine ⟨tt,_,(hbA.cell (p:=⟨g,off+i,none⟩) hbl).trans (hxs i _ exx),fun W hbW=>?_⟩
   have hbW' : RowKit.Below w.heap.size w W:=hbA.trans (hbW.mono hbA.size)
   have:=hXx ns[i] (List.getElem_mem hin) p1 p2 tv _ _ (tk::env) (Sp.lvT T src::lvs) W (haA.bel hbW) (hEo tk htk) (hbe' _ (List.getElem_mem hin)) (r6.belN hbW' (by omega) r5) (by have:=hbW'.size;omega)
   simpa using this
theorem exprs_calls {T:List Sp.Tb} {N:Nat} (hN:N<=90000) {nd:Sp.Nd} (hw:Sp.wf N nd .list) (hl:1<=nd.len) (hp:Sp.plain nd=true) {lo hi:Nat} {sv:Value} {env:List (List Sp.Row)} {lvs:List Sp.Lv} {w:World} (hb:Sp.bd T nd lvs) (he:Sp.Eo env lvs) (hr:Rp w nd lo hi sv) (hh:hi<=w.heap.size) :
  ∃ g off cap,sv = .slice (some ⟨g,off,none⟩) nd.len cap/\g<w.heap.size/\((Sp.rn T nd env).headD []).length=nd.len/\∀ (W:World) (tv:Value) (ia:Option Addr),RowKit.Below w.heap.size w W->Arn W tv env (.pointer ia)->∀ i,(hi:i<((Sp.rn T nd env).headD []).length)->∃ t p,W.cell? ⟨g,off+i,none⟩=some (.iface t p)/\∀ W',RowKit.Below W.heap.size W W'->Calls Tryz.prog 194 #[.iface t p, .pointer ia] W' fun e W''=>e = .returned (enV ((Sp.rn T nd env).headD [])[i])/\Gr W' W'':=by
 obtain ⟨e1,e2,e3⟩:=els_lapp N nd hw
 have hval:(Sp.rn T nd env).headD []=nd.els.map fun n=>Sp.val (Sp.rn T n env):=by
  rw [e1,Sp.rn_list]
  have e4:(Sp.lapp nd.els .nil).els=nd.els:=by rw [<- e1]
  rw [e4];rfl
 have hbe':=Sp.bd_els nd hb
 have hXx:=(rx_main T N hN nd hp).2 hw
 rw [hval]
 generalize hns:nd.els=ns at *
 rw [e1] at hr
 obtain ⟨g,off,n,cp,rfl,hbl⟩:∃ g off n c,sv = .slice (some ⟨g,off,none⟩) n c/\g<w.heap.size:=by
  cases ns with
  | nil=>simp at e2;omega
  | cons n0 ns'=>
   simp only [Sp.lapp,List.foldr_cons] at hr
   obtain ⟨blk,off,n,c,v,m1,m2,e,hl,_⟩:=hr
   exact ⟨blk,off,_,c,e,hl⟩
 obtain ⟨hnn,xs,hel',hxs⟩:=Rp.els ns lo hi g off n cp hr
 refine ⟨g,off,cp,by rw [hnn,e2],hbl,by simp [e2],fun W tv ia hbW haW i hi'=>?_⟩
 have hin:i<ns.length:=by simpa using hi'
 have hsp:ns=ns.take i++ns[i]::ns.drop (i+1):=by rw [<- List.drop_eq_getElem_cons hin,List.take_append_drop]
 rw [hsp] at hel'
 obtain ⟨p1,p2,x,exx,r1,r2,r3,r4,r5,r6,_⟩:=hel'.upd
 rw [List.length_take,Nat.min_eq_left (by omega)] at exx
 obtain ⟨tt,pp,rfl⟩:=r6.ifc (e3 _ (List.getElem_mem hin))
 refine ⟨tt,_,(hbW.cell (p:=⟨g,off+i,none⟩) hbl).trans (hxs i _ exx),fun W' hbW'=>?_⟩
 have hbb:RowKit.Below w.heap.size w W':=hbW.trans (hbW'.mono hbW.size)
 have:=hXx ns[i] (List.getElem_mem hin) p1 p2 tv _ _ env lvs W' (haW.bel hbW') he (hbe' _ (List.getElem_mem hin)) (r6.belN hbb (by omega) r5) (by have:=hbb.size;omega)
 simpa using this
theorem rows_next {wr w3 w5:World} {base j vc g' c' : Nat} {va:Option Addr} {vs:List Value} {rows:List (List Sv.Val)} {u:Value} {r:List Sv.Val} (o:wr.ownsRow base 41 1 (.slice va j vc) j vs) (a:Al (RwC (fun b=>base<=b/\some b≠(Value.slice va j vc).ownBlock) wr) vs rows) (b3:RowKit.Below wr.heap.size wr w3) (_hz:wr.heap.size<=w3.heap.size) (ou:RwC (fun b=>wr.heap.size<=b) w3 u r) (hbase:base<=wr.heap.size)
  (hgrow:(w3.alloc (.cells #[u] 41)).grownBy w5 (Value.slice va j vc).ownBlock) (hat:(Value.slice va j vc).ownBlock=some g'\/g'=w3.heap.size+1):Al (RwC (fun b=>base<=b/\some b≠(Value.slice (some ⟨g',0,none⟩) (j+1) c').ownBlock) w5) (vs ++ [u]) (rows ++ [r]):=by
 have hblk:=ownsV_block o
 have hz5:w3.heap.size+1<=w5.heap.size:=by have:=hgrow.size;simpa using this
 have hrow:∀ (y:Value) (q:List Sv.Val),RwC (fun b=>base<=b/\some b≠(Value.slice va j vc).ownBlock) w3 y q->RwC (fun b=>base<=b/\some b≠(Value.slice (some ⟨g',0,none⟩) (j+1) c').ownBlock) w5 y q:=by
  intro y q hy
  rcases hy with h | ⟨b,o,c,ev,⟨hd,hne⟩,hv⟩
  ·exact .inl h
  ·have hlb:=hv.lb
   refine .inr ⟨b,o,c,ev,⟨hd,?_⟩,hv.blk (by omega) ((hgrow.block b (by simp;omega) hne).trans (Below.heap_alloc w3 _ b hlb))⟩
   intro e
   have e' : b=g':=by simpa [Value.ownBlock] using e
   rcases hat with h | h
   ·exact hne (by rw [e',h])
   ·omega
 refine Al.snoc (a.mono fun y q hy=>hrow y q (hy.bel b3)) (hrow _ _ (ou.to fun b hb _=>⟨by omega,fun e=>by have:=(hblk b e.symm).2;omega⟩))
theorem newRows_any {T:List Sp.Tb} {N a hi lo:Nat} {nm:Sp.Nm} {ns:List (Nat×Sp.Nd)} {ta:Option Addr} {tn tc:Nat} {pv:Value} {w:World} (hN:N<=90000) (hI:InV w a nm ns lo hi pv) (hh:hi<=w.heap.size) (hn:ns.length<=1000)
  (hw:∀ x∈ns,Sp.wf N x.2 .list/\1<=x.2.len/\x.2.len<=N/\Sp.plain x.2=true/\Sp.bd T x.2 []) :
  Calls Tryz.prog 147 #[.slice ta tn tc,pv] w fun e w'=>∃ v,e = .returned v/\(∃ xs,w'.ownsRow w.heap.size 41 1 v xs.length xs/\Al (RwC (fun b=>w.heap.size<=b) w') xs (ns.map fun x=>(Sp.rn T x.2 []).headD []))/\RowKit.Below w.heap.size w w':=by
 obtain ⟨q,sl,rfl,l1,l2,hA,g,kc,xs,h',rfl,m1,m2,⟨m3,m4⟩,hL,hcl⟩:=hI
 have b3:=hA.k3
 have b4:=hA.k4
 have hqw:=hA.1
 have HL:=hid hL
 have HW:=hid hw
 have HCl:=hid hcl
 obtain ⟨n,hnn⟩:∃ n,n=ns.length:=⟨_,rfl⟩
 have HN:=hid hnn
 rw [<- hnn] at b3 hn m4
 clear hA hL hw hcl hnn
 go_enter Tryz.func147,Tryz.ntmps147
 obtain ⟨i0,ji,jz0,jz1,jz2⟩:=info_parts infoRowC
 go_wp2_with fail
 go_loopw [5,25] (fun v i wr=>∃ (j:Nat) (vs:List Value) (va:Option Addr) (vc:Nat),j<=n/\i = .int .i64 (j:Nat)/\v = .slice va j vc/\Hid (wr.ownsRow w.heap.size 41 1 (.slice va j vc) j vs)/\Hid (Al (RwC (fun b=>w.heap.size<=b/\some b≠(Value.slice va j vc).ownBlock) wr) vs ((ns.take j).map fun x=>(Sp.rn T x.2 []).headD []))/\Hid (RowKit.Below w.heap.size w wr)) (fun _ i _=>n - (intOf i).toNat)
 case atStart=>exact ⟨0, [],none,0,Nat.zero_le _,rfl,rfl,World.ownsRow_nil _ _ _ _,trivial,Below.refl _ _⟩
 case round=>
  obtain ⟨j,vs,va,vc,hj,rfl,rfl,HO,HA,HB⟩:=hrel
  by_cases hlt:j<n
  ·have hjs:j<ns.length:=by have:=HN.out;omega
   have hsp:ns=ns.take j++ns[j]::ns.drop (j+1):=by rw [<- List.drop_eq_getElem_cons hjs,List.take_append_drop]
   have hL2:=HL.out
   rw [hsp] at hL2
   obtain ⟨p1,p2,x,ex,q1,q2,q3,q4,⟨sv,rfl,hrq,hsi⟩,_⟩:=LsR.upd (fun w' n x m1 m2 hs h hk=>RowP.frame hs n x m1 m2 h hk) _ _ _ _ _ _ hL2
   rw [List.length_take,Nat.min_eq_left (by omega)] at ex
   obtain ⟨w1',w2',w3',w4',w5'⟩:=HW.out ns[j] (List.getElem_mem hjs)
   have hflat:=flat_pos 2 xs (LsR.lens (fun n x m1 m2 h=>by obtain ⟨v,e,_⟩:=h;rw [e];rfl) HL.out) j
   have y0:=HCl.out (j*2+0) _ ((hflat 0 _ ex (by omega)).trans rfl)
   have y1:=HCl.out (j*2+1) _ ((hflat 1 _ ex (by omega)).trans rfl)
   rw [Nat.add_zero] at y0
   have hgw:g<w.heap.size:=by omega
   have c0:=(HB.out.cell (p:=⟨g,j*2,none⟩) hgw).trans y0
   have c1:=(HB.out.cell (p:=⟨g,j*2+1,none⟩) hgw).trans y1
   obtain ⟨eg,eoff,ecap,rfl,heg,hvl,hE⟩:=exprs_calls hN w1' w2' w4' w5' (⟨by simp,fun o lv h=>by simp at h⟩:Sp.Eo [] []) hrq (by omega)
   have HTk:Hid ((ns.take (j+1)).map (fun x=>(Sp.rn T x.2 []).headD [])=(ns.take j).map (fun x=>(Sp.rn T x.2 []).headD []) ++ [(Sp.rn T ns[j].2 []).headD []]):=by show _=_;rw [List.take_succ_eq_append_getElem hjs,List.map_append];rfl
   have hln:ns[j].2.len<=90000:=by omega
   generalize (Sp.rn T ns[j].2 []).headD []=vals at HTk hvl hE
   rw [<- hvl] at c1 hln
   have HE:=hid hE
   obtain ⟨an,han⟩:∃ an,an=ns[j].1:=⟨_,rfl⟩
   rw [<- han] at c0
   clear hE hvl han hrq hsi hflat y0 y1 ex hL2 hsp w1' w2' w3' w4' w5'
   have hjb:j<1000:=by omega
   have hgl:g<wr.heap.size:=by have:=HB.out.size;omega
   obtain ⟨wA,hwA⟩:∃ wA,wA=(wr.alloc (.cells #[.int .i64 (an:Int), .slice (some ⟨eg,eoff,none⟩) vals.length ecap] 239)):=⟨_,rfl⟩
   have GA:Hid (Gr wr wA.drew):=by show Gr _ _;rw [hwA];exact ((Gr.refl wr).alloc _).drew
   have hzA:wA.heap.size=wr.heap.size+1:=by rw [hwA];simp
   have z1:wA.cell? ⟨wr.heap.size,1,none⟩=some (.slice (some ⟨eg,eoff,none⟩) vals.length ecap):=by rw [hwA];simp
   have HBA:Hid (RowKit.Below w.heap.size w wA.drew):=HB.out.trans (GA.out.below.mono HB.out.size)
   have HOA:=hid (ownsV_below HO.out GA.out.below)
   go_wp2_with fail
   rw [<- hwA]
   clear hwA
   go_region_law (first
    | (have _hx:=hO5;refine step_append_lies _ (by rfl) _ _ _ (by rfl) w.heap.size 41 i0 (.slice none 0 0) 1 24 Tryz.underlying32 ji jz0 jz1 jz2 rfl (by omega) (.slice va j vc) j vs (by rfl) hO5 ⟨w3.heap.size,0,none⟩ 1 1 [.slice ua vals.length uc] (by rfl) (by rfl) (World.news_of_block (cs:=#[.slice ua vals.length uc]) (t:=41) (fr:=(0,0)) (heap_alloc_new w3 _)) (one_slice _ _ _) (by omega) (by unfold maxLen;omega) (by omega) (by simp;omega) (w3.heap.size+1) (by simp) ?_;intro g' kc' w5 hown hgrow hat hlt')
    | (go_simp;go_at_call 94;refine (nothing_any _ _ _ _).mono ?_;rintro e1 w1 ⟨v1,rfl,ar1,g1⟩;obtain ⟨nb,rfl,hnb,_⟩:=ar1.ptr;have HAr:=hid ar1;have HG1:=hid (GA.out.trans g1);have z2:=(g1.cell (p:=⟨wr.heap.size,1,none⟩) (by show wr.heap.size<wA.heap.size;omega)).trans z1;have hz1:=HG1.out.size;clear ar1 g1)
    | (have _hx:=HAr;go_simp;go_at_call 189;refine (rexprs_any _ _ _ _ _).mono ?_;rintro e2 w2 ⟨rfl,hw2⟩;have HW2:=hid hw2;clear hw2)
    | (have _hx:=HW2;go_simp;go_at_call 188;rw [HW2.out];refine (row_exprs (by omega) (Nat.lt_of_lt_of_le heg (Nat.le_trans HB.out.size hz1)) (HE.out w1 _ _ (HB.out.trans (HG1.out.below.mono HB.out.size)) HAr.out)).mono ?_;rintro e3 w3 ⟨u,rfl,ou,bu⟩;obtain ⟨ua,uc,rfl⟩:=ou.sl;have HOu:=hid ou;have HBu:=hid bu;have hO5:(w3.alloc (.cells #[.slice ua vals.length uc] 41)).ownsRow w.heap.size 41 1 (.slice va j vc) j vs:=ownsV_below (ownsV_below (ownsV_below HO.out HG1.out.below) bu) ((Gr.refl w3).alloc _).below;have hz3:w.heap.size<=w3.heap.size:=Nat.le_trans HB.out.size (Nat.le_trans hz1 bu.size);clear ou bu))
   all_goals
    have HB3:Hid (RowKit.Below wr.heap.size wr w3):=HG1.out.below.trans (HBu.out.mono hz1)
    have HX5:=hid (rows_next (c':=kc') HO.out HA.out HB3.out HB3.out.size (HOu.out.rwc.to fun b hb _=>(by have:w1.heap.size<=b:=hb;omega)) HB.out.size hgrow hat)
    have HX6:=hid hown
    have HX7:=hid (below_grown ((HB.out.trans (HB3.out.mono HB.out.size)).alloc (Nat.le_trans HB.out.size HB3.out.size) _) hgrow hO5 (Nat.le_refl _))
    clear hown hgrow hat hO5 _hx
    go_wp2_with fail
    go_roundw
    case rel=>exact ⟨j+1,vs ++ [.slice ua vals.length uc],some ⟨g',0,none⟩,kc',by omega,by go_num,rfl,HX6,by rw [HTk.out];exact HX5,HX7⟩
    case measure=>simp [intOf];omega
  ·obtain rfl:j=n:=by omega
   have HA2:Hid (Al (RwC (fun b=>w.heap.size<=b) wr) vs (ns.map fun x=>(Sp.rn T x.2 []).headD [])):=by
    have:=HA.out
    rw [HN.out,List.take_length] at this
    exact this.mono fun a b h=>h.to fun _ h _=>h.1
   have hvl:vs.length=j:=by have:=HO.out.1;omega
   clear hlt
   go_wp2_with fail
   go_ret
   exact ⟨_,rfl,⟨vs,by rw [hvl];exact HO.out,HA2.out⟩,HB.out⟩
abbrev enRes (err at_ width:Int) (rv:Value) (count:Int):Value := .agg #[.int .i64 err, .int .i64 at_, .int .i64 width,rv, .int .i64 count]
theorem tfindC {C:Nat->Prop} {w:World} {T:List Sp.Tb} {v:Value} {x:Sp.Bs} {t:Sp.Tb} (h:TbsC C w T v) (hf:Sp.findTb x T=some t) :
  ∃ tv,Tb1C C w t tv/\∀ w1,RowKit.Below w.heap.size w w1->Calls Tryz.prog 146 #[v, .string (bz x)] w1 fun e w'=>e = .returned (.tuple #[enT tv, .bool true])/\Gr w1 w':=by
 rcases h.2 with ⟨rfl,rfl⟩ | ⟨b,off,c,V,rfl,hC,hl,ha⟩
 ·simp [Sp.findTb] at hf
 ·have key:∀ (T:List Sp.Tb) (V:List TV),Al (Tb1C C w) T V->Sp.findTb x T=some t->∃ tv,findT x V=some tv/\Tb1C C w t tv:=by
   intro T
   induction T with
   | nil=>intro V _ hf;simp [Sp.findTb] at hf
   | cons u T ih=>
    intro V ha hf
    match V,ha with
    | v::V,ha=>
     have e:v.name.toList=u.name:=by rw [ha.1.name,bz_list]
     rw [Sp.findTb] at hf
     simp only [findT,e]
     cases hx:(u.name == x)
     ·rw [hx] at hf;simpa using ih V ha.2 (by simpa using hf)
     ·rw [hx] at hf
      simp only [if_true,Option.some.injEq] at hf
      subst hf
      exact ⟨v,by simp,ha.1⟩
  obtain ⟨tv,e1,e2⟩:=key T V ha hf
  refine ⟨tv,e2,fun w1 g=>?_⟩
  have F:=find_any b off T.length c V (bz x) w1 ha.len (by have:=h.1;omega) (hl.blk g.size (g.block b hl.lb))
  rw [bz_list,e1] at F
  exact F
theorem TbsC.to {C D:Nat->Prop} {w:World} {T:List Sp.Tb} {v:Value} (h:TbsC C w T v) (hd:∀ b,C b->b<w.heap.size->D b):TbsC D w T v:=by
 refine ⟨h.1,?_⟩
 rcases h.2 with h | ⟨b,off,c,V,ev,hC,hl,ha⟩
 ·exact .inl h
 ·exact .inr ⟨b,off,c,V,ev,hd b hC hl.lb,hl,ha.mono fun t V h=>h.to hd⟩
theorem Bk.five {w:World} {q:Nat} {x0 x1 x2 x3 x4:Value} (h:Bk w q [x0,x1,x2,x3,x4]):(w.cell? ⟨q,0,none⟩=some x0/\w.cell? ⟨q,1,none⟩=some x1/\w.cell? ⟨q,2,none⟩=some x2/\w.cell? ⟨q,3,none⟩=some x3/\w.cell? ⟨q,4,none⟩=some x4)/\w.frozen? ⟨q,0,none⟩=false/\w.frozen? ⟨q,1,none⟩=false/\w.frozen? ⟨q,2,none⟩=false/\w.frozen? ⟨q,3,none⟩=false/\w.frozen? ⟨q,4,none⟩=false:=
 ⟨⟨h.c 0 (by simp),h.c 1 (by simp),h.c 2 (by simp),h.c 3 (by simp),h.c 4 (by simp)⟩,h.f 0,h.f 1,h.f 2,h.f 3,h.f 4⟩
theorem heap_set5 {w:World} {q j:Nat} (h:j≠q) (a b c d e:Value):(((((w.setCell ⟨q,0,none⟩ a).setCell ⟨q,1,none⟩ b).setCell ⟨q,2,none⟩ c).setCell ⟨q,3,none⟩ d).setCell ⟨q,4,none⟩ e).heap[j]?=w.heap[j]?:=
 (Below.heap_setCell _ _ _ _ h).trans ((Below.heap_setCell _ _ _ _ h).trans ((Below.heap_setCell _ _ _ _ h).trans ((Below.heap_setCell _ _ _ _ h).trans (Below.heap_setCell _ _ _ _ h))))
theorem below_set5 {n:Nat} {v w:World} {q:Nat} (h:RowKit.Below n v w) (hq:n<=q) (a b c d e:Value):RowKit.Below n v (((((w.setCell ⟨q,0,none⟩ a).setCell ⟨q,1,none⟩ b).setCell ⟨q,2,none⟩ c).setCell ⟨q,3,none⟩ d).setCell ⟨q,4,none⟩ e):=
 ((((h.setCell (p:=⟨q,0,none⟩) hq _).setCell (p:=⟨q,1,none⟩) hq _).setCell (p:=⟨q,2,none⟩) hq _).setCell (p:=⟨q,3,none⟩) hq _).setCell (p:=⟨q,4,none⟩) hq _
theorem with_tbs {D:Nat->Prop} {w w' : World} {T:List Sp.Tb} {t:Sp.Tb} {VL:List TV} {V:TV} {v' : Value} (hD:∀ j,w.heap.size<=j->D j) (ha:Al (Tb1C D w) T VL) (hV:Tb1C D w t V) (o:OwT w.heap.size w' v' (keptT V.name.toList VL ++ [V])) (hb:RowKit.Below w.heap.size w w') (hl:VL.length<=899):TbsC D w' (Sp.withT t T) v':=by
 have e:V.name.toList=t.name:=by rw [hV.name,bz_list]
 rw [e] at o
 have h2:(keptT t.name VL).length<=VL.length:=keptT_le _ _
 refine TbsC.owned o hD ?_ (by simp;omega)
 exact ((keptT_al t.name ha).mono fun _ _ h=>h.bel hb).app ⟨hV.bel hb,trivial⟩
theorem InV.bel {w w' : World} {a:Nat} {nm:Sp.Nm} {ns:List (Nat×Sp.Nd)} {lo hi:Nat} {v:Value} (h:InV w a nm ns lo hi v) (g:RowKit.Below w.heap.size w w') (hh:hi<=w.heap.size):InV w' a nm ns lo hi v:=by
 obtain ⟨q,sl,e,a1,a2,hA,hL⟩:=h
 exact ⟨q,sl,e,a1,a2,hA.same g.size (g.block q hA.1),hL.frame (fun n x m1 m2 h hk=>RowP.frame g.size n x m1 m2 h hk) fun k _ h2=>g.block k (by omega)⟩
theorem rinsert_any {C:Nat->Prop} {T:List Sp.Tb} {t:Sp.Tb} {N a hi lo:Nat} {nm:Sp.Nm} {ns:List (Nat×Sp.Nd)} {tv pv:Value} {w:World} (hC:∀ j,w.heap.size<=j->C j) (ht:TbsC C w T tv) (hf:Sp.findTb nm.1 T=some t) (hrN:t.rows.length<=100) (hN:N<=90000) (hI:InV w a nm ns lo hi pv) (hh:hi<=w.heap.size) (hn:ns.length<=800)
  (hw:∀ x∈ns,Sp.wf N x.2 .list/\1<=x.2.len/\x.2.len<=N/\Sp.plain x.2=true/\Sp.bd T x.2 []) (hTl:T.length<=800) :
  Calls Tryz.prog 89 #[tv,pv] w fun e w'=>∃ v,e = .returned v/\(∃ tv',(100<t.rows.length+ns.length/\v = .tuple #[tv,enRes 8 0 0 (.slice none 0 0) 0])\/(t.rows.length+ns.length<=100/\v = .tuple #[tv',enRes 0 0 0 (.slice none 0 0) (ns.length:Nat)]/\TbsC C w' (Sp.withT { t with rows:=t.rows++ns.map fun x=>(Sp.rn T x.2 []).headD [] } T) tv'))/\RowKit.Below w.heap.size w w':=by
 have ht:=ht.to (D:=fun b=>(C b/\b<w.heap.size)\/w.heap.size+1<=b) fun b h1 h2 => .inl ⟨h1,h2⟩
 obtain ⟨V,hV,hFd⟩:=tfindC ht hf
 have HT:=hid ht
 have HFd:=hid hFd
 have HV:=hid hV
 have HI:=hid hI
 obtain ⟨q,sl,rfl,l1,l2,hA,_⟩:=hI
 have b1:=hA.k1
 have hqw:=hA.1
 obtain ⟨ta,tn,tc,rfl⟩:∃ a n c,tv = .slice a n c:=by
  rcases ht.2 with ⟨_,e⟩ | ⟨b,off,c,V,e,_⟩
  ·exact ⟨_,_,_,e⟩
  ·exact ⟨_,_,_,e⟩
 have HW:=hid hw
 have HC:=hid hC
 have hrl:=hV.rl
 obtain ⟨R,hR⟩:∃ R,R=t.rows.length:=⟨_,rfl⟩
 have HR:=hid hR
 rw [<- hR] at hrl hrN
 obtain ⟨n,hnn⟩:∃ n,n=ns.length:=⟨_,rfl⟩
 have HN:=hid hnn
 rw [<- hnn] at hn
 rw [<- hR,<- hnn]
 clear ht hV hFd hA hw hC hR hnn
 obtain ⟨vn,ca,cl,cc,ra,rl,rc⟩:=V
 simp only [] at hrl
 subst hrl
 go_enter Tryz.func89,Tryz.ntmps89
 have G0:=hid ((Gr.refl w).alloc (.cells #[.int .i64 0, .int .i64 0, .int .i64 0, .slice none 0 0, .int .i64 0] 56))
 go_wp2_with fail
 refine (HFd.out _ G0.out.below).mono ?_
 rintro e w1 ⟨rfl,g1⟩
 have G1:=hid (G0.out.trans g1)
 have HG01:=hid g1
 have G2:=hid ((G0.out.trans g1).alloc (.cells #[.string vn, .slice ca cl cc, .slice ra rl rc] 187))
 have HNr:=hid (newRows_any (ta:=ta) (tn:=tn) (tc:=tc) hN (HI.out.bel G2.out.below hh) (Nat.le_trans hh G2.out.size) (by have:=HN.out;omega) HW.out)
 clear g1
 go_wp2_with fail
 refine HNr.out.mono ?_
 rintro e w3 ⟨av,rfl,⟨xs,o3,a3⟩,b3⟩
 have hxn:xs.length=n:=by rw [a3.len,List.length_map];exact HN.out.symm
 obtain ⟨xa,xc,rfl⟩:∃ a c,av = .slice a n c:=by
  obtain ⟨_,h | ⟨g',cap,cur,hv,_⟩⟩:=o3
  ·exact ⟨none,0,by rw [h.1,<- hxn,h.2]⟩
  ·exact ⟨_,_,by rw [<- hxn];exact hv⟩
 have HO3:Hid (w3.ownsRow (w1.heap.size+1) 41 1 (.slice xa n xc) n xs):=by
  show World.ownsRow _ _ _ _ _ _ _
  rw [hxn] at o3
  simpa using o3
 have HA3:=hid a3
 have HB3:Hid (RowKit.Below w.heap.size w w3):=G2.out.below.trans (b3.mono G2.out.size)
 have HBx:=hid b3
 have HT3:Hid (B3 w3 w1.heap.size (.string vn) (.slice ca cl cc) (.slice ra rl rc)):=(B3.new w1 _ _ _ _).same b3.size (b3.block _ (by simp))
 obtain ⟨t0,t1,t2,t3,t4,t5,t6⟩:=HT3.out
 have hz1:=G1.out.size
 clear o3 a3 b3 HNr hxn
 have HB5:Hid (Bk w3 w.heap.size [.int .i64 0, .int .i64 0, .int .i64 0, .slice none 0 0, .int .i64 0]):=by
  have h1:=Bk.new w #[.int .i64 0, .int .i64 0, .int .i64 0, .slice none 0 0, .int .i64 0] 56
  have hlt:w.heap.size<w1.heap.size:=by have:=HG01.out.size;simp at this;omega
  have h2:Bk w1 w.heap.size [.int .i64 0, .int .i64 0, .int .i64 0, .slice none 0 0, .int .i64 0]:=h1.below HG01.out.below
  exact (h2.alloc _).below HBx.out
 obtain ⟨⟨k0,k1,k2,k3,k4⟩,f0,f1,f2,f3,f4⟩:=HB5.out.five
 by_cases hgt:100<rl+n
 ·go_wp2_with fail
  refine bodyPost_ret (v := .tuple #[.slice ta tn tc,enRes 8 0 0 (.slice none 0 0) 0]) (by simp [results,Tryz.results89,go_sem,k0,k1,k2,k3,k4]) rfl ⟨_,rfl,⟨.slice ta tn tc, .inl ⟨hgt,rfl⟩⟩,?_⟩
  exact below_set5 HB3.out (Nat.le_refl _) _ _ _ _ _
 ·have GA3:=hid ((Gr.refl w3).alloc (.cells #[.slice ra rl rc, .slice xa n xc] 32))
  have HTC:Hid (TbsC (fun b=>(C b/\b<w.heap.size)\/w.heap.size+1<=b) w3 T (.slice ta tn tc)):=HT.out.bel HB3.out
  have HV3:Hid (Tb1C (fun b=>(C b/\b<w.heap.size)\/w.heap.size+1<=b) w3 t ⟨vn,ca,cl,cc,ra,rl,rc⟩):=HV.out.bel HB3.out
  have hz3:=HB3.out.size
  have hlw:w.heap.size+1<=w1.heap.size:=by have:=HG01.out.size;simpa using this
  have HHv:=hid (having_any (C:=fun b=>(C b/\b<w.heap.size)\/w.heap.size+1<=b) (b:=w3.heap.size) (off:=0) (n:=2) (c:=2) (vs := [.slice ra rl rc, .slice xa n xc]) (rss := [t.rows,ns.map fun x=>(Sp.rn T x.2 []).headD []]) (w:=w3.alloc (.cells #[.slice ra rl rc, .slice xa n xc] 32)) (fun j hj => .inr (by have:=GA3.out.size;omega)) (HV3.out.bel GA3.out.below) rfl rfl (by simp)
   (fun j hj=>by
    match j,hj with
    | 0,_=>simp
    | 1,_=>simp)
   (fun j hj=>by
    match j,hj with
    | 0,_=>exact (HV3.out.lrs).bel GA3.out.below
    | 1,_=>
     refine Lrs.bel ⟨xs,?_,HA3.out.mono fun a b h=>h.to fun b hb _ => .inr ?_⟩ GA3.out.below
     ·have ho:=HO3.out
      have hxl:xs.length=n:=by have:=ho.1;omega
      rw [<- hxl] at ho ⊢
      exact SlV.owned ho
     ·have:w1.heap.size+1<=b:=by simpa using hb
      omega)
   (by simp;have:=HR.out;have:=HN.out;omega) (by omega))
  go_wp2_with fail
  refine HHv.out.mono ?_
  rintro e w4 ⟨v4,rfl,⟨V4,rfl,hV4⟩,b4⟩
  rw [show [t.rows,ns.map fun x=>(Sp.rn T x.2 []).headD []].flatten=t.rows++ns.map fun x=>(Sp.rn T x.2 []).headD [] by simp] at hV4
  have HB4:Hid (RowKit.Below w3.heap.size w3 w4):=GA3.out.below.trans (b4.mono GA3.out.size)
  have HT4:Hid (TbsC (fun b=>(C b/\b<w.heap.size)\/w.heap.size+1<=b) w4 T (.slice ta tn tc)):=HTC.out.bel HB4.out
  obtain ⟨VL,hVL,hAL,hLL⟩:=HT4.out.ltv
  have hLT:VL.length=T.length:=hAL.len.symm
  have HWi:=hid (twith_any (t:=V4) hVL (by omega))
  have HV4:=hid hV4
  have HAL:=hid hAL
  clear hV4 b4 hVL hAL HHv
  go_wp2_with fail
  refine HWi.out.mono ?_
  rintro e w5 ⟨v5,rfl,o5,b5⟩
  have HTF:=hid (with_tbs (fun j hj => .inr (by have:=HB4.out.size;omega)) HAL.out HV4.out o5 b5 (by omega))
  have HBw5:Hid (RowKit.Below w3.heap.size w3 w5):=HB4.out.trans (b5.mono HB4.out.size)
  have HB6:=hid (HB5.out.below HBw5.out)
  obtain ⟨⟨p0,p1,p2,p3,p4⟩,g0,g1,g2,g3,g4⟩:=HB6.out.five
  obtain ⟨va5,vn5,vc5,rfl⟩:∃ a n c,v5 = .slice a n c:=by obtain ⟨a,c,h⟩:=o5.sl;exact ⟨_,_,_,h⟩
  clear o5 b5 HWi
  go_wp2_with fail
  refine bodyPost_ret (v := .tuple #[.slice va5 vn5 vc5,enRes 0 0 0 (.slice none 0 0) (n:Nat)]) (by simp [results,Tryz.results89,go_sem,p0,p1,p2,p3,p4]) rfl ⟨_,rfl,⟨.slice va5 vn5 vc5, .inr ⟨by omega,rfl,?_⟩⟩,?_⟩
  ·refine (HTF.out.blk (by simp [World.setCell]) fun b hb _=>heap_set5 (show b≠w.heap.size by rcases hb with hb | hb <;> omega) _ _ _ _ _).to fun b hb _=>?_
   rcases hb with hb | hb
   ·exact hb.1
   ·exact HC.out b (by omega)
  ·exact below_set5 (HB3.out.trans (HBw5.out.mono HB3.out.size)) (Nat.le_refl _) _ _ _ _ _
theorem upon_in {l n:Nat} {P:Program} {o:Oper} {a:Act} {K:Act->World->Prop} {Q:Exit->Act->World->Prop} {r:Result Next} (h:o.upon P a K Q r):o.uponIn (Fence.wide.inRound l) n P a K Q r:=by
 cases r with
 | ok x w'=>
  cases x with
  | value v=>exact h
  | skip=>exact h
  | defer d=>exact h
  | enter f args=>exact ⟨fun hd=>(by cases hd),CallsIn.inRound l (callsIn_wide.2 h)⟩
  | row row args=>
   refine ⟨fun hd=>(by cases hd),fun c cs _=>?_⟩
   obtain ⟨v,w2,r1,r2⟩:=h c cs
   exact ⟨v,w2,r1,stepsIn_wide.2 r2⟩
  | _=>exact h.elim
 | halt x w'=>
  cases x with
  | panic v=>exact h
  | _=>exact h.elim
theorem wp_in {l n:Nat} {P:Program} {o:Oper} {a:Act} {w:World} {K:Act->World->Prop} {Q:Exit->Act->World->Prop} (hnd:∀ c,o.op ≠ .defer c) (h:o.wp P a w K Q):o.wpIn (Fence.wide.inRound l) n P a w K Q:=by
 refine ⟨fun _ _=>trivial,?_⟩
 rw [Oper.semAt_plain _ _ _ hnd]
 exact upon_in h
theorem wpAny_in {l n:Nat} {P:Program} {md:Region.Mode} {ops:Array Oper} {Q:Exit->Act->World->Prop} (hlo:¬ LetsOut Q) (hnd:∀ (j:Nat) (o:Oper),ops[j]?=some o->∀ c,o.op ≠ .defer c):∀ (fuel:Nat) (listed:Array Bool) (a:Act) (w:World),wpAny P md ops Q fuel listed a w->wpAnyIn (Fence.wide.inRound l) n P md ops Q fuel listed a w
 | 0,_,_,_,h=>h
 | fuel+1,listed,a,w,h=>by
  refine ⟨h.1,fun i hi=>?_⟩
  have h2:=wpOp_mono (fun a' w' h'=>wpAny_in (l:=l) (n:=n) hlo hnd fuel _ a' w' h') (h.2 i hi)
  unfold wpOp at h2
  unfold wpOpIn
  cases ho:ops[i]? with
  | none=>rw [ho] at h2;exact h2
  | some o=>
   rw [ho] at h2
   simp only [] at h2 ⊢
   split
   ·rename_i hw
    rw [if_pos hw] at h2
    exact wp_in (hnd i o ho) (h2.resolve_right fun h=>hlo h.2)
   ·rename_i hw
    rw [if_neg hw] at h2
    exact ⟨fun _ _=>trivial,h2⟩
def noDefer (o:Oper):Bool:=match o.op with | .defer _=>false | _=>true
theorem wpIn_region_heldR {l n:Nat} {P:Program} {id:Nat} {ops:Array Oper} {Q:Exit->Act->World->Prop} {S:World->Prop} {a:Act} {w:World} (hm:P.follows .mixedOrders=true) (hnd:ops.all noDefer=true) (hlo:¬ LetsOut Q)
  (h:wpAnyH P .any ops Q S ops.size (Array.replicate ops.size false) a w.drew):(Code.region id ops true).wpIn (Fence.wide.inRound l) n P Q a w:=by
 refine wpIn_region_any hm ?_
 refine wpAny_in hlo (fun j o ho c e=>?_) _ _ _ _ (wpAny_of_held _ _ _ _ h)
 have h2:=Array.all_eq_true.1 hnd j (Array.getElem?_eq_some_iff.1 ho).1
 rw [(Array.getElem?_eq_some_iff.1 ho).2] at h2
 simp [noDefer,e] at h2
theorem wpAnyH_one {P:Program} {md:Region.Mode} {ops:Array Oper} {Q:Exit->Act->World->Prop} {S:World->Prop} {i fuel:Nat} {o:Oper} {listed:Array Bool} {a:Act} {w:World} (hr:Region.ready md ops listed = [i]) (ho:ops[i]?=some o) (hg:o.guard=none)
  (h:∀ K:Act->World->Prop,(∀ a' w',S w'->wpAnyH P md ops Q S fuel (listed.setIfInBounds i true) a' w'->K a' w')->o.wp P a w K Q):wpAnyH P md ops Q S (fuel+1) listed a w:=by
 refine wpAnyH_all hr (by simp) fun j hj=>?_
 obtain rfl:j=i:=by simpa using hj
 unfold wpOp
 rw [ho]
 have hw:Region.wanted o (yielded ops a.tmps)=true:=by simp [Region.wanted,hg]
 simp only [hw,if_true]
 exact .inl (h _ fun a' w' hs h'=>⟨hs,h'⟩)
theorem wpAnyH_two {P:Program} {md:Region.Mode} {ops:Array Oper} {Q:Exit->Act->World->Prop} {S:World->Prop} {i j fuel:Nat} {o p:Oper} {listed:Array Bool} {a:Act} {w:World} (hr:Region.ready md ops listed = [i,j]) (ho:ops[i]?=some o) (hg:o.guard=none) (hp:ops[j]?=some p) (hg' : p.guard=none)
  (h:∀ K:Act->World->Prop,(∀ a' w',S w'->wpAnyH P md ops Q S fuel (listed.setIfInBounds i true) a' w'->K a' w')->o.wp P a w K Q)
  (h' : ∀ K:Act->World->Prop,(∀ a' w',S w'->wpAnyH P md ops Q S fuel (listed.setIfInBounds j true) a' w'->K a' w')->p.wp P a w K Q):wpAnyH P md ops Q S (fuel+1) listed a w:=by
 refine wpAnyH_all hr (by simp) fun k hk=>?_
 rcases List.mem_cons.1 hk with rfl | hk
 ·unfold wpOp
  rw [ho]
  have hw:Region.wanted o (yielded ops a.tmps)=true:=by simp [Region.wanted,hg]
  simp only [hw,if_true]
  exact .inl (h _ fun a' w' hs h'=>⟨hs,h'⟩)
 ·obtain rfl:k=j:=by simpa using hk
  unfold wpOp
  rw [hp]
  have hw:Region.wanted p (yielded ops a.tmps)=true:=by simp [Region.wanted,hg']
  simp only [hw,if_true]
  exact .inl (h' _ fun a' w' hs h'=>⟨hs,h'⟩)
end Go.Proofs.YtgnncnhkgmhngaaGreatDoor
