import Derived.Test.YtgnncnhkgmhngaaGreatDoorJ43
import Derived.OrdersHeld
set_option maxHeartbeats 4000000
set_option maxRecDepth 100000
namespace Go.Proofs.YtgnncnhkgmhngaaGreatDoor
open Sp
open Go.RowKit Go.Sort
namespace Sp
def Nk (T:List Tb):Prop:=∀ t∈T,∀ r∈t.rows,List.length r=t.cols.length
theorem iK {x:Bs} : ∀ {T:List Tb} {t:Tb},aG x T=some t->t∈T
 | [],_,h=>by simp [aG] at h
 | u::T,t,h=>by
  rw [aG] at h
  split at h
  ·injection h with h;rw [h];exact List.mem_cons_self
  ·exact List.mem_cons_of_mem _ (iK h)
def cellsOf (T:List Tb) (ex:Nd) (tk:List Row) (env:List (List Row)):Row:=match ex with | .none=>tk.flatten | _=>(rn T ex (tk::env)).headD []
theorem uM (T:List Tb) (st:Nat) (ex:Nd) (src:List (Nm×Nm)) (wh:Nd) (env:List (List Row)):rn T (.sel false st ex src wh) env=aI ((aK (rowsOf T src)).flatMap λtk=>if holds T wh (tk::env) then [cellsOf T ex tk env] else []):=by
 simp only [rn,Bool.false_eq_true,if_false]
 congr 2
 funext tk
 cases wh <;> rfl
theorem Am (T:List Tb) (di:Bool) (st:Nat) (ex:Nd) (src:List (Nm×Nm)) (wh:Nd) (env:List (List Row)):rn T (.sel di st ex src wh) env=if di then once (aI ((aK (rowsOf T src)).flatMap λtk=>if holds T wh (tk::env) then [cellsOf T ex tk env] else [])) else aI ((aK (rowsOf T src)).flatMap λtk=>if holds T wh (tk::env) then [cellsOf T ex tk env] else []):=by
 cases di
 ·exact uM T st ex src wh env
 ·rw [if_pos rfl,<- uM T st]
  simp only [rn,Bool.false_eq_true,if_false,if_true]
theorem Cu {T:List Tb} (hT:Nk T) {src:List (Nm×Nm)} (hf:∀ x∈src,(aG x.1.1 T).isSome=true) {tk:List Row} (htk:tk∈aK (rowsOf T src)):tk.length=src.length/\∀ i,(h:i<tk.length)->(h' : i<src.length)->tk[i].length=((aG src[i].1.1 T).getD iR).cols.length:=by
 obtain ⟨h1,h2⟩:=rC htk
 have hl:(rowsOf T src).length=src.length:=by simp [rowsOf]
 refine ⟨h1.trans hl,λi hi hi'=>?_⟩
 have hm:=h2 i hi (by omega)
 simp only [rowsOf,List.getElem_map] at hm
 have hs:=hf _ (jD hi')
 obtain ⟨t,ht⟩:=Option.isSome_iff_exists.1 hs
 rw [ht] at hm ⊢
 exact hT t (iK ht) _ hm
theorem OC {T:List Tb} (hT:Nk T) {src:List (Nm×Nm)} (hf:∀ x∈src,(aG x.1.1 T).isSome=true) (hc:∀ t∈T,t.cols.length<=50) (hs:src.length<=1000) {env:List (List Row)} {aE:List Lv} (he:Eo env aE) (hl:env.length<100000) {tk:List Row} (htk:tk∈aK (rowsOf T src)):Eo (tk::env) (Hz T src::aE):=by
 obtain ⟨h1,h2⟩:=Cu hT hf htk
 refine ⟨by simp;omega,λo lv ho=>?_⟩
 match o with
 | 0=>
  simp only [List.getElem?_cons_zero,Option.some.injEq] at ho
  subst ho
  refine ⟨tk,rfl,by omega,λi x hx=>?_⟩
  have hi:i<src.length:=by
   have:=(List.getElem?_eq_some_iff.1 hx).1
   simpa [Hz] using this
  have hx' : x=(src[i].2.1,(aG src[i].1.1 T).getD iR):=by
   have:=(List.getElem?_eq_some_iff.1 hx).2
   simpa [Hz] using this.symm
  have hit:i<tk.length:=by omega
  refine ⟨tk[i],rI hit,?_,?_⟩
  ·rw [h2 i hit hi]
   obtain ⟨t,ht⟩:=Option.isSome_iff_exists.1 (hf _ (jD hi))
   rw [ht]
   have:=hc t (iK ht)
   simp only [Option.getD_some]
   omega
  ·rw [hx',h2 i hit hi]
   exact aF _
 | o+1=>
  simp only [List.getElem?_cons_succ] at ho
  obtain ⟨Y4,e,r⟩:=he.at_ o lv ho
  exact ⟨Y4,by simpa using e,r⟩
end Sp
theorem Nl (v:Option Addr) (w:World):Sem.run Tryz.prog (Instr.typeAssert (.iface 278 (.pointer v)) 179 278 true) w = .ok (.tuple #[.pointer v, .bool true]) w:=by kernel_rfl
theorem Em {b:Nat} {ia:Option Addr} {w:World} {P:Value->World->Prop} (hC:Calls Tryz.prog 154 #[.pointer (some ⟨b,0,none⟩), .pointer ia] w λr w'=>∃ v,r = .returned v/\P v w') :
  Calls Tryz.prog 93 #[.iface 278 (.pointer (some ⟨b,0,none⟩)), .pointer ia] w λr w'=>∃ v,r = .returned v/\P v w':=by
 have HC:=hid hC
 have t1:=Nl
 clear hC
 go_enter Tryz.func93,Tryz.ntmps93
 go_wp2_with fail
 refine HC.out.mono ?_
 rintro e w1 ⟨v,rfl,h⟩
 have H:=hid h
 clear h
 go_wp2_with fail
 exact cL (v:=v) (by simp [results,Tryz.results93,go_sem]) rfl ⟨v,rfl,H.out⟩
theorem J9 {di:Bool} {k N lo hi st:Nat} {T:List Sp.Tb} {ex wh:Nd} {src:List (Nm×Nm)} {tv qv iv:Value} {env:List (List Row)} {aE:List Sp.Lv} {w:World} (wd:Nat)
  (hN:N<=90000) (hw:wf N (.sel di st ex src wh) .query) (hp:plain (.sel di st ex src wh)=true) (hb:bd T (.sel di st ex src wh) aE) (ht:sF k w T tv) (hT:Nk T) (hTc:∀ t∈T,t.cols.length<=50)
  (ha:pW w tv env iv) (he:Eo env aE) (hel:env.length<100000) (hr:Rp w (.sel di st ex src wh) lo hi qv) (hh:hi<=w.heap.size) (hs:src ≠ []) (hsl:src.length<=1000) (hpl:(aK (rowsOf T src)).length<=1000)
  (hwd:∀ tk∈aK (rowsOf T src),(cellsOf T ex tk env).length=wd) (hwb:wd<=100000) :
  Calls Tryz.prog 93 #[qv,iv] w λr w'=>∃ v,r = .returned v/\dS w.heap.size wd w' v (Sp.rn T (.sel di st ex src wh) env)/\Gr w w':=by
 apply xM
 obtain ⟨b,xv,fv,wv,m1,m2,m3,m4,rfl,l1,l2,hS,hS2,hA,hI,hX,hF,hn,hR⟩:=hr
 obtain ⟨_,hex,_,hwh⟩:=hw
 obtain ⟨hf,_,hbe,hbw⟩:=hb
 simp only [plain,Bool.and_eq_true] at hp
 unfold Sub at hS hS2
 obtain ⟨blk,c,rfl,_,q1,q2,q3,q4⟩:∃ blk c,fv = .slice (some ⟨blk,0,none⟩) src.length c/\src ≠ []/\m2<=blk/\blk<m3/\blk<w.heap.size/\fX w blk 0 src:=by
  rcases hF with ⟨e,_⟩ | h
  ·exact absurd e hs
  ·exact h
 obtain ⟨ib,rfl,hib,_⟩:=ha.ptr
 rw [Am]
 have QV:=λtk htk=>OC (tk:=tk) hT hf hTc hsl he hel htk
 have hH:=LZ T N hN wh hp.2 hwh
 refine Em (callsIn_wide.1 (Ai 6 (aF _) (λtk=>holds T wh (tk::env)) (λtk=>cellsOf T ex tk env) hA ha ht q4 q3 hs hsl hf hpl ?_ ?_ hwd hwb))
 ·intro tk htk A Wu L1 Rg
  exact hH m3 m4 tv wv Wu (tk::env) (Hz T src::aE) A Rg (QV tk htk) hbw (hR.Ac L1 (by omega) hn) (by have:=L1.size;omega)
 ·intro tk htk A Wu L1 Rg
  have hA' : At A b [.bool di, .int .i64 (st:Int),xv, .slice (some ⟨blk,0,none⟩) src.length c,wv]:=hA.same L1.size (L1.block b (by omega))
  obtain ⟨hl,hcw⟩:=Cu hT hf htk
  rcases hX with ⟨rfl,rfl⟩ | ⟨hne,hX⟩
  ·refine (Ci hA' Rg ?_ (by omega) ?_)
   ·intro e
    rw [e] at hl
    exact hs (Av hl.symm)
   ·have:=hwd tk htk
    simp only [cellsOf] at this
    omega
  ·have hex' : 1<=ex.len/\ex.len<=N/\wf N ex .list:=by
    rcases hex with h | h
    ·exact absurd h hne
    ·exact h
   obtain ⟨h1,h2,h3⟩:=hex'
   obtain ⟨e1,e2,e3⟩:=gK N ex h3
   have hval:cellsOf T ex tk env=ex.els.map λn=>Sp.val (Sp.rn T n (tk::env)):=by
    have:cellsOf T ex tk env=(Sp.rn T ex (tk::env)).headD []:=by
     cases ex <;> first | rfl | exact absurd rfl hne
    rw [this,e1,sS]
    have e4:(gG ex.els .nil).els=ex.els:=by rw [<- e1]
    rw [e4];rfl
   have OD:=Ad ex hbe
   have UG:=(Ae T N hN ex hp.1).2 h3
   rw [hval]
   generalize hns:ex.els=ns at *
   rw [e1] at hX
   obtain ⟨g,off,n,cp,rfl,hbl⟩:∃ g off n c,xv = .slice (some ⟨g,off,none⟩) n c/\g<w.heap.size:=by
    cases ns with
    | nil=>simp at e2;omega
    | cons n0 ns'=>
     simp only [gG,List.foldr_cons] at hX
     obtain ⟨blk,off,n,c,v,m1,m2,e,hl,_⟩:=hX
     exact ⟨blk,off,_,c,e,hl⟩
   obtain ⟨hnn,xs,Ep,hxs⟩:=Rp.els ns m1 m2 g off n cp hX
   obtain ⟨Z9,rfl,_,_⟩:=Rg.ptr
   have hlen:(ns.map λn=>Sp.val (Sp.rn T n (tk::env))).length=n:=by simp [hnn]
   refine Ag (g:=g) (off:=off) (cap:=cp) (by rw [hlen];exact hA') (by rw [hlen];omega) (bY hbl L1.size) (λi hi'=>?_)
   rw [hlen] at hi'
   have hin:i<ns.length:=by omega
   have hsp:ns=ns.take i++ns[i]::ns.drop (i+1):=by rw [<- nS hin,List.take_append_drop]
   rw [hsp] at Ep
   obtain ⟨p1,p2,x,Rh,r1,r2,r3,r4,r5,r6,_⟩:=Ep.upd
   rw [List.length_take,Nat.min_eq_left (by omega)] at Rh
   obtain ⟨tt,pp,rfl⟩:=r6.R7 (e3 _ (jD hin))
   refine ⟨tt,_,(L1.cell (p:=⟨g,off+i,none⟩) hbl).trans (hxs i _ Rh),λW hbW=>?_⟩
   have Ka : RowKit.Below w.heap.size w W:=L1.trans (hbW.mono L1.size)
   have:=UG ns[i] (jD hin) p1 p2 tv _ _ (tk::env) (Hz T src::aE) W (Rg.bel hbW) (QV tk htk) (OD _ (jD hin)) (r6.Ac Ka (by omega) r5) (by have:=Ka.size;omega)
   simpa using this
theorem Cv {T:List Sp.Tb} {N:Nat} (hN:N<=90000) {nd:Nd} (hw:wf N nd .list) (hl:1<=nd.len) (hp:plain nd=true) {lo hi:Nat} {sv:Value} {env:List (List Row)} {aE:List Sp.Lv} {w:World} (hb:bd T nd aE) (he:Eo env aE) (hr:Rp w nd lo hi sv) (hh:hi<=w.heap.size) :
  ∃ g off cap,sv = .slice (some ⟨g,off,none⟩) nd.len cap/\g<w.heap.size/\((Sp.rn T nd env).headD []).length=nd.len/\∀ (W:World) (tv:Value) (ia:Option Addr),RowKit.Below w.heap.size w W->pW W tv env (.pointer ia)->∀ i,(hi:i<((Sp.rn T nd env).headD []).length)->∃ t p,W.cell? ⟨g,off+i,none⟩=some (.iface t p)/\∀ W',RowKit.Below W.heap.size W W'->Calls Tryz.prog 194 #[.iface t p, .pointer ia] W' λe W''=>e = .returned (dI ((Sp.rn T nd env).headD [])[i])/\Gr W' W'':=by
 obtain ⟨e1,e2,e3⟩:=gK N nd hw
 have hval:(Sp.rn T nd env).headD []=nd.els.map λn=>Sp.val (Sp.rn T n env):=by
  rw [e1,sS]
  have e4:(gG nd.els .nil).els=nd.els:=by rw [<- e1]
  rw [e4];rfl
 have OD:=Ad nd hb
 have UG:=(Ae T N hN nd hp).2 hw
 rw [hval]
 generalize hns:nd.els=ns at *
 rw [e1] at hr
 obtain ⟨g,off,n,cp,rfl,hbl⟩:∃ g off n c,sv = .slice (some ⟨g,off,none⟩) n c/\g<w.heap.size:=by
  cases ns with
  | nil=>simp at e2;omega
  | cons n0 ns'=>
   simp only [gG,List.foldr_cons] at hr
   obtain ⟨blk,off,n,c,v,m1,m2,e,hl,_⟩:=hr
   exact ⟨blk,off,_,c,e,hl⟩
 obtain ⟨hnn,xs,Ep,hxs⟩:=Rp.els ns lo hi g off n cp hr
 refine ⟨g,off,cp,by rw [hnn,e2],hbl,by simp [e2],λW tv ia hbW Y5 i hi'=>?_⟩
 have hin:i<ns.length:=by simpa using hi'
 have hsp:ns=ns.take i++ns[i]::ns.drop (i+1):=by rw [<- nS hin,List.take_append_drop]
 rw [hsp] at Ep
 obtain ⟨p1,p2,x,Rh,r1,r2,r3,r4,r5,r6,_⟩:=Ep.upd
 rw [List.length_take,Nat.min_eq_left (by omega)] at Rh
 obtain ⟨tt,pp,rfl⟩:=r6.R7 (e3 _ (jD hin))
 refine ⟨tt,_,(hbW.cell (p:=⟨g,off+i,none⟩) hbl).trans (hxs i _ Rh),λW' Ka=>?_⟩
 have hbb:RowKit.Below w.heap.size w W':=hbW.trans (Ka.mono hbW.size)
 have:=UG ns[i] (jD hin) p1 p2 tv _ _ env aE W' (Y5.bel Ka) he (OD _ (jD hin)) (r6.Ac hbb (by omega) r5) (by have:=hbb.size;omega)
 simpa using this
theorem Hj {wr w3 w5:World} {base j vc g' c' : Nat} {va:Option Addr} {vs:List Value} {rows:List (List Sv.Val)} {u:Value} {r:List Sv.Val} (o:wr.ownsRow base 41 1 (.slice va j vc) j vs) (a:Al (gU (λb=>base<=b/\some b≠(Value.slice va j vc).ownBlock) wr) vs rows) (b3:RowKit.Below wr.heap.size wr w3) (_hz:wr.heap.size<=w3.heap.size) (ou:gU (λb=>wr.heap.size<=b) w3 u r) (hbase:base<=wr.heap.size)
  (hgrow:(w3.alloc (.cells #[u] 41)).grownBy w5 (Value.slice va j vc).ownBlock) (hat:(Value.slice va j vc).ownBlock=some g'\/g'=w3.heap.size+1):Al (gU (λb=>base<=b/\some b≠(Value.slice (some ⟨g',0,none⟩) (j+1) c').ownBlock) w5) (vs ++ [u]) (rows ++ [r]):=by
 have hblk:=aB o
 have rM:w3.heap.size+1<=w5.heap.size:=by have:=hgrow.size;simpa using this
 have hrow:∀ (y:Value) (q:List Sv.Val),gU (λb=>base<=b/\some b≠(Value.slice va j vc).ownBlock) w3 y q->gU (λb=>base<=b/\some b≠(Value.slice (some ⟨g',0,none⟩) (j+1) c').ownBlock) w5 y q:=by
  intro y q hy
  rcases hy with h | ⟨b,o,c,ev,⟨hd,hne⟩,hv⟩
  ·exact .inl h
  ·have hlb:=hv.lb
   refine .inr ⟨b,o,c,ev,⟨hd,?_⟩,hv.blk (by omega) ((hgrow.block b (by simp;omega) hne).trans (kX w3 _ b hlb))⟩
   intro e
   have e' : b=g':=by simpa [Value.ownBlock] using e
   rcases hat with h | h
   ·exact hne (by rw [e',h])
   ·omega
 refine Al.snoc (a.mono λy q hy=>hrow y q (hy.bel b3)) (hrow _ _ (ou.to λb hb _=>⟨by omega,λe=>by have:=(hblk b e.symm).2;omega⟩))
theorem Cw {T:List Sp.Tb} {N a hi lo:Nat} {nm:Nm} {ns:List (Nat×Nd)} {ta:Option Addr} {tn tc:Nat} {pv:Value} {w:World} (hN:N<=90000) (hI:Jp w a nm ns lo hi pv) (hh:hi<=w.heap.size) (hn:ns.length<=1000)
  (hw:∀ x∈ns,wf N x.2 .list/\1<=x.2.len/\x.2.len<=N/\plain x.2=true/\bd T x.2 []) :
  Calls Tryz.prog 147 #[.slice ta tn tc,pv] w λe w'=>∃ v,e = .returned v/\(∃ xs,w'.ownsRow w.heap.size 41 1 v xs.length xs/\Al (gU (λb=>w.heap.size<=b) w') xs (ns.map λx=>(Sp.rn T x.2 []).headD []))/\RowKit.Below w.heap.size w w':=by
 obtain ⟨q,sl,rfl,l1,l2,hA,g,kc,xs,h',rfl,m1,m2,⟨m3,m4⟩,hL,hcl⟩:=hI
 have b3:=hA.k3
 have b4:=hA.k4
 have AC:=hA.1
 have HL:=hid hL
 have HW:=hid hw
 have vF:=hid hcl
 obtain ⟨n,hnn⟩:∃ n,n=ns.length:=⟨_,rfl⟩
 have HN:=hid hnn
 rw [<- hnn] at b3 hn m4
 clear hA hL hw hcl hnn
 go_enter Tryz.func147,Tryz.ntmps147
 obtain ⟨i0,ji,fR,jz1,fS⟩:=info_parts pV
 go_wp2_with fail
 go_loopw [5,25] (λv i wr=>∃ (j:Nat) (vs:List Value) (va:Option Addr) (vc:Nat),j<=n/\i = .int .i64 (j:Nat)/\v = .slice va j vc/\Hid (wr.ownsRow w.heap.size 41 1 (.slice va j vc) j vs)/\Hid (Al (gU (λb=>w.heap.size<=b/\some b≠(Value.slice va j vc).ownBlock) wr) vs ((ns.take j).map λx=>(Sp.rn T x.2 []).headD []))/\Hid (RowKit.Below w.heap.size w wr)) (λ_ i _=>n - (intOf i).toNat)
 case atStart=>exact ⟨0, [],none,0,fO _,rfl,rfl,World.ownsRow_nil _ _ _ _,trivial,Below.refl _ _⟩
 case round=>
  obtain ⟨j,vs,va,vc,hj,rfl,rfl,HO,HA,HB⟩:=hrel
  by_cases hlt:j<n
  ·have hjs:j<ns.length:=by have:=HN.out;omega
   have hsp:ns=ns.take j++ns[j]::ns.drop (j+1):=by rw [<- nS hjs,List.take_append_drop]
   have hL2:=HL.out
   rw [hsp] at hL2
   obtain ⟨p1,p2,x,ex,q1,q2,q3,q4,⟨sv,rfl,hrq,hsi⟩,_⟩:=kM.upd (λw' n x m1 m2 hs h hk=>fL.frame hs n x m1 m2 h hk) _ _ _ _ _ _ hL2
   rw [List.length_take,Nat.min_eq_left (by omega)] at ex
   obtain ⟨w1',w2',w3',w4',Wv⟩:=HW.out ns[j] (jD hjs)
   have Kb:=mO 2 xs (kM.lens (λn x m1 m2 h=>by obtain ⟨v,e,_⟩:=h;rw [e];rfl) HL.out) j
   have y0:=vF.out (j*2+0) _ ((Kb 0 _ ex (by omega)).trans rfl)
   have y1:=vF.out (j*2+1) _ ((Kb 1 _ ex (by omega)).trans rfl)
   rw [Nat.add_zero] at y0
   have hgw:g<w.heap.size:=by omega
   have c0:=(HB.out.cell (p:=⟨g,j*2,none⟩) hgw).trans y0
   have c1:=(HB.out.cell (p:=⟨g,j*2+1,none⟩) hgw).trans y1
   obtain ⟨eg,Ri,Rj,rfl,Y6,hvl,hE⟩:=Cv hN w1' w2' w4' Wv (⟨by simp,λo lv h=>by simp at h⟩:Eo [] []) hrq (by omega)
   have o9:Hid ((ns.take (j+1)).map (λx=>(Sp.rn T x.2 []).headD [])=(ns.take j).map (λx=>(Sp.rn T x.2 []).headD []) ++ [(Sp.rn T ns[j].2 []).headD []]):=by show _=_;rw [uV hjs,List.map_append];rfl
   have hln:ns[j].2.len<=90000:=by omega
   generalize (Sp.rn T ns[j].2 []).headD []=vals at o9 hvl hE
   rw [<- hvl] at c1 hln
   have HE:=hid hE
   obtain ⟨an,han⟩:∃ an,an=ns[j].1:=⟨_,rfl⟩
   rw [<- han] at c0
   clear hE hvl han hrq hsi Kb y0 y1 ex hL2 hsp w1' w2' w3' w4' Wv
   have hjb:j<1000:=by omega
   have hgl:g<wr.heap.size:=by have:=HB.out.size;omega
   obtain ⟨wA,hwA⟩:∃ wA,wA=(wr.alloc (.cells #[.int .i64 (an:Int), .slice (some ⟨eg,Ri,none⟩) vals.length Rj] 239)):=⟨_,rfl⟩
   have GA:Hid (Gr wr wA.drew):=by show Gr _ _;rw [hwA];exact ((Gr.refl wr).alloc _).drew
   have QY:wA.heap.size=wr.heap.size+1:=by rw [hwA];simp
   have z1:wA.cell? ⟨wr.heap.size,1,none⟩=some (.slice (some ⟨eg,Ri,none⟩) vals.length Rj):=by rw [hwA];simp
   have HBA:Hid (RowKit.Below w.heap.size w wA.drew):=HB.out.trans (GA.out.below.mono HB.out.size)
   have HOA:=hid (aH HO.out GA.out.below)
   go_wp2_with fail
   rw [<- hwA]
   clear hwA
   go_region_law (first
    | (have _hx:=qC;refine step_append_lies _ (by rfl) _ _ _ (by rfl) w.heap.size 41 i0 (.slice none 0 0) 1 24 Tryz.underlying32 ji fR jz1 fS rfl (by omega) (.slice va j vc) j vs (by rfl) qC ⟨w3.heap.size,0,none⟩ 1 1 [.slice ua vals.length uc] (by rfl) (by rfl) (World.news_of_block (cs:=#[.slice ua vals.length uc]) (t:=41) (fr:=(0,0)) (heap_alloc_new w3 _)) (hU _ _ _) (by omega) (by unfold maxLen;omega) (by omega) (by simp;omega) (w3.heap.size+1) (by simp) ?_;intro g' gE w5 hown hgrow hat hlt')
    | (go_simp;go_at_call 94;refine (rV _ _ _ _).mono ?_;rintro e1 w1 ⟨v1,rfl,UH,g1⟩;obtain ⟨nb,rfl,hnb,_⟩:=UH.ptr;have KH:=hid UH;have Ic:=hid (GA.out.trans g1);have z2:=(g1.cell (p:=⟨wr.heap.size,1,none⟩) (by show wr.heap.size<wA.heap.size;omega)).trans z1;have hz1:=Ic.out.size;clear UH g1)
    | (have _hx:=KH;go_simp;go_at_call 189;refine (oT _ _ _ _ _).mono ?_;rintro e2 w2 ⟨rfl,hw2⟩;have HW2:=hid hw2;clear hw2)
    | (have _hx:=HW2;go_simp;go_at_call 188;rw [HW2.out];refine (rB (by omega) (bY Y6 (cE HB.out.size hz1)) (HE.out w1 _ _ (HB.out.trans (Ic.out.below.mono HB.out.size)) KH.out)).mono ?_;rintro e3 w3 ⟨u,rfl,ou,bu⟩;obtain ⟨ua,uc,rfl⟩:=ou.sl;have Y7:=hid ou;have Y8:=hid bu;have qC:(w3.alloc (.cells #[.slice ua vals.length uc] 41)).ownsRow w.heap.size 41 1 (.slice va j vc) j vs:=aH (aH (aH HO.out Ic.out.below) bu) ((Gr.refl w3).alloc _).below;have hz3:w.heap.size<=w3.heap.size:=cE HB.out.size (cE hz1 bu.size);clear ou bu))
   all_goals
    have HB3:Hid (RowKit.Below wr.heap.size wr w3):=Ic.out.below.trans (Y8.out.mono hz1)
    have eM:=hid (Hj (c':=gE) HO.out HA.out HB3.out HB3.out.size (Y7.out.Wp.to λb hb _=>(by have:w1.heap.size<=b:=hb;omega)) HB.out.size hgrow hat)
    have iY:=hid hown
    have pN:=hid (below_grown ((HB.out.trans (HB3.out.mono HB.out.size)).alloc (cE HB.out.size HB3.out.size) _) hgrow qC (aF _))
    clear hown hgrow hat qC _hx
    go_wp2_with fail
    go_roundw
    case rel=>exact ⟨j+1,vs ++ [.slice ua vals.length uc],some ⟨g',0,none⟩,gE,by omega,by go_num,rfl,iY,by rw [o9.out];exact eM,pN⟩
    case measure=>simp [intOf];omega
  ·obtain rfl:j=n:=by omega
   have HA2:Hid (Al (gU (λb=>w.heap.size<=b) wr) vs (ns.map λx=>(Sp.rn T x.2 []).headD [])):=by
    have:=HA.out
    rw [HN.out,List.take_length] at this
    exact this.mono λa b h=>h.to λ_ h _=>h.1
   have hvl:vs.length=j:=by have:=HO.out.1;omega
   clear hlt
   go_wp2_with fail
   go_ret
   exact ⟨_,rfl,⟨vs,by rw [hvl];exact HO.out,HA2.out⟩,HB.out⟩
abbrev eZ (err at_ width:Int) (rv:Value) (count:Int):Value := .agg #[.int .i64 err, .int .i64 at_, .int .i64 width,rv, .int .i64 count]
theorem OF {C:Nat->Prop} {w:World} {T:List Sp.Tb} {v:Value} {x:Sp.Bs} {t:Sp.Tb} (h:cD C w T v) (hf:aG x T=some t) :
  ∃ tv,eL C w t tv/\∀ w1,RowKit.Below w.heap.size w w1->Calls Tryz.prog 146 #[v, .string (bz x)] w1 λe w'=>e = .returned (.tuple #[sE tv, .bool true])/\Gr w1 w':=by
 rcases h.2 with ⟨rfl,rfl⟩ | ⟨b,off,c,V,rfl,hC,hl,ha⟩
 ·simp [aG] at hf
 ·have key:∀ (T:List Sp.Tb) (V:List TV),Al (eL C w) T V->aG x T=some t->∃ tv,gI x V=some tv/\eL C w t tv:=by
   intro T
   induction T with
   | nil=>intro V _ hf;simp [aG] at hf
   | cons u T ih=>
    intro V ha hf
    match V,ha with
    | v::V,ha=>
     have e:v.name.toList=u.name:=by rw [ha.1.name,dJ]
     rw [aG] at hf
     simp only [gI,e]
     cases hx:(u.name == x)
     ·rw [hx] at hf;simpa using ih V ha.2 (by simpa using hf)
     ·rw [hx] at hf
      simp only [if_true,Option.some.injEq] at hf
      subst hf
      exact ⟨v,by simp,ha.1⟩
  obtain ⟨tv,e1,e2⟩:=key T V ha hf
  refine ⟨tv,e2,λw1 g=>?_⟩
  have F:=tC b off T.length c V (bz x) w1 ha.len (by have:=h.1;omega) (hl.blk g.size (g.block b hl.lb))
  rw [dJ,e1] at F
  exact F
theorem cD.to {C D:Nat->Prop} {w:World} {T:List Sp.Tb} {v:Value} (h:cD C w T v) (hd:∀ b,C b->b<w.heap.size->D b):cD D w T v:=by
 refine ⟨h.1,?_⟩
 rcases h.2 with h | ⟨b,off,c,V,ev,hC,hl,ha⟩
 ·exact .inl h
 ·exact .inr ⟨b,off,c,V,ev,hd b hC hl.lb,hl,ha.mono λt V h=>h.to hd⟩
theorem Bk.five {w:World} {q:Nat} {x0 x1 x2 x3 x4:Value} (h:Bk w q [x0,x1,x2,x3,x4]):(w.cell? ⟨q,0,none⟩=some x0/\w.cell? ⟨q,1,none⟩=some x1/\w.cell? ⟨q,2,none⟩=some x2/\w.cell? ⟨q,3,none⟩=some x3/\w.cell? ⟨q,4,none⟩=some x4)/\w.frozen? ⟨q,0,none⟩=false/\w.frozen? ⟨q,1,none⟩=false/\w.frozen? ⟨q,2,none⟩=false/\w.frozen? ⟨q,3,none⟩=false/\w.frozen? ⟨q,4,none⟩=false:=
 ⟨⟨h.c 0 (by simp),h.c 1 (by simp),h.c 2 (by simp),h.c 3 (by simp),h.c 4 (by simp)⟩,h.f 0,h.f 1,h.f 2,h.f 3,h.f 4⟩
theorem cW {w:World} {q j:Nat} (h:j≠q) (a b c d e:Value):(((((w.setCell ⟨q,0,none⟩ a).setCell ⟨q,1,none⟩ b).setCell ⟨q,2,none⟩ c).setCell ⟨q,3,none⟩ d).setCell ⟨q,4,none⟩ e).heap[j]?=w.heap[j]?:=
 (dQ _ _ _ _ h).trans ((dQ _ _ _ _ h).trans ((dQ _ _ _ _ h).trans ((dQ _ _ _ _ h).trans (dQ _ _ _ _ h))))
theorem kQ {n:Nat} {v w:World} {q:Nat} (h:RowKit.Below n v w) (hq:n<=q) (a b c d e:Value):RowKit.Below n v (((((w.setCell ⟨q,0,none⟩ a).setCell ⟨q,1,none⟩ b).setCell ⟨q,2,none⟩ c).setCell ⟨q,3,none⟩ d).setCell ⟨q,4,none⟩ e):=
 ((((h.setCell (p:=⟨q,0,none⟩) hq _).setCell (p:=⟨q,1,none⟩) hq _).setCell (p:=⟨q,2,none⟩) hq _).setCell (p:=⟨q,3,none⟩) hq _).setCell (p:=⟨q,4,none⟩) hq _
theorem Cx {D:Nat->Prop} {w w' : World} {T:List Sp.Tb} {t:Sp.Tb} {VL:List TV} {V:TV} {v' : Value} (hD:∀ j,w.heap.size<=j->D j) (ha:Al (eL D w) T VL) (hV:eL D w t V) (o:CX w.heap.size w' v' (cI V.name.toList VL ++ [V])) (hb:RowKit.Below w.heap.size w w') (hl:VL.length<=899):cD D w' (i8 t T) v':=by
 have e:V.name.toList=t.name:=by rw [hV.name,dJ]
 rw [e] at o
 have h2:(cI t.name VL).length<=VL.length:=B9 _ _
 refine cD.owned o hD ?_ (by simp;omega)
 exact ((Ca t.name ha).mono λ_ _ h=>h.bel hb).app ⟨hV.bel hb,trivial⟩
theorem Jp.bel {w w' : World} {a:Nat} {nm:Nm} {ns:List (Nat×Nd)} {lo hi:Nat} {v:Value} (h:Jp w a nm ns lo hi v) (g:RowKit.Below w.heap.size w w') (hh:hi<=w.heap.size):Jp w' a nm ns lo hi v:=by
 obtain ⟨q,sl,e,a1,a2,hA,hL⟩:=h
 exact ⟨q,sl,e,a1,a2,hA.same g.size (g.block q hA.1),hL.frame (λn x m1 m2 h hk=>fL.frame g.size n x m1 m2 h hk) λk _ h2=>g.block k (by omega)⟩
theorem Cy {C:Nat->Prop} {T:List Sp.Tb} {t:Sp.Tb} {N a hi lo:Nat} {nm:Nm} {ns:List (Nat×Nd)} {tv pv:Value} {w:World} (hC:∀ j,w.heap.size<=j->C j) (ht:cD C w T tv) (hf:aG nm.1 T=some t) (Ww:t.rows.length<=100) (hN:N<=90000) (hI:Jp w a nm ns lo hi pv) (hh:hi<=w.heap.size) (hn:ns.length<=800)
  (hw:∀ x∈ns,wf N x.2 .list/\1<=x.2.len/\x.2.len<=N/\plain x.2=true/\bd T x.2 []) (hTl:T.length<=800) :
  Calls Tryz.prog 89 #[tv,pv] w λe w'=>∃ v,e = .returned v/\(∃ tv',(100<t.rows.length+ns.length/\v = .tuple #[tv,eZ 8 0 0 (.slice none 0 0) 0])\/(t.rows.length+ns.length<=100/\v = .tuple #[tv',eZ 0 0 0 (.slice none 0 0) (ns.length:Nat)]/\cD C w' (i8 { t with rows:=t.rows++ns.map λx=>(Sp.rn T x.2 []).headD [] } T) tv'))/\RowKit.Below w.heap.size w w':=by
 have ht:=ht.to (D:=λb=>(C b/\b<w.heap.size)\/w.heap.size+1<=b) λb h1 h2 => .inl ⟨h1,h2⟩
 obtain ⟨V,hV,Wx⟩:=OF ht hf
 have HT:=hid ht
 have Nb:=hid Wx
 have HV:=hid hV
 have HI:=hid hI
 obtain ⟨q,sl,rfl,l1,l2,hA,_⟩:=hI
 have b1:=hA.k1
 have AC:=hA.1
 obtain ⟨ta,tn,tc,rfl⟩:∃ a n c,tv = .slice a n c:=by
  rcases ht.2 with ⟨_,e⟩ | ⟨b,off,c,V,e,_⟩
  ·exact ⟨_,_,_,e⟩
  ·exact ⟨_,_,_,e⟩
 have HW:=hid hw
 have HC:=hid hC
 have hrl:=hV.rl
 obtain ⟨R,hR⟩:∃ R,R=t.rows.length:=⟨_,rfl⟩
 have HR:=hid hR
 rw [<- hR] at hrl Ww
 obtain ⟨n,hnn⟩:∃ n,n=ns.length:=⟨_,rfl⟩
 have HN:=hid hnn
 rw [<- hnn] at hn
 rw [<- hR,<- hnn]
 clear ht hV Wx hA hw hC hR hnn
 obtain ⟨vn,ca,cl,cc,ra,rl,rc⟩:=V
 simp only [] at hrl
 subst hrl
 go_enter Tryz.func89,Tryz.ntmps89
 have G0:=hid ((Gr.refl w).alloc (.cells #[.int .i64 0, .int .i64 0, .int .i64 0, .slice none 0 0, .int .i64 0] 56))
 go_wp2_with fail
 refine (Nb.out _ G0.out.below).mono ?_
 rintro e w1 ⟨rfl,g1⟩
 have G1:=hid (G0.out.trans g1)
 have OG:=hid g1
 have G2:=hid ((G0.out.trans g1).alloc (.cells #[.string vn, .slice ca cl cc, .slice ra rl rc] 187))
 have KB:=hid (Cw (ta:=ta) (tn:=tn) (tc:=tc) hN (HI.out.bel G2.out.below hh) (cE hh G2.out.size) (by have:=HN.out;omega) HW.out)
 clear g1
 go_wp2_with fail
 refine KB.out.mono ?_
 rintro e w3 ⟨av,rfl,⟨xs,o3,a3⟩,b3⟩
 have hxn:xs.length=n:=by rw [a3.len,List.length_map];exact HN.out.symm
 obtain ⟨xa,xc,rfl⟩:∃ a c,av = .slice a n c:=by
  obtain ⟨_,h | ⟨g',cap,cur,hv,_⟩⟩:=o3
  ·exact ⟨none,0,by rw [h.1,<- hxn,h.2]⟩
  ·exact ⟨_,_,by rw [<- hxn];exact hv⟩
 have jG:Hid (w3.ownsRow (w1.heap.size+1) 41 1 (.slice xa n xc) n xs):=by
  show World.ownsRow _ _ _ _ _ _ _
  rw [hxn] at o3
  simpa using o3
 have LR:=hid a3
 have HB3:Hid (RowKit.Below w.heap.size w w3):=G2.out.below.trans (b3.mono G2.out.size)
 have QX:=hid b3
 have HT3:Hid (B3 w3 w1.heap.size (.string vn) (.slice ca cl cc) (.slice ra rl rc)):=(B3.new w1 _ _ _ _).same b3.size (b3.block _ (by simp))
 obtain ⟨t0,t1,t2,t3,t4,t5,t6⟩:=HT3.out
 have hz1:=G1.out.size
 clear o3 a3 b3 KB hxn
 have yZ:Hid (Bk w3 w.heap.size [.int .i64 0, .int .i64 0, .int .i64 0, .slice none 0 0, .int .i64 0]):=by
  have h1:=Bk.new w #[.int .i64 0, .int .i64 0, .int .i64 0, .slice none 0 0, .int .i64 0] 56
  have hlt:w.heap.size<w1.heap.size:=by have:=OG.out.size;simp at this;omega
  have h2:Bk w1 w.heap.size [.int .i64 0, .int .i64 0, .int .i64 0, .slice none 0 0, .int .i64 0]:=h1.below OG.out.below
  exact (h2.alloc _).below QX.out
 obtain ⟨⟨k0,k1,k2,k3,k4⟩,f0,f1,f2,f3,f4⟩:=yZ.out.five
 by_cases hgt:100<rl+n
 ·go_wp2_with fail
  refine cL (v := .tuple #[.slice ta tn tc,eZ 8 0 0 (.slice none 0 0) 0]) (by simp [results,Tryz.results89,go_sem,k0,k1,k2,k3,k4]) rfl ⟨_,rfl,⟨.slice ta tn tc, .inl ⟨hgt,rfl⟩⟩,?_⟩
  exact kQ HB3.out (aF _) _ _ _ _ _
 ·have Pv:=hid ((Gr.refl w3).alloc (.cells #[.slice ra rl rc, .slice xa n xc] 32))
  have QE:Hid (cD (λb=>(C b/\b<w.heap.size)\/w.heap.size+1<=b) w3 T (.slice ta tn tc)):=HT.out.bel HB3.out
  have QZ:Hid (eL (λb=>(C b/\b<w.heap.size)\/w.heap.size+1<=b) w3 t ⟨vn,ca,cl,cc,ra,rl,rc⟩):=HV.out.bel HB3.out
  have hz3:=HB3.out.size
  have hlw:w.heap.size+1<=w1.heap.size:=by have:=OG.out.size;simpa using this
  have Wy:=hid (Ei (C:=λb=>(C b/\b<w.heap.size)\/w.heap.size+1<=b) (b:=w3.heap.size) (off:=0) (n:=2) (c:=2) (vs := [.slice ra rl rc, .slice xa n xc]) (q7 := [t.rows,ns.map λx=>(Sp.rn T x.2 []).headD []]) (w:=w3.alloc (.cells #[.slice ra rl rc, .slice xa n xc] 32)) (λj hj => .inr (by have:=Pv.out.size;omega)) (QZ.out.bel Pv.out.below) rfl rfl (by simp)
   (λj hj=>by
    match j,hj with
    | 0,_=>simp
    | 1,_=>simp)
   (λj hj=>by
    match j,hj with
    | 0,_=>exact (QZ.out.lrs).bel Pv.out.below
    | 1,_=>
     refine xN.bel ⟨xs,?_,LR.out.mono λa b h=>h.to λb hb _ => .inr ?_⟩ Pv.out.below
     ·have ho:=jG.out
      have hxl:xs.length=n:=by have:=ho.1;omega
      rw [<- hxl] at ho ⊢
      exact sI.owned ho
     ·have:w1.heap.size+1<=b:=by simpa using hb
      omega)
   (by simp;have:=HR.out;have:=HN.out;omega) (by omega))
  go_wp2_with fail
  refine Wy.out.mono ?_
  rintro e w4 ⟨v4,rfl,⟨V4,rfl,UI⟩,b4⟩
  rw [show [t.rows,ns.map λx=>(Sp.rn T x.2 []).headD []].flatten=t.rows++ns.map λx=>(Sp.rn T x.2 []).headD [] by simp] at UI
  have HB4:Hid (RowKit.Below w3.heap.size w3 w4):=Pv.out.below.trans (b4.mono Pv.out.size)
  have HT4:Hid (cD (λb=>(C b/\b<w.heap.size)\/w.heap.size+1<=b) w4 T (.slice ta tn tc)):=QE.out.bel HB4.out
  obtain ⟨VL,Rk,OH,Y9⟩:=HT4.out.Wd
  have Za:VL.length=T.length:=OH.len.symm
  have OA:=hid (xQ (t:=V4) Rk (by omega))
  have Zb:=hid UI
  have UJ:=hid OH
  clear UI b4 Rk OH Wy
  go_wp2_with fail
  refine OA.out.mono ?_
  rintro e w5 ⟨v5,rfl,o5,b5⟩
  have Jw:=hid (Cx (λj hj => .inr (by have:=HB4.out.size;omega)) UJ.out Zb.out o5 b5 (by omega))
  have Rl:Hid (RowKit.Below w3.heap.size w3 w5):=HB4.out.trans (b5.mono HB4.out.size)
  have CW:=hid (yZ.out.below Rl.out)
  obtain ⟨⟨p0,p1,p2,p3,p4⟩,g0,g1,g2,g3,g4⟩:=CW.out.five
  obtain ⟨Wz,WC,WD,rfl⟩:∃ a n c,v5 = .slice a n c:=by obtain ⟨a,c,h⟩:=o5.sl;exact ⟨_,_,_,h⟩
  clear o5 b5 OA
  go_wp2_with fail
  refine cL (v := .tuple #[.slice Wz WC WD,eZ 0 0 0 (.slice none 0 0) (n:Nat)]) (by simp [results,Tryz.results89,go_sem,p0,p1,p2,p3,p4]) rfl ⟨_,rfl,⟨.slice Wz WC WD, .inr ⟨by omega,rfl,?_⟩⟩,?_⟩
  ·refine (Jw.out.blk (by simp [World.setCell]) λb hb _=>cW (show b≠w.heap.size by rcases hb with hb | hb <;> omega) _ _ _ _ _).to λb hb _=>?_
   rcases hb with hb | hb
   ·exact hb.1
   ·exact HC.out b (by omega)
  ·exact kQ (HB3.out.trans (Rl.out.mono HB3.out.size)) (aF _) _ _ _ _ _
end Go.Proofs.YtgnncnhkgmhngaaGreatDoor
