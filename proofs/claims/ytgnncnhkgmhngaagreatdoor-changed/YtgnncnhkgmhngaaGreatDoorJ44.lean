import Derived.Test.YtgnncnhkgmhngaaGreatDoorJ43
import Derived.OrdersHeld
set_option maxHeartbeats 4000000
set_option maxRecDepth 100000
namespace Go.Proofs.YtgnncnhkgmhngaaGreatDoor
open Sp
open Tryz
open Go.RowKit Go.Sort
namespace Sp
def Ru (T:List Tb):Prop:=∀ t∈T,∀ r∈t.rows,List.length r=t.cols.length
theorem iW {x:Bs} : ∀ {T:List Tb} {t:Tb},aG x T=some t->t∈T
 | [],_,h=>by simp [aG] at h
 | u::T,t,h=>by
  rw [aG] at h
  split at h
  ·injection h with h;rw [h];exact List.mem_cons_self
  ·exact List.mem_cons_of_mem _ (iW h)
def cellsOf (T:List Tb) (ex:Nd) (tk:List Row) (env:List (List Row)):Row:=match ex with | .none=>tk.flatten | _=>(rn T ex (tk::env)).headD []
theorem Ls (T:List Tb) (st:Nat) (ex:Nd) (src:List (Nm×Nm)) (wh:Nd) (env:List (List Row)):rn T (.sel false st ex src wh) env=cK ((aL (rowsOf T src)).flatMap λtk=>if holds T wh (tk::env) then [cellsOf T ex tk env] else []):=by
 simp only [rn,Bool.false_eq_true,if_false]
 congr 2
 funext tk
 cases wh <;> rfl
theorem CZ {T:List Tb} (hT:Ru T) {src:List (Nm×Nm)} (hf:∀ x∈src,(aG x.1.1 T).isSome=true) {tk:List Row} (htk:tk∈aL (rowsOf T src)):tk.length=src.length/\∀ i,(h:i<tk.length)->(h' : i<src.length)->tk[i].length=((aG src[i].1.1 T).getD jB).cols.length:=by
 obtain ⟨h1,h2⟩:=rV htk
 have hl:(rowsOf T src).length=src.length:=by simp [rowsOf]
 refine ⟨h1.trans hl,λi hi hi'=>?_⟩
 have hm:=h2 i hi (by omega)
 simp only [rowsOf,List.getElem_map] at hm
 have hs:=hf _ (hU hi')
 obtain ⟨t,ht⟩:=Option.isSome_iff_exists.1 hs
 rw [ht] at hm ⊢
 exact hT t (iW ht) _ hm
theorem Qx {T:List Tb} (hT:Ru T) {src:List (Nm×Nm)} (hf:∀ x∈src,(aG x.1.1 T).isSome=true) (hc:∀ t∈T,t.cols.length<=50) (hs:src.length<=1000) {env:List (List Row)} {aC:List Lv} (he:Eo env aC) (hl:env.length<100000) {tk:List Row} (htk:tk∈aL (rowsOf T src)):Eo (tk::env) (Ml T src::aC):=by
 obtain ⟨h1,h2⟩:=CZ hT hf htk
 refine ⟨by simp;omega,λo lv ho=>?_⟩
 match o with
 | 0=>
  simp only [List.getElem?_cons_zero,Option.some.injEq] at ho
  subst ho
  refine ⟨tk,rfl,by omega,λi x hx=>?_⟩
  have hi:i<src.length:=by
   have:=(List.getElem?_eq_some_iff.1 hx).1
   simpa [Ml] using this
  have hx' : x=(src[i].2.1,(aG src[i].1.1 T).getD jB):=by
   have:=(List.getElem?_eq_some_iff.1 hx).2
   simpa [Ml] using this.symm
  have hit:i<tk.length:=by omega
  refine ⟨tk[i],tC hit,?_,?_⟩
  ·rw [h2 i hit hi]
   obtain ⟨t,ht⟩:=Option.isSome_iff_exists.1 (hf _ (hU hi))
   rw [ht]
   have:=hc t (iW ht)
   simp only [Option.getD_some]
   omega
  ·rw [hx',h2 i hit hi]
   exact aF _
 | o+1=>
  simp only [List.getElem?_cons_succ] at ho
  obtain ⟨tk',e,r⟩:=he.at_ o lv ho
  exact ⟨tk',by simpa using e,r⟩
end Sp
theorem O9 (v:Option Addr) (w:World):Sem.run prog (Instr.typeAssert (.iface 278 (.pointer v)) 179 278 true) w = .ok (.tuple #[.pointer v, .bool true]) w:=by kernel_rfl
theorem Ff {b:Nat} {ia:Option Addr} {w:World} {P:Value->World->Prop} (hC:Calls prog 154 #[.pointer (some ⟨b,0,none⟩), .pointer ia] w λr w'=>∃ v,r = .returned v/\P v w') :
  Calls prog 93 #[.iface 278 (.pointer (some ⟨b,0,none⟩)), .pointer ia] w λr w'=>∃ v,r = .returned v/\P v w':=by
 have HC:=hid hC
 have t1:=O9
 clear hC
 go_enter func93,ntmps93
 go_wp2_with fail
 refine HC.out.mono ?_
 rintro e w1 ⟨v,rfl,h⟩
 have H:=hid h
 clear h
 go_wp2_with fail
 exact cV (v:=v) (by simp [results,results93,go_sem]) rfl ⟨v,rfl,H.out⟩
theorem Qy {k N lo hi st:Nat} {T:List Sp.Tb} {ex wh:Nd} {src:List (Nm×Nm)} {tv qv iv:Value} {env:List (List Row)} {aC:List Sp.Lv} {w:World} (wd:Nat)
  (hN:N<=90000) (hw:wf N (.sel false st ex src wh) .query) (hp:plain (.sel false st ex src wh)=true) (hb:bd T (.sel false st ex src wh) aC) (ht:sD k w T tv) (hT:Ru T) (hTc:∀ t∈T,t.cols.length<=50)
  (ha:oL w tv env iv) (he:Eo env aC) (hel:env.length<100000) (hr:Rp w (.sel false st ex src wh) lo hi qv) (hh:hi<=w.heap.size) (hs:src ≠ []) (hsl:src.length<=1000) (hpl:(aL (rowsOf T src)).length<=1000)
  (hwd:∀ tk∈aL (rowsOf T src),(cellsOf T ex tk env).length=wd) (hwb:wd<=100000) :
  Calls prog 93 #[qv,iv] w λr w'=>∃ v,r = .returned v/\oE w.heap.size wd w' v (Sp.rn T (.sel false st ex src wh) env)/\Gr w w':=by
 apply yU
 obtain ⟨b,xv,fv,wv,m1,m2,m3,m4,rfl,l1,l2,hS,hS2,hA,hI,hX,hF,hn,hR⟩:=hr
 obtain ⟨_,hex,_,hwh⟩:=hw
 obtain ⟨hf,_,hbe,hbw⟩:=hb
 simp only [plain,Bool.and_eq_true] at hp
 unfold Sub at hS hS2
 obtain ⟨blk,c,rfl,_,q1,q2,q3,q4⟩:∃ blk c,fv = .slice (some ⟨blk,0,none⟩) src.length c/\src ≠ []/\m2<=blk/\blk<m3/\blk<w.heap.size/\gN w blk 0 src:=by
  rcases hF with ⟨e,_⟩ | h
  ·exact absurd e hs
  ·exact h
 obtain ⟨ib,rfl,hib,_⟩:=ha.ptr
 rw [Ls]
 have Te:=λtk htk=>Qx (tk:=tk) hT hf hTc hsl he hel htk
 have hH:=AG T N hN wh hp.2 hwh
 refine Ff (callsIn_wide.1 (AJ 6 (aF _) (λtk=>holds T wh (tk::env)) (λtk=>cellsOf T ex tk env) hA ha ht q4 q3 hs hsl hf hpl ?_ ?_ hwd hwb))
 ·intro tk htk A Yk wF Jl
  exact hH m3 m4 tv wv Yk (tk::env) (Ml T src::aC) A Jl (Te tk htk) hbw (hR.s9 wF (by omega) hn) (by have:=wF.size;omega)
 ·intro tk htk A Yk wF Jl
  have hA' : At A b [.bool false, .int .i64 (st:Int),xv, .slice (some ⟨blk,0,none⟩) src.length c,wv]:=hA.same wF.size (wF.block b (by omega))
  obtain ⟨hl,hcw⟩:=CZ hT hf htk
  rcases hX with ⟨rfl,rfl⟩ | ⟨hne,hX⟩
  ·refine (CU hA' Jl ?_ (by omega) ?_)
   ·intro e
    rw [e] at hl
    exact hs (zE hl.symm)
   ·have:=hwd tk htk
    simp only [cellsOf] at this
    omega
  ·have hex' : 1<=ex.len/\ex.len<=N/\wf N ex .list:=by
    rcases hex with h | h
    ·exact absurd h hne
    ·exact h
   obtain ⟨h1,h2,h3⟩:=hex'
   obtain ⟨e1,e2,e3⟩:=iT N ex h3
   have hval:cellsOf T ex tk env=ex.els.map λn=>Sp.val (Sp.rn T n (tk::env)):=by
    have:cellsOf T ex tk env=(Sp.rn T ex (tk::env)).headD []:=by
     cases ex <;> first | rfl | exact absurd rfl hne
    rw [this,e1,tO]
    have e4:(gZ ex.els .nil).els=ex.els:=by rw [<- e1]
    rw [e4];rfl
   have Qz:=AE ex hbe
   have Wr:=(tP T N hN ex hp.1).2 h3
   rw [hval]
   generalize hns:ex.els=ns at *
   rw [e1] at hX
   obtain ⟨g,off,n,cp,rfl,hbl⟩:∃ g off n c,xv = .slice (some ⟨g,off,none⟩) n c/\g<w.heap.size:=by
    cases ns with
    | nil=>simp at e2;omega
    | cons n0 ns'=>
     simp only [gZ,List.foldr_cons] at hX
     obtain ⟨blk,off,n,c,v,m1,m2,e,hl,_⟩:=hX
     exact ⟨blk,off,_,c,e,hl⟩
   obtain ⟨hnn,xs,IL,hxs⟩:=Rp.els ns m1 m2 g off n cp hX
   obtain ⟨ib',rfl,_,_⟩:=Jl.ptr
   have hlen:(ns.map λn=>Sp.val (Sp.rn T n (tk::env))).length=n:=by simp [hnn]
   refine AI (g:=g) (off:=off) (cap:=cp) (by rw [hlen];exact hA') (by rw [hlen];omega) (b6 hbl wF.size) (λi hi'=>?_)
   rw [hlen] at hi'
   have hin:i<ns.length:=by omega
   have hsp:ns=ns.take i++ns[i]::ns.drop (i+1):=by rw [<- lJ hin,List.take_append_drop]
   rw [hsp] at IL
   obtain ⟨p1,p2,x,Tp,r1,r2,r3,r4,r5,r6,_⟩:=IL.upd
   rw [List.length_take,Nat.min_eq_left (by omega)] at Tp
   obtain ⟨tt,pp,rfl⟩:=r6.Md (e3 _ (hU hin))
   refine ⟨tt,_,(wF.cell (p:=⟨g,off+i,none⟩) hbl).trans (hxs i _ Tp),λW hbW=>?_⟩
   have Lu : RowKit.Below w.heap.size w W:=wF.trans (hbW.mono wF.size)
   have:=Wr ns[i] (hU hin) p1 p2 tv _ _ (tk::env) (Ml T src::aC) W (Jl.bel hbW) (Te tk htk) (Qz _ (hU hin)) (r6.s9 Lu (by omega) r5) (by have:=Lu.size;omega)
   simpa using this
theorem C0 {T:List Sp.Tb} {N:Nat} (hN:N<=90000) {nd:Nd} (hw:wf N nd .list) (hl:1<=nd.len) (hp:plain nd=true) {lo hi:Nat} {sv:Value} {env:List (List Row)} {aC:List Sp.Lv} {w:World} (hb:bd T nd aC) (he:Eo env aC) (hr:Rp w nd lo hi sv) (hh:hi<=w.heap.size) :
  ∃ g off cap,sv = .slice (some ⟨g,off,none⟩) nd.len cap/\g<w.heap.size/\((Sp.rn T nd env).headD []).length=nd.len/\∀ (W:World) (tv:Value) (ia:Option Addr),RowKit.Below w.heap.size w W->oL W tv env (.pointer ia)->∀ i,(hi:i<((Sp.rn T nd env).headD []).length)->∃ t p,W.cell? ⟨g,off+i,none⟩=some (.iface t p)/\∀ W',RowKit.Below W.heap.size W W'->Calls prog 194 #[.iface t p, .pointer ia] W' λe W''=>e = .returned (dF ((Sp.rn T nd env).headD [])[i])/\Gr W' W'':=by
 obtain ⟨e1,e2,e3⟩:=iT N nd hw
 have hval:(Sp.rn T nd env).headD []=nd.els.map λn=>Sp.val (Sp.rn T n env):=by
  rw [e1,tO]
  have e4:(gZ nd.els .nil).els=nd.els:=by rw [<- e1]
  rw [e4];rfl
 have Qz:=AE nd hb
 have Wr:=(tP T N hN nd hp).2 hw
 rw [hval]
 generalize hns:nd.els=ns at *
 rw [e1] at hr
 obtain ⟨g,off,n,cp,rfl,hbl⟩:∃ g off n c,sv = .slice (some ⟨g,off,none⟩) n c/\g<w.heap.size:=by
  cases ns with
  | nil=>simp at e2;omega
  | cons n0 ns'=>
   simp only [gZ,List.foldr_cons] at hr
   obtain ⟨blk,off,n,c,v,m1,m2,e,hl,_⟩:=hr
   exact ⟨blk,off,_,c,e,hl⟩
 obtain ⟨hnn,xs,IL,hxs⟩:=Rp.els ns lo hi g off n cp hr
 refine ⟨g,off,cp,by rw [hnn,e2],hbl,by simp [e2],λW tv ia hbW haW i hi'=>?_⟩
 have hin:i<ns.length:=by simpa using hi'
 have hsp:ns=ns.take i++ns[i]::ns.drop (i+1):=by rw [<- lJ hin,List.take_append_drop]
 rw [hsp] at IL
 obtain ⟨p1,p2,x,Tp,r1,r2,r3,r4,r5,r6,_⟩:=IL.upd
 rw [List.length_take,Nat.min_eq_left (by omega)] at Tp
 obtain ⟨tt,pp,rfl⟩:=r6.Md (e3 _ (hU hin))
 refine ⟨tt,_,(hbW.cell (p:=⟨g,off+i,none⟩) hbl).trans (hxs i _ Tp),λW' Lu=>?_⟩
 have hbb:RowKit.Below w.heap.size w W':=hbW.trans (Lu.mono hbW.size)
 have:=Wr ns[i] (hU hin) p1 p2 tv _ _ env aC W' (haW.bel Lu) he (Qz _ (hU hin)) (r6.s9 hbb (by omega) r5) (by have:=hbb.size;omega)
 simpa using this
theorem IM {wr w3 w5:World} {base j vc g' c' : Nat} {va:Option Addr} {vs:List Value} {rows:List (List Sv.Val)} {u:Value} {r:List Sv.Val} (o:wr.ownsRow base 41 1 (.slice va j vc) j vs) (a:Al (iV (λb=>base<=b/\some b≠(Value.slice va j vc).ownBlock) wr) vs rows) (b3:RowKit.Below wr.heap.size wr w3) (_hz:wr.heap.size<=w3.heap.size) (ou:iV (λb=>wr.heap.size<=b) w3 u r) (hbase:base<=wr.heap.size)
  (hgrow:(w3.alloc (.cells #[u] 41)).grownBy w5 (Value.slice va j vc).ownBlock) (hat:(Value.slice va j vc).ownBlock=some g'\/g'=w3.heap.size+1):Al (iV (λb=>base<=b/\some b≠(Value.slice (some ⟨g',0,none⟩) (j+1) c').ownBlock) w5) (vs ++ [u]) (rows ++ [r]):=by
 have hblk:=aB o
 have tG:w3.heap.size+1<=w5.heap.size:=by have:=hgrow.size;simpa using this
 have hrow:∀ (y:Value) (q:List Sv.Val),iV (λb=>base<=b/\some b≠(Value.slice va j vc).ownBlock) w3 y q->iV (λb=>base<=b/\some b≠(Value.slice (some ⟨g',0,none⟩) (j+1) c').ownBlock) w5 y q:=by
  intro y q hy
  rcases hy with h | ⟨b,o,c,ev,⟨hd,hne⟩,hv⟩
  ·exact .inl h
  ·have hlb:=hv.lb
   refine .inr ⟨b,o,c,ev,⟨hd,?_⟩,hv.blk (by omega) ((hgrow.block b (by simp;omega) hne).trans (lK w3 _ b hlb))⟩
   intro e
   have e' : b=g':=by simpa [Value.ownBlock] using e
   rcases hat with h | h
   ·exact hne (by rw [e',h])
   ·omega
 refine Al.snoc (a.mono λy q hy=>hrow y q (hy.bel b3)) (hrow _ _ (ou.to λb hb _=>⟨by omega,λe=>by have:=(hblk b e.symm).2;omega⟩))
theorem C5 {T:List Sp.Tb} {N a hi lo:Nat} {nm:Nm} {ns:List (Nat×Nd)} {ta:Option Addr} {tn tc:Nat} {pv:Value} {w:World} (hN:N<=90000) (hI:KE w a nm ns lo hi pv) (hh:hi<=w.heap.size) (hn:ns.length<=1000)
  (hw:∀ x∈ns,wf N x.2 .list/\1<=x.2.len/\x.2.len<=N/\plain x.2=true/\bd T x.2 []) :
  Calls prog 147 #[.slice ta tn tc,pv] w λe w'=>∃ v,e = .returned v/\(∃ xs,w'.ownsRow w.heap.size 41 1 v xs.length xs/\Al (iV (λb=>w.heap.size<=b) w') xs (ns.map λx=>(Sp.rn T x.2 []).headD []))/\RowKit.Below w.heap.size w w':=by
 obtain ⟨q,sl,rfl,l1,l2,hA,g,kc,xs,h',rfl,m1,m2,⟨m3,m4⟩,hL,hcl⟩:=hI
 have b3:=hA.k3
 have b4:=hA.k4
 have pR:=hA.1
 have HL:=hid hL
 have HW:=hid hw
 have rF:=hid hcl
 obtain ⟨n,hnn⟩:∃ n,n=ns.length:=⟨_,rfl⟩
 have HN:=hid hnn
 rw [<- hnn] at b3 hn m4
 clear hA hL hw hcl hnn
 go_enter func147,ntmps147
 obtain ⟨i0,ji,fU,jz1,fV⟩:=info_parts kJ
 go_wp2_with fail
 go_loopw [5,25] (λv i wr=>∃ (j:Nat) (vs:List Value) (va:Option Addr) (vc:Nat),j<=n/\i = .int .i64 (j:Nat)/\v = .slice va j vc/\Hid (wr.ownsRow w.heap.size 41 1 (.slice va j vc) j vs)/\Hid (Al (iV (λb=>w.heap.size<=b/\some b≠(Value.slice va j vc).ownBlock) wr) vs ((ns.take j).map λx=>(Sp.rn T x.2 []).headD []))/\Hid (RowKit.Below w.heap.size w wr)) (λ_ i _=>n - (intOf i).toNat)
 case atStart=>exact ⟨0, [],none,0,eX _,rfl,rfl,World.ownsRow_nil _ _ _ _,trivial,Below.refl _ _⟩
 case round=>
  obtain ⟨j,vs,va,vc,hj,rfl,rfl,HO,HA,HB⟩:=hrel
  by_cases hlt:j<n
  ·have hjs:j<ns.length:=by have:=HN.out;omega
   have hsp:ns=ns.take j++ns[j]::ns.drop (j+1):=by rw [<- lJ hjs,List.take_append_drop]
   have hL2:=HL.out
   rw [hsp] at hL2
   obtain ⟨p1,p2,x,ex,q1,q2,q3,q4,⟨sv,rfl,hrq,hsi⟩,_⟩:=gX.upd (λw' n x m1 m2 hs h hk=>fZ.frame hs n x m1 m2 h hk) _ _ _ _ _ _ hL2
   rw [List.length_take,Nat.min_eq_left (by omega)] at ex
   obtain ⟨w1',w2',w3',w4',Yl⟩:=HW.out ns[j] (hU hjs)
   have Lw:=eK 2 xs (gX.lens (λn x m1 m2 h=>by obtain ⟨v,e,_⟩:=h;rw [e];rfl) HL.out) j
   have y0:=rF.out (j*2+0) _ ((Lw 0 _ ex (by omega)).trans rfl)
   have y1:=rF.out (j*2+1) _ ((Lw 1 _ ex (by omega)).trans rfl)
   rw [Nat.add_zero] at y0
   have hgw:g<w.heap.size:=by omega
   have c0:=(HB.out.cell (p:=⟨g,j*2,none⟩) hgw).trans y0
   have c1:=(HB.out.cell (p:=⟨g,j*2+1,none⟩) hgw).trans y1
   obtain ⟨eg,Tq,Tr,rfl,heg,hvl,hE⟩:=C0 hN w1' w2' w4' Yl (⟨by simp,λo lv h=>by simp at h⟩:Eo [] []) hrq (by omega)
   have lY:Hid ((ns.take (j+1)).map (λx=>(Sp.rn T x.2 []).headD [])=(ns.take j).map (λx=>(Sp.rn T x.2 []).headD []) ++ [(Sp.rn T ns[j].2 []).headD []]):=by show _=_;rw [sA hjs,List.map_append];rfl
   have hln:ns[j].2.len<=90000:=by omega
   generalize (Sp.rn T ns[j].2 []).headD []=vals at lY hvl hE
   rw [<- hvl] at c1 hln
   have HE:=hid hE
   obtain ⟨an,han⟩:∃ an,an=ns[j].1:=⟨_,rfl⟩
   rw [<- han] at c0
   clear hE hvl han hrq hsi Lw y0 y1 ex hL2 hsp w1' w2' w3' w4' Yl
   have hjb:j<1000:=by omega
   have hgl:g<wr.heap.size:=by have:=HB.out.size;omega
   obtain ⟨wA,hwA⟩:∃ wA,wA=(wr.alloc (.cells #[.int .i64 (an:Int), .slice (some ⟨eg,Tq,none⟩) vals.length Tr] 239)):=⟨_,rfl⟩
   have GA:Hid (Gr wr wA.drew):=by show Gr _ _;rw [hwA];exact ((Gr.refl wr).alloc _).drew
   have Nq:wA.heap.size=wr.heap.size+1:=by rw [hwA];simp
   have z1:wA.cell? ⟨wr.heap.size,1,none⟩=some (.slice (some ⟨eg,Tq,none⟩) vals.length Tr):=by rw [hwA];simp
   have Wb:Hid (RowKit.Below w.heap.size w wA.drew):=HB.out.trans (GA.out.below.mono HB.out.size)
   have HOA:=hid (aJ HO.out GA.out.below)
   go_wp2_with fail
   rw [<- hwA]
   clear hwA
   go_region_law (first
    | (have _hx:=tI;refine step_append_lies _ (by rfl) _ _ _ (by rfl) w.heap.size 41 i0 (.slice none 0 0) 1 24 underlying32 ji fU jz1 fV rfl (by omega) (.slice va j vc) j vs (by rfl) tI ⟨w3.heap.size,0,none⟩ 1 1 [.slice ua vals.length uc] (by rfl) (by rfl) (World.news_of_block (cs:=#[.slice ua vals.length uc]) (t:=41) (fr:=(0,0)) (heap_alloc_new w3 _)) (oF _ _ _) (by omega) (by unfold maxLen;omega) (by omega) (by simp;omega) (w3.heap.size+1) (by simp) ?_;intro g' iE w5 hown hgrow hat hlt')
    | (go_simp;go_at_call 94;refine (jK _ _ _ _).mono ?_;rintro e1 w1 ⟨v1,rfl,Lx,g1⟩;obtain ⟨nb,rfl,hnb,_⟩:=Lx.ptr;have Tf:=hid Lx;have y7:=hid (GA.out.trans g1);have z2:=(g1.cell (p:=⟨wr.heap.size,1,none⟩) (by show wr.heap.size<wA.heap.size;omega)).trans z1;have hz1:=y7.out.size;clear Lx g1)
    | (have _hx:=Tf;go_simp;go_at_call 189;refine (pJ _ _ _ _ _).mono ?_;rintro e2 w2 ⟨rfl,hw2⟩;have HW2:=hid hw2;clear hw2)
    | (have _hx:=HW2;go_simp;go_at_call 188;rw [HW2.out];refine (rU (by omega) (b6 heg (cF HB.out.size hz1)) (HE.out w1 _ _ (HB.out.trans (y7.out.below.mono HB.out.size)) Tf.out)).mono ?_;rintro e3 w3 ⟨u,rfl,ou,bu⟩;obtain ⟨ua,uc,rfl⟩:=ou.sl;have HOu:=hid ou;have HBu:=hid bu;have tI:(w3.alloc (.cells #[.slice ua vals.length uc] 41)).ownsRow w.heap.size 41 1 (.slice va j vc) j vs:=aJ (aJ (aJ HO.out y7.out.below) bu) ((Gr.refl w3).alloc _).below;have hz3:w.heap.size<=w3.heap.size:=cF HB.out.size (cF hz1 bu.size);clear ou bu))
   all_goals
    have HB3:Hid (RowKit.Below wr.heap.size wr w3):=y7.out.below.trans (HBu.out.mono hz1)
    have eT:=hid (IM (c':=iE) HO.out HA.out HB3.out HB3.out.size (HOu.out.Wi.to λb hb _=>(by have:w1.heap.size<=b:=hb;omega)) HB.out.size hgrow hat)
    have jF:=hid hown
    have qB:=hid (below_grown ((HB.out.trans (HB3.out.mono HB.out.size)).alloc (cF HB.out.size HB3.out.size) _) hgrow tI (aF _))
    clear hown hgrow hat tI _hx
    go_wp2_with fail
    go_roundw
    case rel=>exact ⟨j+1,vs ++ [.slice ua vals.length uc],some ⟨g',0,none⟩,iE,by omega,by go_num,rfl,jF,by rw [lY.out];exact eT,qB⟩
    case measure=>simp [intOf];omega
  ·obtain rfl:j=n:=by omega
   have HA2:Hid (Al (iV (λb=>w.heap.size<=b) wr) vs (ns.map λx=>(Sp.rn T x.2 []).headD [])):=by
    have:=HA.out
    rw [HN.out,List.take_length] at this
    exact this.mono λa b h=>h.to λ_ h _=>h.1
   have hvl:vs.length=j:=by have:=HO.out.1;omega
   clear hlt
   go_wp2_with fail
   go_ret
   exact ⟨_,rfl,⟨vs,by rw [hvl];exact HO.out,HA2.out⟩,HB.out⟩
abbrev c8 (err at_ width:Int) (rv:Value) (count:Int):Value := .agg #[.int .i64 err, .int .i64 at_, .int .i64 width,rv, .int .i64 count]
theorem Fg {C:Nat->Prop} {w:World} {T:List Sp.Tb} {v:Value} {x:Sp.Bs} {t:Sp.Tb} (h:bV C w T v) (hf:aG x T=some t) :
  ∃ tv,eG C w t tv/\∀ w1,RowKit.Below w.heap.size w w1->Calls prog 146 #[v, .string (bz x)] w1 λe w'=>e = .returned (.tuple #[oW tv, .bool true])/\Gr w1 w':=by
 rcases h.2 with ⟨rfl,rfl⟩ | ⟨b,off,c,V,rfl,hC,hl,ha⟩
 ·simp [aG] at hf
 ·have key:∀ (T:List Sp.Tb) (V:List TV),Al (eG C w) T V->aG x T=some t->∃ tv,gO x V=some tv/\eG C w t tv:=by
   intro T
   induction T with
   | nil=>intro V _ hf;simp [aG] at hf
   | cons u T ih=>
    intro V ha hf
    match V,ha with
    | v::V,ha=>
     have e:v.name.toList=u.name:=by rw [ha.1.name,cY]
     rw [aG] at hf
     simp only [gO,e]
     cases hx:(u.name == x)
     ·rw [hx] at hf;simpa using ih V ha.2 (by simpa using hf)
     ·rw [hx] at hf
      simp only [if_true,Option.some.injEq] at hf
      subst hf
      exact ⟨v,by simp,ha.1⟩
  obtain ⟨tv,e1,e2⟩:=key T V ha hf
  refine ⟨tv,e2,λw1 g=>?_⟩
  have F:=uB b off T.length c V (bz x) w1 ha.len (by have:=h.1;omega) (hl.blk g.size (g.block b hl.lb))
  rw [cY,e1] at F
  exact F
theorem bV.to {C D:Nat->Prop} {w:World} {T:List Sp.Tb} {v:Value} (h:bV C w T v) (hd:∀ b,C b->b<w.heap.size->D b):bV D w T v:=by
 refine ⟨h.1,?_⟩
 rcases h.2 with h | ⟨b,off,c,V,ev,hC,hl,ha⟩
 ·exact .inl h
 ·exact .inr ⟨b,off,c,V,ev,hd b hC hl.lb,hl,ha.mono λt V h=>h.to hd⟩
theorem Bk.five {w:World} {q:Nat} {x0 x1 x2 x3 x4:Value} (h:Bk w q [x0,x1,x2,x3,x4]):(w.cell? ⟨q,0,none⟩=some x0/\w.cell? ⟨q,1,none⟩=some x1/\w.cell? ⟨q,2,none⟩=some x2/\w.cell? ⟨q,3,none⟩=some x3/\w.cell? ⟨q,4,none⟩=some x4)/\w.frozen? ⟨q,0,none⟩=false/\w.frozen? ⟨q,1,none⟩=false/\w.frozen? ⟨q,2,none⟩=false/\w.frozen? ⟨q,3,none⟩=false/\w.frozen? ⟨q,4,none⟩=false:=
 ⟨⟨h.c 0 (by simp),h.c 1 (by simp),h.c 2 (by simp),h.c 3 (by simp),h.c 4 (by simp)⟩,h.f 0,h.f 1,h.f 2,h.f 3,h.f 4⟩
theorem b7 {w:World} {q j:Nat} (h:j≠q) (a b c d e:Value):(((((w.setCell ⟨q,0,none⟩ a).setCell ⟨q,1,none⟩ b).setCell ⟨q,2,none⟩ c).setCell ⟨q,3,none⟩ d).setCell ⟨q,4,none⟩ e).heap[j]?=w.heap[j]?:=
 (c6 _ _ _ _ h).trans ((c6 _ _ _ _ h).trans ((c6 _ _ _ _ h).trans ((c6 _ _ _ _ h).trans (c6 _ _ _ _ h))))
theorem gH {n:Nat} {v w:World} {q:Nat} (h:RowKit.Below n v w) (hq:n<=q) (a b c d e:Value):RowKit.Below n v (((((w.setCell ⟨q,0,none⟩ a).setCell ⟨q,1,none⟩ b).setCell ⟨q,2,none⟩ c).setCell ⟨q,3,none⟩ d).setCell ⟨q,4,none⟩ e):=
 ((((h.setCell (p:=⟨q,0,none⟩) hq _).setCell (p:=⟨q,1,none⟩) hq _).setCell (p:=⟨q,2,none⟩) hq _).setCell (p:=⟨q,3,none⟩) hq _).setCell (p:=⟨q,4,none⟩) hq _
theorem vP {D:Nat->Prop} {w w' : World} {T:List Sp.Tb} {t:Sp.Tb} {VL:List TV} {V:TV} {v' : Value} (hD:∀ j,w.heap.size<=j->D j) (ha:Al (eG D w) T VL) (hV:eG D w t V) (o:DH w.heap.size w' v' (cQ V.name.toList VL ++ [V])) (hb:RowKit.Below w.heap.size w w') (hl:VL.length<=899):bV D w' (eE t T) v':=by
 have e:V.name.toList=t.name:=by rw [hV.name,cY]
 rw [e] at o
 have h2:(cQ t.name VL).length<=VL.length:=Cx _ _
 refine bV.owned o hD ?_ (by simp;omega)
 exact ((CV t.name ha).mono λ_ _ h=>h.bel hb).app ⟨hV.bel hb,trivial⟩
theorem KE.bel {w w' : World} {a:Nat} {nm:Nm} {ns:List (Nat×Nd)} {lo hi:Nat} {v:Value} (h:KE w a nm ns lo hi v) (g:RowKit.Below w.heap.size w w') (hh:hi<=w.heap.size):KE w' a nm ns lo hi v:=by
 obtain ⟨q,sl,e,a1,a2,hA,hL⟩:=h
 exact ⟨q,sl,e,a1,a2,hA.same g.size (g.block q hA.1),hL.frame (λn x m1 m2 h hk=>fZ.frame g.size n x m1 m2 h hk) λk _ h2=>g.block k (by omega)⟩
theorem C6 {C:Nat->Prop} {T:List Sp.Tb} {t:Sp.Tb} {N a hi lo:Nat} {nm:Nm} {ns:List (Nat×Nd)} {tv pv:Value} {w:World} (hC:∀ j,w.heap.size<=j->C j) (ht:bV C w T tv) (hf:aG nm.1 T=some t) (Ym:t.rows.length<=100) (hN:N<=90000) (hI:KE w a nm ns lo hi pv) (hh:hi<=w.heap.size) (hn:ns.length<=800)
  (hw:∀ x∈ns,wf N x.2 .list/\1<=x.2.len/\x.2.len<=N/\plain x.2=true/\bd T x.2 []) (hTl:T.length<=800) :
  Calls prog 89 #[tv,pv] w λe w'=>∃ v,e = .returned v/\(∃ tv',(100<t.rows.length+ns.length/\v = .tuple #[tv,c8 8 0 0 (.slice none 0 0) 0])\/(t.rows.length+ns.length<=100/\v = .tuple #[tv',c8 0 0 0 (.slice none 0 0) (ns.length:Nat)]/\bV C w' (eE { t with rows:=t.rows++ns.map λx=>(Sp.rn T x.2 []).headD [] } T) tv'))/\RowKit.Below w.heap.size w w':=by
 have ht:=ht.to (D:=λb=>(C b/\b<w.heap.size)\/w.heap.size+1<=b) λb h1 h2 => .inl ⟨h1,h2⟩
 obtain ⟨V,hV,Pa⟩:=Fg ht hf
 have HT:=hid ht
 have Gt:=hid Pa
 have HV:=hid hV
 have HI:=hid hI
 obtain ⟨q,sl,rfl,l1,l2,hA,_⟩:=hI
 have b1:=hA.k1
 have pR:=hA.1
 obtain ⟨ta,tn,tc,rfl⟩:∃ a n c,tv = .slice a n c:=by
  rcases ht.2 with ⟨_,e⟩ | ⟨b,off,c,V,e,_⟩
  ·exact ⟨_,_,_,e⟩
  ·exact ⟨_,_,_,e⟩
 have HW:=hid hw
 have HC:=hid hC
 have hrl:=hV.rl
 obtain ⟨R,hR⟩:∃ R,R=t.rows.length:=⟨_,rfl⟩
 have HR:=hid hR
 rw [<- hR] at hrl Ym
 obtain ⟨n,hnn⟩:∃ n,n=ns.length:=⟨_,rfl⟩
 have HN:=hid hnn
 rw [<- hnn] at hn
 rw [<- hR,<- hnn]
 clear ht hV Pa hA hw hC hR hnn
 obtain ⟨vn,ca,cl,cc,ra,rl,rc⟩:=V
 simp only [] at hrl
 subst hrl
 go_enter func89,ntmps89
 have G0:=hid ((Gr.refl w).alloc (.cells #[.int .i64 0, .int .i64 0, .int .i64 0, .slice none 0 0, .int .i64 0] 56))
 go_wp2_with fail
 refine (Gt.out _ G0.out.below).mono ?_
 rintro e w1 ⟨rfl,g1⟩
 have G1:=hid (G0.out.trans g1)
 have QA:=hid g1
 have G2:=hid ((G0.out.trans g1).alloc (.cells #[.string vn, .slice ca cl cc, .slice ra rl rc] 187))
 have Mb:=hid (C5 (ta:=ta) (tn:=tn) (tc:=tc) hN (HI.out.bel G2.out.below hh) (cF hh G2.out.size) (by have:=HN.out;omega) HW.out)
 clear g1
 go_wp2_with fail
 refine Mb.out.mono ?_
 rintro e w3 ⟨av,rfl,⟨xs,o3,a3⟩,b3⟩
 have hxn:xs.length=n:=by rw [a3.len,List.length_map];exact HN.out.symm
 obtain ⟨xa,xc,rfl⟩:∃ a c,av = .slice a n c:=by
  obtain ⟨_,h | ⟨g',cap,cur,hv,_⟩⟩:=o3
  ·exact ⟨none,0,by rw [h.1,<- hxn,h.2]⟩
  ·exact ⟨_,_,by rw [<- hxn];exact hv⟩
 have oA:Hid (w3.ownsRow (w1.heap.size+1) 41 1 (.slice xa n xc) n xs):=by
  show World.ownsRow _ _ _ _ _ _ _
  rw [hxn] at o3
  simpa using o3
 have Wf:=hid a3
 have HB3:Hid (RowKit.Below w.heap.size w w3):=G2.out.below.trans (b3.mono G2.out.size)
 have Th:=hid b3
 have HT3:Hid (B3 w3 w1.heap.size (.string vn) (.slice ca cl cc) (.slice ra rl rc)):=(B3.new w1 _ _ _ _).same b3.size (b3.block _ (by simp))
 obtain ⟨t0,t1,t2,t3,t4,t5,t6⟩:=HT3.out
 have hz1:=G1.out.size
 clear o3 a3 b3 Mb hxn
 have oY:Hid (Bk w3 w.heap.size [.int .i64 0, .int .i64 0, .int .i64 0, .slice none 0 0, .int .i64 0]):=by
  have h1:=Bk.new w #[.int .i64 0, .int .i64 0, .int .i64 0, .slice none 0 0, .int .i64 0] 56
  have hlt:w.heap.size<w1.heap.size:=by have:=QA.out.size;simp at this;omega
  have h2:Bk w1 w.heap.size [.int .i64 0, .int .i64 0, .int .i64 0, .slice none 0 0, .int .i64 0]:=h1.below QA.out.below
  exact (h2.alloc _).below Th.out
 obtain ⟨⟨k0,k1,k2,k3,k4⟩,f0,f1,f2,f3,f4⟩:=oY.out.five
 by_cases hgt:100<rl+n
 ·go_wp2_with fail
  refine cV (v := .tuple #[.slice ta tn tc,c8 8 0 0 (.slice none 0 0) 0]) (by simp [results,results89,go_sem,k0,k1,k2,k3,k4]) rfl ⟨_,rfl,⟨.slice ta tn tc, .inl ⟨hgt,rfl⟩⟩,?_⟩
  exact gH HB3.out (aF _) _ _ _ _ _
 ·have Rv:=hid ((Gr.refl w3).alloc (.cells #[.slice ra rl rc, .slice xa n xc] 32))
  have Nb:Hid (bV (λb=>(C b/\b<w.heap.size)\/w.heap.size+1<=b) w3 T (.slice ta tn tc)):=HT.out.bel HB3.out
  have Ti:Hid (eG (λb=>(C b/\b<w.heap.size)\/w.heap.size+1<=b) w3 t ⟨vn,ca,cl,cc,ra,rl,rc⟩):=HV.out.bel HB3.out
  have hz3:=HB3.out.size
  have hlw:w.heap.size+1<=w1.heap.size:=by have:=QA.out.size;simpa using this
  have Rx:=hid (pK (C:=λb=>(C b/\b<w.heap.size)\/w.heap.size+1<=b) (b:=w3.heap.size) (off:=0) (n:=2) (c:=2) (vs := [.slice ra rl rc, .slice xa n xc]) (qS := [t.rows,ns.map λx=>(Sp.rn T x.2 []).headD []]) (w:=w3.alloc (.cells #[.slice ra rl rc, .slice xa n xc] 32)) (λj hj => .inr (by have:=Rv.out.size;omega)) (Ti.out.bel Rv.out.below) rfl rfl (by simp)
   (λj hj=>by
    match j,hj with
    | 0,_=>simp
    | 1,_=>simp)
   (λj hj=>by
    match j,hj with
    | 0,_=>exact (Ti.out.lrs).bel Rv.out.below
    | 1,_=>
     refine xB.bel ⟨xs,?_,Wf.out.mono λa b h=>h.to λb hb _ => .inr ?_⟩ Rv.out.below
     ·have ho:=oA.out
      have hxl:xs.length=n:=by have:=ho.1;omega
      rw [<- hxl] at ho ⊢
      exact zQ.owned ho
     ·have:w1.heap.size+1<=b:=by simpa using hb
      omega)
   (by simp;have:=HR.out;have:=HN.out;omega) (by omega))
  go_wp2_with fail
  refine Rx.out.mono ?_
  rintro e w4 ⟨v4,rfl,⟨V4,rfl,Ws⟩,b4⟩
  rw [show [t.rows,ns.map λx=>(Sp.rn T x.2 []).headD []].flatten=t.rows++ns.map λx=>(Sp.rn T x.2 []).headD [] by simp] at Ws
  have HB4:Hid (RowKit.Below w3.heap.size w3 w4):=Rv.out.below.trans (b4.mono Rv.out.size)
  have HT4:Hid (bV (λb=>(C b/\b<w.heap.size)\/w.heap.size+1<=b) w4 T (.slice ta tn tc)):=Nb.out.bel HB4.out
  obtain ⟨VL,QB,Mj,Yn⟩:=HT4.out.Wh
  have Yo:VL.length=T.length:=Mj.len.symm
  have Qt:=hid (rR (t:=V4) QB (by omega))
  have HV4:=hid Ws
  have Wt:=hid Mj
  clear Ws b4 QB Mj Rx
  go_wp2_with fail
  refine Qt.out.mono ?_
  rintro e w5 ⟨v5,rfl,o5,b5⟩
  have KR:=hid (vP (λj hj => .inr (by have:=HB4.out.size;omega)) Wt.out HV4.out o5 b5 (by omega))
  have Ts:Hid (RowKit.Below w3.heap.size w3 w5):=HB4.out.trans (b5.mono HB4.out.size)
  have Bd:=hid (oY.out.below Ts.out)
  obtain ⟨⟨p0,p1,p2,p3,p4⟩,g0,g1,g2,g3,g4⟩:=Bd.out.five
  obtain ⟨Yp,Yq,Yr,rfl⟩:∃ a n c,v5 = .slice a n c:=by obtain ⟨a,c,h⟩:=o5.sl;exact ⟨_,_,_,h⟩
  clear o5 b5 Qt
  go_wp2_with fail
  refine cV (v := .tuple #[.slice Yp Yq Yr,c8 0 0 0 (.slice none 0 0) (n:Nat)]) (by simp [results,results89,go_sem,p0,p1,p2,p3,p4]) rfl ⟨_,rfl,⟨.slice Yp Yq Yr, .inr ⟨by omega,rfl,?_⟩⟩,?_⟩
  ·refine (KR.out.blk (by simp [World.setCell]) λb hb _=>b7 (show b≠w.heap.size by rcases hb with hb | hb <;> omega) _ _ _ _ _).to λb hb _=>?_
   rcases hb with hb | hb
   ·exact hb.1
   ·exact HC.out b (by omega)
  ·exact gH (HB3.out.trans (Ts.out.mono HB3.out.size)) (aF _) _ _ _ _ _
theorem NA {l n:Nat} {P:Program} {o:Oper} {a:Act} {K:Act->World->Prop} {Q:Exit->Act->World->Prop} {r:Result Next} (h:o.upon P a K Q r):o.uponIn (Fence.wide.inRound l) n P a K Q r:=by
 cases r with
 | ok x w'=>
  cases x with
  | value v=>exact h
  | skip=>exact h
  | defer d=>exact h
  | enter f args=>exact ⟨λhd=>(by cases hd),CallsIn.inRound l (callsIn_wide.2 h)⟩
  | row row args=>
   refine ⟨λhd=>(by cases hd),λc cs _=>?_⟩
   obtain ⟨v,w2,r1,r2⟩:=h c cs
   exact ⟨v,w2,r1,stepsIn_wide.2 r2⟩
  | _=>exact h.elim
 | halt x w'=>
  cases x with
  | panic v=>exact h
  | _=>exact h.elim
theorem Tt {l n:Nat} {P:Program} {o:Oper} {a:Act} {w:World} {K:Act->World->Prop} {Q:Exit->Act->World->Prop} (hnd:∀ c,o.op ≠ .defer c) (h:o.wp P a w K Q):o.wpIn (Fence.wide.inRound l) n P a w K Q:=by
 refine ⟨λ_ _=>trivial,?_⟩
 rw [Oper.semAt_plain _ _ _ hnd]
 exact NA h
theorem C7 {l n:Nat} {P:Program} {md:Region.Mode} {ops:Array Oper} {Q:Exit->Act->World->Prop} (hlo:¬ LetsOut Q) (hnd:∀ (j:Nat) (o:Oper),ops[j]?=some o->∀ c,o.op ≠ .defer c):∀ (fuel:Nat) (listed:Array Bool) (a:Act) (w:World),wpAny P md ops Q fuel listed a w->wpAnyIn (Fence.wide.inRound l) n P md ops Q fuel listed a w
 | 0,_,_,_,h=>h
 | fuel+1,listed,a,w,h=>by
  refine ⟨h.1,λi hi=>?_⟩
  have h2:=wpOp_mono (λa' w' h'=>C7 (l:=l) (n:=n) hlo hnd fuel _ a' w' h') (h.2 i hi)
  unfold wpOp at h2
  unfold wpOpIn
  cases ho:ops[i]? with
  | none=>rw [ho] at h2;exact h2
  | some o=>
   rw [ho] at h2
   simp only [] at h2 ⊢
   split
   ·rename_i hw
    rw [if_pos hw] at h2
    exact Tt (hnd i o ho) (h2.resolve_right λh=>hlo h.2)
   ·rename_i hw
    rw [if_neg hw] at h2
    exact ⟨λ_ _=>trivial,h2⟩
def GC (o:Oper):Bool:=match o.op with | .defer _=>false | _=>true
theorem eH {l n:Nat} {P:Program} {id:Nat} {ops:Array Oper} {Q:Exit->Act->World->Prop} {S:World->Prop} {a:Act} {w:World} (hm:P.follows .mixedOrders=true) (hnd:ops.all GC=true) (hlo:¬ LetsOut Q)
  (h:wpAnyH P .any ops Q S ops.size (Array.replicate ops.size false) a w.drew):(Code.region id ops true).wpIn (Fence.wide.inRound l) n P Q a w:=by
 refine wpIn_region_any hm ?_
 refine C7 hlo (λj o ho c e=>?_) _ _ _ _ (wpAny_of_held _ _ _ _ h)
 have h2:=Array.all_eq_true.1 hnd j (Array.getElem?_eq_some_iff.1 ho).1
 rw [(Array.getElem?_eq_some_iff.1 ho).2] at h2
 simp [GC,e] at h2
theorem aT {P:Program} {md:Region.Mode} {ops:Array Oper} {Q:Exit->Act->World->Prop} {S:World->Prop} {i fuel:Nat} {o:Oper} {listed:Array Bool} {a:Act} {w:World} (hr:Region.ready md ops listed = [i]) (ho:ops[i]?=some o) (hg:o.guard=none)
  (h:∀ K:Act->World->Prop,(∀ a' w',S w'->wpAnyH P md ops Q S fuel (listed.setIfInBounds i true) a' w'->K a' w')->o.wp P a w K Q):wpAnyH P md ops Q S (fuel+1) listed a w:=by
 refine wpAnyH_all hr (by simp) λj hj=>?_
 obtain rfl:j=i:=by simpa using hj
 unfold wpOp
 rw [ho]
 have hw:Region.wanted o (yielded ops a.tmps)=true:=by simp [Region.wanted,hg]
 simp only [hw,if_true]
 exact .inl (h _ λa' w' hs h'=>⟨hs,h'⟩)
theorem lF {P:Program} {md:Region.Mode} {ops:Array Oper} {Q:Exit->Act->World->Prop} {S:World->Prop} {i j fuel:Nat} {o p:Oper} {listed:Array Bool} {a:Act} {w:World} (hr:Region.ready md ops listed = [i,j]) (ho:ops[i]?=some o) (hg:o.guard=none) (hp:ops[j]?=some p) (hg' : p.guard=none)
  (h:∀ K:Act->World->Prop,(∀ a' w',S w'->wpAnyH P md ops Q S fuel (listed.setIfInBounds i true) a' w'->K a' w')->o.wp P a w K Q)
  (h' : ∀ K:Act->World->Prop,(∀ a' w',S w'->wpAnyH P md ops Q S fuel (listed.setIfInBounds j true) a' w'->K a' w')->p.wp P a w K Q):wpAnyH P md ops Q S (fuel+1) listed a w:=by
 refine wpAnyH_all hr (by simp) λk hk=>?_
 rcases List.mem_cons.1 hk with rfl | hk
 ·unfold wpOp
  rw [ho]
  have hw:Region.wanted o (yielded ops a.tmps)=true:=by simp [Region.wanted,hg]
  simp only [hw,if_true]
  exact .inl (h _ λa' w' hs h'=>⟨hs,h'⟩)
 ·obtain rfl:k=j:=by simpa using hk
  unfold wpOp
  rw [hp]
  have hw:Region.wanted p (yielded ops a.tmps)=true:=by simp [Region.wanted,hg']
  simp only [hw,if_true]
  exact .inl (h' _ λa' w' hs h'=>⟨hs,h'⟩)
end Go.Proofs.YtgnncnhkgmhngaaGreatDoor
