import Derived.Test.YtgnncnhkgmhngaaGreatDoorJ53
import Derived.Test.YtgnncnhkgmhngaaGreatDoorCards
import Derived.Test.YtgnncnhkgmhngaaGreatDoorTie
import Derived.ProofKit
import Derived.OpenShut
import Derived.Carry
import Derived.Deep.DeepHandedRow
import Derived.Deep.DeepWitnessRowRef
import Derived.Deep.Slices
import Derived.LaidMore
import Derived.LaidLaws
import Derived.Shelf.Vars
import Derived.Test.YtgnncnhkgmhngaaGreatDoorRows
import Derived.JoinedOf
import Derived.Lay
import Derived.SevenTiedAt
set_option maxRecDepth 100000
namespace Go.Proofs.YtgnncnhkgmhngaaGreatDoor
open _root_.Go.Proofs.Tryz _root_.Go.Proofs.YtgnncnhkgmhngaaGreatDoor.Tryz
open Go.ChangeShapes Go.WideShapes Go.ChangeAt Go.RowKit
theorem own:ownKnob Tryz.prog.godebug=none:=by kernel_rfl
theorem OX : Tryz.prog.globalNamed "strconv.ErrRange" = some 1 := by kernel_rfl
theorem OY:(Tryz.prog.globals[1]?).map (·.type)=some 304:=by kernel_rfl
theorem laidOut:laidOutB Tryz.prog=true:=by kernel_rfl
theorem Kv:Tryz.prog.cellsOf 63=2:=by kernel_rfl
theorem EH {W:World} (h:laidMetH Tryz.prog Rows.bagsRow.laid W):VR W:=by
 rw [MakeChecks.laidMetH_plain _ _ _ (by kernel_rfl)] at h
 obtain ⟨ps,⟨g0,t0,cs0,f0,p0,q0,_,_,_,_,⟨g1,t1,cs1,f1,p1,q1,_,_,_,_,⟨g2,t2,cs2,f2,p2,q2,_,_,_,_,⟨gx,tx,csx,fx,px,qx,_,_,_,_,⟨g3,t3,cs3,f3,p3,q3,hg3,ht3,hv3,hd3,_,_⟩,_⟩,_⟩,_⟩,_⟩,_,_⟩:=h
 obtain rfl:=Option.some.inj (OX.symm.trans hg3)
 obtain rfl:=Option.some.inj (OY.symm.trans ht3)
 obtain ⟨_,u,v,hcs,_,_⟩:=iface_of_trod Tryz.underlying304 hd3
 have hc:=World.var?_cell hg3 hv3 0
 rw [Array.eq_one_of_toList hcs] at hc
 have hc' : W.cell? ⟨1,0,none⟩=some (.iface u v):=hc
 exact ⟨u,v,hc',cell_lt hc'⟩
theorem CP {W:World} (h:W.ShapedOpen Tryz.prog):VM W:=by
 obtain ⟨m,hm⟩:=cell_of_shapedOpen_int (P:=Tryz.prog) (g:=5) (t:=3) (zero:=#[.int .i64 0]) (k := .i64) h (of_decide_eq_true (by kernel_rfl)) (by kernel_rfl) rfl (by kernel_rfl) (by kernel_rfl) Tryz.underlying3
 exact ⟨m,hm,cell_lt hm⟩
theorem Hw:∃ f0 f1:Field,Tryz.prog.underlying 63=some (.struct #[f0,f1])/\(f0.type=3/\f0.offset=0)/\(f1.type=3/\f1.offset=1):=
 ⟨_,_,Tryz.underlying63,⟨rfl,rfl⟩,⟨rfl,rfl⟩⟩
theorem CQ:Tryz.prog.cellsOf 3=1:=by kernel_rfl
theorem FI {n:Int} (h:(Lit.int .i64 n).wf=true):-9223372036854775808<=n/\n<=9223372036854775807:=by
 simpa [Lit.wf,IntKind.min,IntKind.max,IntKind.bits,IntKind.signed] using h
theorem Kw {H:Type} {enc:TypeId×Value->H} {W:World} {fuel:Nat} {o:Option Addr} {n cap:Nat} {x:DataW H×List MemPlace} (h:DataW.trod enc Tryz.prog W 0 (λ_=>true) true fuel 29 [.slice o n cap]=some x):∃ l,n=l.length/\rG W (.slice o n cap) l/\n<=maxLen:=by
 rcases Deep.open_slice Tryz.underlying29 h with ⟨hcs,_⟩ | ⟨a,len,cap',m,fu,D,Pl,hcs,_,hl,hm,hmm,_,hel⟩
 ·simp only [List.cons.injEq,Value.slice.injEq,and_true] at hcs
  obtain ⟨rfl,rfl,rfl⟩:=hcs
  exact ⟨[],rfl, .inl ⟨_,_,rfl,rfl⟩,fO _⟩
 ·simp only [List.cons.injEq,Value.slice.injEq,and_true] at hcs
  obtain ⟨rfl,rfl,rfl⟩:=hcs
  have hlm:n<=m:=by rw [hmm,if_pos rfl];exact hl
  obtain ⟨f0,f1,hst,⟨t0,o0⟩,⟨t1,o1⟩⟩:=Hw
  have each:∀ i,i<n->∃ kq:Int×Int,W.cell? (a.add (i*2))=some (.int .i64 kq.1)/\W.cell? (a.add (i*2+1))=some (.int .i64 kq.2)/\(-9223372036854775808<=kq.1/\kq.1<=9223372036854775807)/\(-9223372036854775808<=kq.2/\kq.2<=9223372036854775807):=by
   intro i hi
   obtain ⟨cs',h1,h2⟩:=hel i (bY hi hlm)
   rw [Kv] at h1
   obtain ⟨_,hlen,hcell⟩:=World.cells?_some h1
   obtain ⟨xs,k,_,_,_,hxl,hf⟩:=DataW.trod_struct hst h2
   match xs,hxl,cs',hlen with
   | [y0,y1],_, [v0,v1],_=>
    have g0:=hf 0 f0 rfl
    have g1:=hf 1 f1 rfl
    rw [t0,o0,CQ] at g0
    rw [t1,o1,CQ] at g1
    have e0:=hcell 0 (by omega)
    have e1:=hcell 1 (by omega)
    rw [Deep.add_add] at e0 e1
    obtain ⟨k0,d0,_,r0⟩:=DataW.trod_int Tryz.underlying3 (x:=y0) g0
    obtain ⟨k1,d1,_,r1⟩:=DataW.trod_int Tryz.underlying3 (x:=y1) g1
    simp at d0 d1
    subst d0 d1
    exact ⟨(k0,k1),e0,e1,FI r0,FI r1⟩
  obtain ⟨f,hf⟩:=Deep.choose_lt each
  refine ⟨(List.range n).map f,by simp,?_,cE hl hm⟩
  by_cases hn:n=0
  ·subst hn
   exact .inl ⟨_,_,rfl,rfl⟩
  ·have h0:=(hf 0 (by omega)).1
   obtain ⟨b,off,spot⟩:=a
   have hspot:spot=none:=by simpa [Addr.add] using World.cell?_spot h0
   subst hspot
   refine .inr ⟨b,off,cap,by simp,cell_lt h0,λi hi=>?_,λi hi=>?_⟩
   ·have hi' : i<n:=by simpa using hi
    have:=hf i hi'
    rw [add_plain] at this
    simp only [List.getElem_map,List.getElem_range]
    exact ⟨this.1,this.2.1⟩
   ·have hi' : i<n:=by simpa using hi
    simp only [List.getElem_map,List.getElem_range]
    exact (hf i hi').2.2
theorem contract (H:Type) (enc:TypeId×Value->H) (W:World) (base:Nat) (args:Array Value) (ds gs:List (DataW H)) (before:List MemPlace)
  (hval:∀ (j:Nat) t v,Tryz.f8.params[j]?=some t->args[j]?=some v->Value.okWide Tryz.prog W .any base t v)
  (hW:DataW.Whole enc Tryz.prog Tryz.f8.params.toList Rows.bagsSpec.vars false W args.toList ds gs before) (hL:laidMetH Tryz.prog Rows.bagsRow.laid W) (hsh:W.ShapedOpen Tryz.prog) :
  Calls Tryz.prog 8 args W λe W'=>∃ v,e = .returned v/\Rows.bagsSpec.post enc Tryz.prog Tryz.f8 false true false false W args v W':=by
 have hW':=hW
 obtain ⟨p,q,hA0,hV,rfl,_,_⟩:=hW
 have hA:DataW.TrodAll enc Tryz.prog W 0 (λ_=>true) true Tryz.f8.params.toList args.toList ds p:=hA0
 rw [Tryz.params8] at hA hval
 obtain ⟨v0,vs0,d0,ds0,p0,q0,hargs,rfl,rfl,h0,r0⟩:=trodAll_cons hA
 obtain ⟨v1,vs1,d1,ds1,p1,q1,rfl,rfl,rfl,h1,r1⟩:=trodAll_cons r0
 obtain ⟨rfl,rfl,rfl⟩:=trodAll_nil r1
 obtain rfl:args=#[v0,v1]:=by cases args;simp_all
 obtain ⟨rfl,rfl⟩:=trodVars_none hV
 obtain ⟨a0,len,cap,rfl⟩:=okWide_slice Tryz.underlying29 (hval 0 29 v0 rfl rfl)
 obtain ⟨a1,len1,cap1,rfl⟩:=okWide_slice Tryz.underlying29 (hval 1 29 v1 rfl rfl)
 have h0k:=h0
 have h1k:=h1
 obtain ⟨fuel,hf⟩:=h0
 obtain ⟨fuel1,hf1⟩:=h1
 clear hA0
 simp only [List.append_nil] at hW'
 have hlt:∀ x∈p0++p1,x.block<W.heap.size:=λx hx=>by simpa using hW'.lt x hx
 obtain ⟨l,hnl,hraw,hmx⟩:=Kw (o:=a0) (n:=len) (cap:=cap) (by simpa [Value.cells] using hf)
 obtain ⟨l1,U8,RS,U9⟩:=Kw (o:=a1) (n:=len1) (cap:=cap1) (by simpa [Value.cells] using hf1)
 refine (RJ ⟨EH hL,CP hsh⟩ hraw RS hnl U8 (by simpa [maxLen] using hmx) (by simpa [maxLen] using U9)).mono λe W' ⟨he,hb⟩=>?_
 subst he
 have har:DataW.Trod enc Tryz.prog W' 0 (λb=>decide (b<W.heap.size)) true 29 (.slice a0 len cap) d0 p0:=Below.trod laidOut (by kernel_rfl) (of_decide_eq_true (by kernel_rfl)) h0k hb (λx hx=>hlt x (by simp [hx]))
 have Va:DataW.Trod enc Tryz.prog W' 0 (λb=>decide (b<W.heap.size)) true 29 (.slice a1 len1 cap1) d1 p1:=Below.trod laidOut (by kernel_rfl) (of_decide_eq_true (by kernel_rfl)) h1k hb (λx hx=>hlt x (by simp [hx]))
 refine ⟨_,rfl,_,_,_, [],p0++(p1 ++ []), [],hW',?_,?_,rfl,hb.frame _,λh=>by cases h⟩
 ·exact trodAll_cons_mk (shut_bool Tryz.underlying4 _) trodAll_mk0
 ·exact trodAll_cons_mk har (trodAll_cons_mk Va trodAll_mk0)
open Go
theorem aL {a b:Bool} (h:a=true) (k:b=true):(a&&b)=true:=by rw [h,k];rfl
theorem EI:laidOutB Tryz.prog=true:=by kernel_rfl
theorem Ml:mapsRowed Tryz.prog=true:=by kernel_rfl
theorem Kx:(Rows.bagsRow.inPlace == Tryz.prog.inPlace 8)=true:=by kernel_rfl
theorem OZ:(Rows.bagsRow.unfollowed == Tryz.prog.unfollowed 8)=true:=by kernel_rfl
theorem O0:(Rows.bagsRow.recurses == Tryz.prog.recurses 8)=true:=by kernel_rfl
theorem Ky:(Rows.bagsRow.named == Tryz.prog.varsNamed 8)=true:=by kernel_rfl
theorem O5:namedTie Tryz.prog Rows.bagsRow.named Rows.bagsSpec.vars=true:=by kernel_rfl
theorem RT:Rows.bagsRow.wf (OpenSpec.ofChange Rows.bagsSpec)=true:=by kernel_rfl
theorem laid_met (os:Os) (args:Array Value):laidMet Tryz.prog Rows.bagsRow.laid ((World.laidAll Tryz.prog os Rows.bagsRow.laid).forCall (λ_ _=>0) ⟨#[],args, []⟩).memory:=
 laidMet_laidAll args (by kernel_rfl) (by kernel_rfl)
theorem reads (os:Os) {H:Type} (enc:TypeId×Value->H):∃ places,DataW.whole enc Tryz.prog ((World.laidAll Tryz.prog os Rows.bagsRow.laid).forCall (λ_ _=>0) ⟨#[],#[.slice none 0 0, .slice none 0 0], []⟩).memory Tryz.f8.params.toList Rows.bagsSpec.vars false #[Value.slice none 0 0, .slice none 0 0].toList 8=some ([.nil, .nil], [],places):=
 ⟨[],by kernel_rfl⟩
theorem lifted (os:Os) (started:os.Started) (H:Type) (enc:TypeId×Value->H) (F:Stop.Interp) :
  ReturnsInHanded {} Tryz.checked os 8 .any ((OpenSpec.ofChange Rows.bagsSpec).preRow enc Tryz.prog Tryz.f8 Rows.bagsRow.domain false Rows.bagsRow.laid) (((OpenSpec.ofChange Rows.bagsSpec).at F).post enc Tryz.prog Tryz.f8 false true false false):=by
 obtain ⟨places,hx⟩:=reads os enc
 refine returnsInHanded_of_row (C:=Tryz.checked) (s:=OpenSpec.ofChange Rows.bagsSpec) own started (by kernel_rfl) Tryz.func8
  (witness_row_atRef (enc:=enc) (C:=Tryz.checked) false (World.laidAll Tryz.prog os Rows.bagsRow.laid) #[.slice none 0 0, .slice none 0 0] (World.laidAll_os _ _ _) (by kernel_rfl) (by kernel_rfl) (by kernel_rfl)
   (OpenSpec.preRow_of_cond 8 hx (by kernel_rfl) (λk hk=>by cases hk) (by kernel_rfl) (laid_met os _))) ?_
 intro W base args ds gs before hval hW _ _ _ hL hsh _
 exact contract H enc W base args ds gs before hval hW hL hsh
theorem EJ:joinedFacts Tryz.prog 8 Tryz.f8 Rows.bagsSpec Rows.bagsRow=true:=
 (aL (aL (aL (aL (aL (aL (aL (aL (aL (aL (aL (aL (aL (aL (aL (aL (aL (aL (aL (aL (aL (aL (aL (aL (aL (aL (aL (aL (aL (aL (aL RT EI) Ml) (by kernel_rfl)) O5) (by kernel_rfl)) (by kernel_rfl)) (by kernel_rfl)) (by kernel_rfl)) Kx) OZ) O0) Ky) (by kernel_rfl)) (by kernel_rfl)) (by kernel_rfl)) (by kernel_rfl)) (by kernel_rfl)) (by kernel_rfl)) (by kernel_rfl)) (by kernel_rfl)) (by kernel_rfl)) (by kernel_rfl)) (by kernel_rfl)) (by kernel_rfl)) (by kernel_rfl)) (by kernel_rfl)) (by kernel_rfl)) (by kernel_rfl)) (by kernel_rfl)) (by kernel_rfl)) (by kernel_rfl))
theorem vZ:joinedFacts pinned.checked.prog 8 Tryz.f8 (OpenSpec.ofChange Rows.bagsSpec).bare Rows.bagsRow=joinedFacts Tryz.prog 8 Tryz.f8 Rows.bagsSpec Rows.bagsRow:=by kernel_rfl
theorem Hx:Rows.BagsSaid:=
 OpenClaim.holds_of_cond 8 Tryz.f8 rfl rfl rfl rfl rfl rfl rfl ⟨rfl,rfl,rfl,rfl,rfl⟩ rfl rfl rfl rfl rfl (by kernel_rfl) Tryz.func8 (vZ.trans EJ)
  (of_decide_eq_true (by kernel_rfl)) (by unfold Func.isWrapper;first | (rw [if_pos (by decide +kernel)];kernel_rfl) | (rw [if_neg (by decide +kernel)];exact ⟨rfl,rfl⟩))
  (λos started H enc _ F=>by rw [OpenClaim.pre_eq_preRow];exact lifted os started H enc F)
theorem EK (f : FuncId) (fn : Func) (hf : pinned.checked.prog.funcNamed "satchel/satchelkeep.Bags" = some f) (hfn : pinned.checked.prog.funcs[f]? = some fn) :
  true=pinned.checked.prog.looks []/\∀ (j:Nat) t,fn.params[j]?=some t->pinned.checked.prog.wantsStandIn t=false:=by
 obtain rfl : f = 8 := Option.some.inj ((show Tryz.prog.funcNamed "satchel/satchelkeep.Bags" = some 8 by kernel_rfl).symm.trans hf) |>.symm
 obtain rfl:fn=Tryz.f8:=(Option.some.inj (Tryz.func8.symm.trans hfn)).symm
 refine ⟨by kernel_rfl,λj t ht=>?_⟩
 rw [Tryz.params8] at ht
 have hm:t=29:=by simpa using Array.mem_of_getElem? ht
 subst hm
 exact (show Tryz.prog.wantsStandIn 29=false by kernel_rfl)
theorem Hy (Lk:Looks) {p:Pinned} {s:OpenSpec} {c:OpenClaim} (kinds:List LaidKind) (tests:Bool) (har:Bool×String) (lk:Bool) (hc:c.holds p s) (hw:c.wfByText s=true) (htie:c.laidByTextAt Lk p kinds tests)
  (hst:c.start = .entering) (hnb:c.noBlocks=false/\c.again=false) (hm:p.checked.prog.mainIs=some (har.1,har.2.toList)) (hn:(!har.1&&har.2.isEmpty&&!lk)=false)
  (hl:∀ f fn,p.checked.prog.funcNamed c.func=some f->p.checked.prog.funcs[f]?=some fn->lk=p.checked.prog.looks []/\∀ (j:Nat) t,fn.params[j]?=some t->p.checked.prog.wantsStandIn t=false)
  (hg:true=c.goesBy p.checked.prog) :
  Claim7.holds p (.plain s) { stood:={ row:=c,standIns := [],harness:=har,looks:=lk },kinds := [],alts := [],goes:=true,laidByText:=true,laidKinds:=kinds,laidTests:=tests,laidLooks:=Lk }:=by
 have h6:∀ r:OpenClaim,Claim7.isSixth { stood:={ row:=r,standIns := [],harness:=har,looks:=lk },kinds := [] }=false:=λr=>by simpa [Claim7.isSixth] using hn
 exact ⟨Claim7.tied_new_at Lk kinds tests (Claim7.new_of_sixth hc har lk hst hnb hm (h6 c) hl) hw,λD hD=>(by cases hD),htie,(λh=>by cases h),hg⟩
theorem bags_holds:Rows.BagsCardSaid:=
 Hy .later _ _ _ _ Hx (by kernel_rfl) bags_row_tie rfl ⟨rfl,rfl⟩ (by kernel_rfl) rfl EK (by kernel_rfl)
end Go.Proofs.YtgnncnhkgmhngaaGreatDoor
