import Derived.Test.YtgnncnhkgmhngaaGreatDoorJ39
import Derived.Test.YtgnncnhkgmhngaaGreatDoorJ36
set_option maxHeartbeats 4000000
set_option maxRecDepth 100000
namespace Go.Proofs.YtgnncnhkgmhngaaGreatDoor.Sp
open Sv (Val)
abbrev Row:=List Val
def val (l:List Row):Val:=(l.headD []).headD Sv.null
def onceF (r:Row):List Row->List Row
 | [] => []
 | s::l=>if cmpR s r=0 then onceF s l else s::onceF s l
def once:List Row->List Row
 | [] => []
 | r::l=>r::onceF r l
def skip (r:Row):List Row->List Row
 | [] => []
 | s::l=>if cmpR s r<0 then skip r l else s::l
def matched:List Row->List Row->List Row×List Row
 | [],_=>([], [])
 | r::l,m=>
  match skip r m with
  | []=>let q:=matched l [];(q.1,r::q.2)
  | s::m'=>if cmpR s r=0 then (let q:=matched l m';(r::q.1,q.2)) else (let q:=matched l (s::m');(q.1,r::q.2))
def combined (w:Bs) (all:Bool) (p q:List Row):List Row:=
 let p:=if all then p else once p
 let q:=if all then q else once q
 let m:=matched p q
 if w == [105,110,116,101,114,115,101,99,116] then m.1 else if w == [101,120,99,101,112,116] then m.2 else if all then sortR (p++q) else sortR (m.2++q)
def isIn (v:Val) (l:List Val):Val:=
 if !Sv.isNull v&&l.contains v then Sv.bool true else if (!l.isEmpty&&Sv.isNull v)||l.any Sv.isNull then Sv.null else Sv.bool false
def single:List Val->Val
 | [v]=>v
 | _=>Sv.null
def rowsOf (T:List Tb) (src:List (Nm×Nm)):List (List Row):=src.map fun s=>((findTb s.1.1 T).getD noTb).rows
def rn (T:List Tb):Nd->List (List Row)->List Row
 | .nil,_ => [[]]
 | .none,_ => []
 | .cons h t,env => [val (rn T h env)::(rn T t env).headD []]
 | .clause _ e,env=>rn T e env
 | .const v,_ => [[v]]
 | .col _ _ _ o sr ce,env => [[(((env[o]?).getD [])[sr]?.getD [])[ce.toNat]?.getD Sv.null]]
 | .op w _ args,env => [[Sv.of w ((rn T args env).headD [])]]
 | .kase arms els,env=>
  match (rn T arms env).headD [] with
  | v::_ => [[v]]
  | []=>(match els with | .clause _ _=>rn T els env | _ => [[Sv.null]])
 | .arms _ w _ t rest,env=>if Sv.isTrue (val (rn T w env)) then [[val (rn T t env)]] else rn T rest env
 | .within w _ args q,env=>
  let vs:=(rn T q env).map (·.headD Sv.null)
  if w == [101,120,105,115,116,115] then [[Sv.bool (!vs.isEmpty)]] else if w == [105,110] then [[isIn ((rn T args env).headD [] |>.headD Sv.null) vs]] else [[single vs]]
 | .comb w _ all p q,env=>combined w all (rn T p env) (rn T q env)
 | .sel di _ ex src wh,env=>
  let rows:=sortR ((prods (rowsOf T src)).flatMap fun taken=>
   if (match wh with | .clause _ _=>Sv.isTrue (val (rn T wh (taken::env))) | _=>true) then [match ex with | .none=>taken.flatten | _=>(rn T ex (taken::env)).headD []] else [])
  if di then once rows else rows
def holds (T:List Tb) (wh:Nd) (env:List (List Row)):Bool:=match wh with | .clause _ e=>Sv.isTrue (val (rn T e env)) | _=>true
def width (T:List Tb):Nd->Nat
 | .sel _ _ ex src _=>match ex with | .none=>(src.map fun s=>((findTb s.1.1 T).getD noTb).cols.length).sum | _=>ex.len
 | .comb _ _ _ p _=>width T p
 | _=>0
structure Res where
 err:Nat
 at_:Nat
 width:Nat
 rows:List Row
 count:Nat
def without (x:Bs) (T:List Tb):List Tb:=T.filter fun t=>!(t.name == x)
def withT (t:Tb) (T:List Tb):List Tb:=without t.name T ++ [t]
def setAll (T:List Tb) (t:Tb) (env:List (List Row)):List (Nm×Nat×Nd)->Row->Row
 | [],r=>r
 | (n,_,e)::l,r=>setAll T t env l (r.set (cellOf n.1 t.cols).toNat (val (rn T e env)))
def does (T:List Tb):Stm->List Tb×Res
 | .create t cols=>(withT ⟨t.1,cols.map fun c=>(c.1.1,c.2), []⟩ T,⟨0,0,0, [],0⟩)
 | .drop t=>(without t.1 T,⟨0,0,0, [],0⟩)
 | .insertV _ t rows=>add t (rows.map fun r=>(rn T r.2 [[]]).headD [])
 | .insertQ _ t q=>add t (rn T q [[]])
 | .delete t wh=>
  let b:=(findTb t.1 T).getD noTb
  let l:=b.rows.filter fun r=>!holds T wh [[r], []]
  (withT { b with rows:=l } T,⟨0,0,0, [],b.rows.length - l.length⟩)
 | .update t sets wh=>
  let b:=(findTb t.1 T).getD noTb
  (withT { b with rows:=b.rows.map fun r=>if holds T wh [[r], []] then setAll T b [[r], []] sets r else r } T,⟨0,0,0, [],(b.rows.filter fun r=>holds T wh [[r], []]).length⟩)
 | .trans _=>(T,⟨0,0,0, [],0⟩)
 | .query q=>(T,⟨0,0,width T q,rn T q [[]],0⟩)
 where
 add (t:Nm) (new:List Row):List Tb×Res:=
  let b:=(findTb t.1 T).getD noTb
  if 100<b.rows.length+new.length then (T,⟨8,0,0, [],0⟩) else (withT { b with rows:=b.rows++new } T,⟨0,0,0, [],new.length⟩)
structure Bse where
 T:List Tb
 begun:Bool
 old:List Tb
def bad (e a:Nat):Res:=⟨e,a,0, [],0⟩
def doStm (b:Bse) (s:Stm):Bse×Res:=
 match s with
 | .trans w=>
  if b.begun == (w == [98,101,103,105,110]) then (b,bad 7 0)
  else if w == [98,101,103,105,110] then (⟨b.T,true,b.T⟩,bad 0 0)
  else if w == [114,111,108,108,98,97,99,107] then (⟨b.old,false, []⟩,bad 0 0)
  else (⟨b.T,false, []⟩,bad 0 0)
 | _=>
  let c:=check b.T s
  if c.1.out.1≠0 then (b,bad c.1.out.1 c.1.out.2)
  else let r:=does b.T c.2;({ b with T:=r.1 },r.2)
def exec (b:Bse) (src:Bs):Bse×Res:=
 if (parse src).1≠0 then (b,bad (parse src).1 (parse src).2) else doStm b (tree src)
end Go.Proofs.YtgnncnhkgmhngaaGreatDoor.Sp
namespace Go.Proofs.YtgnncnhkgmhngaaGreatDoor
open Go.RowKit Go.Sort
def Tkn (w:World) (tk:List (List Sv.Val)) (v:Value):Prop:=∃ a c,v = .slice a tk.length c/\(tk ≠ []->∃ rb ro,a=some ⟨rb,ro,none⟩/\Rws w.heap.size w rb ro tk)
theorem Rws.up {n₀ n₁:Nat} {w:World} {rb ro:Nat} {rs:List (List Sv.Val)} (h:Rws n₀ w rb ro rs) (hn:n₀<=n₁):Rws n₁ w rb ro rs:=
 ⟨Nat.lt_of_lt_of_le h.lb hn,fun i hi=>by
  obtain ⟨v,h1,h2⟩:=h.at_ i hi
  refine ⟨v,h1,?_⟩
  rcases h2 with h2 | ⟨b,off,c,e,hb,hv⟩
  ·exact .inl h2
  ·exact .inr ⟨b,off,c,e,Nat.lt_of_lt_of_le hb hn,hv⟩⟩
theorem Tkn.gr {w w' : World} {tk:List (List Sv.Val)} {v:Value} (h:Tkn w tk v) (g:Gr w w'):Tkn w' tk v:=by
 obtain ⟨a,c,e,h⟩:=h
 refine ⟨a,c,e,fun hne=>?_⟩
 obtain ⟨rb,ro,e1,hr⟩:=h hne
 exact ⟨rb,ro,e1,(hr.below g.below).up g.size⟩
theorem Tkn.sl {w:World} {tk:List (List Sv.Val)} {v:Value} (h:Tkn w tk v):∃ a c,v = .slice a tk.length c:=by obtain ⟨a,c,e,_⟩:=h;exact ⟨a,c,e⟩
def Arn (w:World) (tv:Value):List (List (List Sv.Val))->Value->Prop
 | [],v=>∃ b,v = .pointer (some ⟨b,0,none⟩)/\b<w.heap.size/\w.cell? ⟨b,0,none⟩=some tv
 | tk::env,v=>∃ b sv ov,v = .pointer (some ⟨b,0,none⟩)/\b<w.heap.size/\w.cell? ⟨b,0,none⟩=some tv/\w.cell? ⟨b,1,none⟩=some sv/\w.cell? ⟨b,2,none⟩=some ov/\Tkn w tk sv/\Arn w tv env ov
theorem Arn.gr {w w' : World} {tv:Value} (g:Gr w w'):∀ {env:List (List (List Sv.Val))} {v:Value},Arn w tv env v->Arn w' tv env v
 | [],_,⟨b,e,hb,c0⟩=>⟨b,e,Nat.lt_of_lt_of_le hb g.size,(g.cell (p:=⟨b,0,none⟩) hb).trans c0⟩
 | _::_,_,⟨b,sv,ov,e,hb,c0,c1,c2,ht,hr⟩=>⟨b,sv,ov,e,Nat.lt_of_lt_of_le hb g.size,(g.cell (p:=⟨b,0,none⟩) hb).trans c0,(g.cell (p:=⟨b,1,none⟩) hb).trans c1,(g.cell (p:=⟨b,2,none⟩) hb).trans c2,ht.gr g,hr.gr g⟩
theorem Arn.ptr {w:World} {tv:Value} : ∀ {env:List (List (List Sv.Val))} {v:Value},Arn w tv env v->∃ b,v = .pointer (some ⟨b,0,none⟩)/\b<w.heap.size/\w.cell? ⟨b,0,none⟩=some tv
 | [],_,⟨b,e,hb,c0⟩=>⟨b,e,hb,c0⟩
 | _::_,_,⟨b,_sv,_ov,e,hb,c0,_⟩=>⟨b,e,hb,c0⟩
theorem nothing_any (ta:Option Addr) (tn tc:Nat) (w:World) :
  Calls Tryz.prog 94 #[.slice ta tn tc] w fun e w'=>∃ v,e = .returned v/\Arn w' (.slice ta tn tc) [] v/\Gr w w':=by
 go_enter Tryz.func94,Tryz.ntmps94
 go_wp2_with fail
 go_ret
 exact ⟨_,rfl,⟨w.heap.size,rfl,by simp,by simp⟩,(Gr.refl w).alloc _⟩
theorem with_any {ta:Option Addr} {tn tc:Nat} {env:List (List (List Sv.Val))} {tk:List (List Sv.Val)} {v sv:Value} {w:World} (h:Arn w (.slice ta tn tc) env v) (ht:Tkn w tk sv) :
  Calls Tryz.prog 151 #[v,sv] w fun e w'=>∃ v',e = .returned v'/\Arn w' (.slice ta tn tc) (tk::env) v'/\Gr w w':=by
 obtain ⟨b,rfl,hb,c0⟩:=h.ptr
 obtain ⟨sa,sc,rfl⟩:=ht.sl
 have H:=hid h
 have HT:=hid ht
 clear h ht
 go_enter Tryz.func151,Tryz.ntmps151
 go_wp2_with fail
 go_ret
 have g:=(Gr.refl w).alloc (.cells #[.slice ta tn tc, .slice sa tk.length sc, .pointer (some ⟨b,0,none⟩)] 286)
 exact ⟨_,rfl,⟨w.heap.size,_,_,rfl,by simp,by simp,by simp,by simp,HT.out.gr g,H.out.gr g⟩,g⟩
theorem Arn.next {w:World} {tv:Value} {env:List (List (List Sv.Val))} {v:Value} {j:Nat} (h:Arn w tv (env.drop j) v) (hj:j<env.length):∃ b ov,v = .pointer (some ⟨b,0,none⟩)/\b<w.heap.size/\w.cell? ⟨b,2,none⟩=some ov/\Arn w tv (env.drop (j+1)) ov:=by
 rw [List.drop_eq_getElem_cons hj] at h
 obtain ⟨b,sv,ov,e,hb,c0,c1,c2,ht,hr⟩:=h
 exact ⟨b,ov,e,hb,c2,hr⟩
theorem Arn.here {w:World} {tv:Value} {env:List (List (List Sv.Val))} {v:Value} {j:Nat} (h:Arn w tv (env.drop j) v) (hj:j<env.length):∃ b sv,v = .pointer (some ⟨b,0,none⟩)/\b<w.heap.size/\w.cell? ⟨b,1,none⟩=some sv/\Tkn w env[j] sv:=by
 rw [List.drop_eq_getElem_cons hj] at h
 obtain ⟨b,sv,ov,e,hb,c0,c1,c2,ht,hr⟩:=h
 exact ⟨b,sv,e,hb,c1,ht⟩
theorem Tkn.row {w:World} {tk:List (List Sv.Val)} {v:Value} {i c:Nat} (h:Tkn w tk v) (hi:i<tk.length) (hc:c<tk[i].length):∃ rb ro rc b off bc,v = .slice (some ⟨rb,ro,none⟩) tk.length rc/\rb<w.heap.size/\w.cell? ⟨rb,ro+i,none⟩=some (.slice (some ⟨b,off,none⟩) tk[i].length bc)/\b<w.heap.size/\w.cell? ⟨b,off+c*3,none⟩=some (.int .i64 tk[i][c].k)/\w.cell? ⟨b,off+c*3+1,none⟩=some (.int .i64 tk[i][c].n)/\w.cell? ⟨b,off+c*3+2,none⟩=some (.string tk[i][c].s):=by
 obtain ⟨a,rc,e,h⟩:=h
 obtain ⟨rb,ro,rfl,hr⟩:=h (by intro e;rw [e] at hi;simp at hi)
 obtain ⟨rv,h1,h2⟩:=hr.at_ i hi
 rcases h2 with ⟨_,h2⟩ | ⟨b,off,bc,e2,hb,hv⟩
 ·rw [h2] at hc;simp at hc
 ·subst e2
  exact ⟨rb,ro,rc,b,off,bc,e,hr.lb,h1,hv.lb,hv.k c hc,hv.n c hc,hv.s c hc⟩
theorem acell_any {tv:Value} {env:List (List (List Sv.Val))} {v:Value} {w:World} {nb a o sr cn:Nat} {t n:Sp.Bs} (h:Arn w tv env v) (hA:At w nb [.string (bz t), .string (bz n), .int .i64 (a:Int), .int .i64 (o:Int), .int .i64 (sr:Int), .int .i64 (cn:Int)]) (ho:o<env.length) (hob:env.length<=100000) (hs:sr<env[o].length) (_hsb:env[o].length<=100000) (hc:cn<env[o][sr].length) (_hcb:env[o][sr].length<=100000) :
  Calls Tryz.prog 232 #[v, .pointer (some ⟨nb,0,none⟩)] w fun e w'=>e = .returned (enV env[o][sr][cn])/\Gr w w':=by
 apply gr_of_below
 have b3:=hA.k3
 have b4:=hA.k4
 have b5:=hA.k5
 have hnw:=hA.1
 obtain ⟨b0,rfl,hb0,_⟩:=h.ptr
 have H:=hid h
 have HS:=hid hs
 have HCc:=hid hc
 have HRow:=hid (fun sv (htk:Tkn w env[o] sv)=>htk.row hs hc)
 generalize env[o][sr][cn]=val at HRow ⊢
 generalize env[o][sr].length=ln at HRow _hcb HCc
 clear hc
 generalize hEo:env[o]=tk at *
 have HE:=hid hEo
 clear hEo
 generalize tk.length=tl at HRow _hsb HS
 clear hs
 obtain ⟨vk,vn,vs⟩:=val
 have hsl:=HS.out
 have hcl:=HCc.out
 have G:=hid ((Gr.refl w).alloc (.cells #[.int .i64 0, .int .i64 0, .string ⟨#[]⟩] 40))
 have d3:=(G.out.cell (p:=⟨nb,3,none⟩) hnw).trans b3
 have hnw' : nb<(w.alloc (.cells #[.int .i64 0, .int .i64 0, .string ⟨#[]⟩] 40)).heap.size:=Nat.lt_of_lt_of_le hnw G.out.size
 clear h hA
 go_enter Tryz.func232,Tryz.ntmps232
 go_wp2_with fail
 go_loopw [9,0] (fun i av wr=>∃ j:Nat,j<=o/\i = .int .i64 (j:Nat)/\Hid (Arn w tv (env.drop j) av)/\wr=w.alloc (.cells #[.int .i64 0, .int .i64 0, .string ⟨#[]⟩] 40)) (fun i _ _=>o - (intOf i).toNat)
 case atStart=>exact ⟨0,Nat.zero_le _,rfl,hid (by simpa using H.out),rfl⟩
 case round=>
  obtain ⟨j,hj,rfl,HAr,rfl⟩:=hrel
  by_cases hlt:j<o
  ·obtain ⟨b,ov,rfl,hb,c2,hn⟩:=HAr.out.next (by omega)
   have HN:=hid hn
   have e2:=(G.out.cell (p:=⟨b,2,none⟩) hb).trans c2
   have hb' : b<(w.alloc (.cells #[.int .i64 0, .int .i64 0, .string ⟨#[]⟩] 40)).heap.size:=Nat.lt_of_lt_of_le hb G.out.size
   obtain ⟨ob,rfl,_⟩:=hn.ptr
   clear hn
   go_wp2_with fail
   go_roundw
   case rel=>exact ⟨j+1,by omega,by go_num,HN,trivial⟩
   case measure=>simp [intOf];omega
  ·have hjo:j=o:=by omega
   subst hjo
   obtain ⟨b,sv,rfl,hb,c1,htk⟩:=HAr.out.here ho
   rw [HE.out] at htk
   obtain ⟨rb,ro,rc,b',off,bc,rfl,hrb,r0,hb',k0,k1,k2⟩:=HRow.out _ htk
   clear htk
   have e1:=(G.out.cell (p:=⟨b,1,none⟩) hb).trans c1
   have e4:=(G.out.cell (p:=⟨nb,4,none⟩) hnw).trans b4
   have e5:=(G.out.cell (p:=⟨nb,5,none⟩) hnw).trans b5
   have f0:=(G.out.cell (p:=⟨rb,ro+sr,none⟩) hrb).trans r0
   have g0:=(G.out.cell (p:=⟨b',off+cn*3,none⟩) hb').trans k0
   have g1:=(G.out.cell (p:=⟨b',off+cn*3+1,none⟩) hb').trans k1
   have g2:=(G.out.cell (p:=⟨b',off+cn*3+2,none⟩) hb').trans k2
   go_wp2_with fail
   go_region
   go_wp2_with fail
   exact bodyPost_ret (v := .agg #[.int .i64 vk, .int .i64 vn, .string vs]) (by simp [results,Tryz.results232,go_sem]) rfl ⟨rfl,((Gr.refl w).alloc _).drew.below⟩
theorem grown_of_gr {W W' : World} (g:Gr W W'):W.grownBy W' none:=⟨g.below.os,g.below.tape,g.below.output,g.size,fun k hk _=>g.below.block k hk⟩
theorem rexprs1_in (l n Bs Ba g off cap n₀:Nat) (ia:Option Addr) (vals:List Sv.Val) (w0:World) (hn:1<=n) (hm:vals.length<=100000)
  (hcs:w0.cell? ⟨Bs,0,none⟩=some (.slice (some ⟨g,off,none⟩) vals.length cap)) (hca:w0.cell? ⟨Ba,0,none⟩=some (.pointer ia)) (hBs:Bs<n₀) (hBa:Ba<n₀) (hg:g<n₀)
  (hE:∀ i,(hi:i<vals.length)->∃ t p,w0.cell? ⟨g,off+i,none⟩=some (.iface t p)/\∀ W,RowKit.Below n₀ w0 W->Calls Tryz.prog 194 #[.iface t p, .pointer ia] W fun e W'=>e = .returned (enV vals[i])/\Gr W W')
  (J Jx:List (Fin vals.length)->World->Prop) (B:Nat) (hJ:AbidesFrom B J)
  (hY:∀ pre x W,J pre W->pre.length<vals.length->YieldAt Fence.wide (n - 1) Tryz.prog l #[.int .i64 (x.1:Int),enV vals[x]] W fun e W'=>(e = .returned (.bool true)/\J (pre ++ [x]) W'/\RowKit.Below n₀ W W')\/(e = .returned (.bool false)/\Jx (pre ++ [x]) W'))
  (W1:World) (hs:n₀<=W1.heap.size) (hb1:RowKit.Below n₀ w0 W1) (h0:J [] W1) :
  CallsIn Fence.wide n Tryz.prog 229 #[.func (.yield l) #[] #[], .pointer (some ⟨Bs,0,none⟩), .pointer (some ⟨Ba,0,none⟩)] W1 fun e W'=>(∃ v,e = .returned v)/\((∃ ys,ys=List.finRange vals.length/\J ys W')\/(∃ pre,(∃ k,k<=vals.length/\pre=upto vals.length k)/\Jx pre W')):=by
 have c0:=(hb1.cell (p:=⟨Bs,0,none⟩) hBs).trans hcs
 have HE:=hid hE
 have H0:=hid h0
 have HB1:=hid hb1
 have HYd:=hid hY
 have HJd:=hid hJ
 obtain ⟨L,hL⟩:∃ L,L=vals.length:=⟨_,rfl⟩
 have HL:=hid hL
 have HM:=hid hm
 rw [<- hL] at c0
 have hm' : L<=100000:=by omega
 have HSz:=hid hs
 clear hE h0 hb1 hY hJ hcs hm hL hs
 refine callsIn_of_wp Tryz.func229 rfl trivial ?_ rfl
 simp only [Tryz.ntmps229,List.size_toArray,List.length_cons,List.length_nil,Nat.reduceAdd,Nat.reduceSub,Array.replicate_succ,Array.replicate_zero,List.push_toArray,List.append_toArray,List.nil_append,List.cons_append]
 gi_wp2
 gi_loopw [8] (fun i wr=>∃ k:Nat,k<=L/\i = .int .i64 (k:Nat)/\Hid (J (upto vals.length k) wr)/\Hid (RowKit.Below n₀ w0 wr)/\Hid (n₀<=wr.heap.size)) (fun i _=>L - (intOf i).toNat)
 case atStart=>exact ⟨0,Nat.zero_le _,rfl,H0,HB1,HSz⟩
 case round=>
  obtain ⟨k,hk,rfl,HJk,HBk,HZk⟩:=hrel
  by_cases hlt:k<L
  ·have hkv:k<vals.length:=by have:=HL.out;omega
   obtain ⟨t,p,hc,hC⟩:=HE.out k hkv
   have HC:=hid (hC wr HBk.out)
   have d0:=(HBk.out.cell (p:=⟨g,off+k,none⟩) hg).trans hc
   have d1:=(HBk.out.cell (p:=⟨Ba,0,none⟩) hBa).trans hca
   clear hC hc
   gi_wp2
   refine ⟨trivial,?_⟩
   refine (callsIn_wide.2 HC.out).mono ?_
   rintro e W2 ⟨rfl,g2⟩
   have HJ2:=hid (HJd.out _ _ _ none HJk.out (grown_of_gr g2) (fun r e=>by cases e))
   have HB2:Hid (RowKit.Below n₀ w0 W2):=HBk.out.trans (g2.below.mono HZk.out)
   have HZ2:Hid (n₀<=W2.heap.size):=Nat.le_trans HZk.out g2.size
   clear g2
   obtain ⟨fn,tmps,assign,body,hy,hR⟩:=HYd.out _ ⟨k,hkv⟩ _ HJ2.out (by rw [upto_length _ _ (Nat.le_of_lt hkv)];exact hkv)
   simp only [Fin.getElem_fin] at hy
   gi_wp2
   refine hR.mono ?_
   rintro e W3 (⟨rfl,hJ3,hb3⟩ | ⟨rfl,hJx⟩)
   ·have HJ4:Hid (J (upto vals.length (k+1)) W3):=by show J _ _;rw [upto_succ _ _ hkv];exact hJ3
    have HB4:=hid (HB2.out.trans hb3)
    have HZ4:Hid (n₀<=W3.heap.size):=Nat.le_trans HZ2.out hb3.size
    clear hJ3 hb3
    gi_wp2
    go_roundw
    case rel=>exact ⟨k+1,by omega,by go_num,HJ4,HB4,HZ4⟩
    case measure=>simp [intOf];omega
   ·gi_wp2
    refine bodyPost_ret (results_none rfl _ _ _) rfl ?_
    exact ⟨⟨_,rfl⟩, .inr ⟨_,⟨k+1,by omega,by rw [upto_succ _ _ hkv]⟩,hJx⟩⟩
  ·have hkL:k=vals.length:=by have:=HL.out;omega
   subst hkL
   gi_wp2
   go_end0
   exact ⟨⟨_,rfl⟩, .inl ⟨_,rfl,by have:=HJk.out;rw [upto_all] at this;exact this⟩⟩
theorem exprs_stops (n Bs Ba g off cap n₀:Nat) (ia:Option Addr) (vals:List Sv.Val) (w:World) (hn:1<=n) (hm:vals.length<=100000) (hn₀:n₀<=w.heap.size)
  (hcs:w.cell? ⟨Bs,0,none⟩=some (.slice (some ⟨g,off,none⟩) vals.length cap)) (hca:w.cell? ⟨Ba,0,none⟩=some (.pointer ia)) (hBs:Bs<n₀) (hBa:Ba<n₀) (hg:g<n₀)
  (hE:∀ i,(hi:i<vals.length)->∃ t p,w.cell? ⟨g,off+i,none⟩=some (.iface t p)/\∀ W,RowKit.Below n₀ w W->Calls Tryz.prog 194 #[.iface t p, .pointer ia] W fun e W'=>e = .returned (enV vals[i])/\Gr W W') :
  SeqStopsK Fence.wide n Tryz.prog 229 #[.pointer (some ⟨Bs,0,none⟩), .pointer (some ⟨Ba,0,none⟩)] (fun x:Fin vals.length=>#[Value.int .i64 (x.1:Int),enV vals[x]]) (RowKit.Below n₀) (fun ys=>ys=List.finRange vals.length)
   (fun pre=>∃ k,k<=vals.length/\pre=upto vals.length k) vals.length w:=
 fun l J Jx W hW hJ _ hY h0=>
  rexprs1_in l n Bs Ba g off cap n₀ ia vals w hn hm hcs hca hBs hBa hg hE J Jx _ hJ hY W (Nat.le_trans hn₀ hW.size) (hW.mono hn₀) h0
attribute [local go_sem] Oper.semAt_some
def enVs (vs:List Sv.Val):List Value:=vs.flatMap fun v => [.int .i64 v.k, .int .i64 v.n, .string v.s]
theorem enVs_snoc (vs:List Sv.Val) (v:Sv.Val):enVs (vs ++ [v])=enVs vs ++ [.int .i64 v.k, .int .i64 v.n, .string v.s]:=by simp [enVs]
def OwR (base:Nat) (w:World) (v:Value) (vs:List Sv.Val):Prop:=w.ownsRow base 40 3 v vs.length (enVs vs)
theorem OwR.nil (base:Nat) (w:World):OwR base w (.slice none 0 0) []:=World.ownsRow_nil _ _ _ _
theorem OwR.sl {base:Nat} {w:World} {v:Value} {vs:List Sv.Val} (h:OwR base w v vs):∃ a c,v = .slice a vs.length c:=by
 obtain ⟨hl,h | ⟨g',cap,cur,hv,_⟩⟩:=h
 ·exact ⟨none,0,by rw [h.1,h.2]⟩
 ·exact ⟨_,_,hv⟩
theorem OwR.kept {base:Nat} {w w' : World} {v:Value} {vs:List Sv.Val} {row:Option Nat} (h:OwR base w v vs) (hg:w.grownBy w' row) (hr:∀ r,row=some r->∃ o:Obj,w.heap[r]?=some o/\o.isCells=false):OwR base w' v vs:=by
 have hblk:=ownsV_block h
 obtain ⟨hl,h | ⟨g',cap,cur,hv,h0,hc,r⟩⟩:=h
 ·exact ⟨hl, .inl h⟩
 ·subst hv
  refine ⟨hl, .inr ⟨g',cap,cur,rfl,h0,(hg.block g' (hblk g' rfl).2 (fun e=>?_)).trans hc,r⟩⟩
  obtain ⟨o,h1,h2⟩:=hr g' e.symm
  rw [hc] at h1
  cases h1
  cases h2
theorem infoVal:(Tryz.prog.info? 40).map (fun i=>(i.zero,i.size,i.bytes))=some (some (.agg #[.int .i64 0, .int .i64 0, .string ⟨#[]⟩]),3,32):=by kernel_rfl
theorem newV3 (w:World) (x y z:Value) (t:TypeId):∀ j u, [x,y,z][j]?=some u->(w.alloc (.cells #[x,y,z] t)).cell? (Addr.add ⟨w.heap.size,0,none⟩ j)=some u:=by
 intro j u hj
 rw [Addr.add_lit,Nat.zero_add,World.cell?_alloc_new,<- hj]
 match j with
 | 0=>rfl
 | 1=>rfl
 | 2=>rfl
 | j+3=>rfl
theorem three_one (a b:Int) (c:ByteArray):∀ u∈([.int .i64 a, .int .i64 b, .string c]:List Value),u.oneCell'=true:=fun u hu=>by simp at hu;rcases hu with rfl | rfl | rfl <;> rfl
def RowI (w:World) (vals:List Sv.Val) (pre:List (Fin vals.length)) (W:World):Prop:=
 ∃ v,Boxed W w.heap.size 41 v/\OwR (w.heap.size+1) W v (pre.map fun x=>vals[x])/\w.heap.size+1<=W.heap.size/\RowKit.Below w.heap.size w W
theorem RowI.own (w:World) (vals:List Sv.Val):OwnFrom (w.heap.size+1) (RowI w vals):=by
 rintro s W W' row ⟨v,b,o,z,bl⟩ hg hr
 have hr2:=fun r e=>(hr r e).2
 refine ⟨v,b.kept hg (fun e=>?_),o.kept hg hr2,Nat.le_trans z hg.size,?_⟩
 ·have:=(hr _ e.symm).1;omega
 ·exact bl.trans ⟨hg.os,hg.tape,hg.output,hg.size,fun k hk=>hg.block k (by omega) (fun e=>by have:=(hr _ e.symm).1;omega)⟩
theorem row_next {w W w3:World} {vals:List Sv.Val} {pre:List (Fin vals.length)} {x:Fin vals.length} {va:Option Addr} {L vc:Nat} {ak an:Int} {aS:ByteArray} {v' : Value} (z:w.heap.size+1<=W.heap.size) (b:Boxed W w.heap.size 41 (.slice va L vc)) (bl:RowKit.Below w.heap.size w W)
  (HO:W.ownsRow (w.heap.size+1) 40 3 (.slice va L vc) L (enVs (pre.map fun x=>vals[x]))) (hown:w3.ownsRow (w.heap.size+1) 40 3 v' (L+1) (enVs (pre.map fun x=>vals[x]) ++ [.int .i64 ak, .int .i64 an, .string aS])) (hgrow:(W.alloc (.cells #[.int .i64 ak, .int .i64 an, .string aS] 40)).grownBy w3 (Value.slice va L vc).ownBlock)
  (HXL:enVs ((pre ++ [x]).map fun x=>vals[x])=enVs (pre.map fun x=>vals[x]) ++ [.int .i64 ak, .int .i64 an, .string aS]) (HXN:((pre ++ [x]).map fun x=>vals[x]).length=L+1) :
  Boxed w3 w.heap.size 41 (.slice va L vc)/\(∃ a c,v' = .slice a (L+1) c)/\KeepsFrom (w.heap.size+1) W (w3.setCell ⟨w.heap.size,0,none⟩ v')/\RowKit.Below w.heap.size W (w3.setCell ⟨w.heap.size,0,none⟩ v')/\RowI w vals (pre ++ [x]) (w3.setCell ⟨w.heap.size,0,none⟩ v'):=by
 have hblk:=ownsV_block HO
 have hz:W.heap.size<=w3.heap.size:=Nat.le_trans (by simp) hgrow.size
 have hbl:∀ u,u<W.heap.size->some u≠(Value.slice va L vc).ownBlock->w3.heap[u]?=W.heap[u]?:=fun u hu hne=>(hgrow.block u (by simp;omega) hne).trans (Below.heap_alloc W _ u hu)
 have hst:∀ u,u≠w.heap.size->(w3.setCell ⟨w.heap.size,0,none⟩ v').heap[u]?=w3.heap[u]?:=fun u hu=>Below.heap_setCell _ _ _ _ hu
 have hs8:(w3.setCell ⟨w.heap.size,0,none⟩ v').heap.size=w3.heap.size:=by simp [World.setCell]
 have b3:Boxed w3 w.heap.size 41 (.slice va L vc):=(b.alloc _).kept hgrow (fun e=>by have:=(hblk _ e.symm).1;omega)
 have hB:RowKit.Below w.heap.size W (w3.setCell ⟨w.heap.size,0,none⟩ v'):=⟨hgrow.os,hgrow.tape,hgrow.output,by omega,fun u hu=>(hst u (by omega)).trans (hbl u (by omega) (fun e=>by have:=(hblk _ e.symm).1;omega))⟩
 have hsl:∃ a c,v' = .slice a (L+1) c:=by
  obtain ⟨_,h | ⟨g',cap,cur,hv,_⟩⟩:=hown
  ·exact absurd h.2 (by omega)
  ·exact ⟨_,_,hv⟩
 refine ⟨b3,hsl,⟨by omega,fun u o hu h0 hc=>?_⟩,hB,v',b3.set _,?_,by omega,bl.trans hB⟩
 ·have hu2:u<W.heap.size:=(Array.getElem?_eq_some_iff.1 h0).1
  refine (hst u (by omega)).trans ((hbl u hu2 (fun e=>?_)).trans h0)
  rcases HO.2 with ⟨h,_⟩ | ⟨g',cap,cur,hv,_,hg,_⟩
  ·rw [h] at e;cases e
  ·rw [hv] at e;simp [Value.ownBlock] at e;subst e;rw [hg] at h0;cases h0;cases hc
 ·unfold OwR
  rw [HXL,HXN]
  have hk:=ownsV_block hown
  obtain ⟨hl,h | ⟨g',cap,cur,hv,h0,hc,r⟩⟩:=hown
  ·exact ⟨hl, .inl h⟩
  ·refine ⟨hl, .inr ⟨g',cap,cur,hv,h0,(hst g' (by omega)).trans hc,r⟩⟩
theorem row_in (n:Nat) (hn:6<=n) (gf:Nat) (lb:Array Value) (vals:List Sv.Val) (hm:vals.length<=100000) (w:World) (eg:∀ args w,(callFunc gf args).run Tryz.prog w = .ok (.enter gf args) w)
  (hseq:SeqStopsK Fence.wide (n - 1) Tryz.prog gf lb (fun x:Fin vals.length=>#[Value.int .i64 (x.1:Int),enV vals[x]]) (RowKit.Below w.heap.size) (fun ys=>ys=List.finRange vals.length) (fun pre=>∃ k,k<=vals.length/\pre=upto vals.length k) vals.length w) :
  CallsIn Fence.wide n Tryz.prog 188 #[.func (.func gf) #[] lb] w fun e W'=>∃ v,e = .returned v/\OwR w.heap.size W' v vals/\RowKit.Below w.heap.size w W':=by
 have h1:1<=n:=by omega
 have hro:Fence.wide.round=none:=rfl
 have hfn:∀ k,Fence.wide.fn k:=fun _=>trivial
 obtain ⟨i0,ji,jz0,jz1,jz2⟩:=info_parts infoVal
 refine callsIn_of_wp_marks Tryz.func188 rfl (hfn _) ?_ hro
 simp only [Tryz.ntmps188,List.size_toArray,List.length_cons,List.length_nil,Nat.reduceAdd,Nat.reduceSub,Array.replicate_succ,Array.replicate_zero,List.push_toArray,List.append_toArray,List.nil_append,List.cons_append]
 gi_wp2
 have bM:=Boxed.new w 41 (.slice none 0 0)
 have hB0:RowKit.Below w.heap.size w (w.alloc (.cells #[.slice none 0 0] 41)):=(Below.refl _ w).alloc (Nat.le_refl _) _
 have hsz:(w.alloc (.cells #[.slice none 0 0] 41)).heap.size=w.heap.size+1:=by simp
 obtain ⟨W0,hW0⟩:∃ W0,w.alloc (.cells #[.slice none 0 0] 41)=W0:=⟨_,rfl⟩
 rw [hW0] at bM hB0 hsz ⊢
 clear hW0
 refine wpIn_rangeFunc_ownH hro h1 (gf:=gf) (lb:=lb) rfl (hfn _) eg hseq belowK_t (belowK_b (by omega)) hB0 (fun _=>rfl)
  (RowI w vals) (fun _ _ _=>False) (by rw [hsz];exact RowI.own w vals) (fun c _ _ _ _ h=>h.elim)
  ⟨_,bM,OwR.nil _ _,by omega,hB0⟩
  (fun x a' W=>∃ Bx,w.heap.size<Bx/\B3 W Bx (.int .i64 vals[x].k) (.int .i64 vals[x].n) (.string vals[x].s)/\a'={ tmps:=#[.func (.func gf) #[] lb,undef, .slice none 0 0, .pointer (some ⟨w.heap.size,0,none⟩),undef, .pointer (some ⟨Bx,0,none⟩), .func (.func gf) #[] lb, .int .i64 (x.1:Int),enV vals[x],undef,undef,undef,undef,undef],defers := [] })
  (fun x a' _ X Y row hs hg hr=>by obtain ⟨Bx,h1,h2,h3⟩:=hs;exact ⟨Bx,h1,h2.kept hg (fun r e=>(hr r e).2),h3⟩)
  ?assign ?body ?done ?stop
 case assign=>
  rintro l pre x W K ⟨v,b,o,z,bl⟩ hK
  gi_wp2
  exact hK _ _ ((KeepsOthers.alloc _ _).from _) ((Below.refl _ W).alloc (by omega) _) ⟨v,b.alloc _,o.kept (World.grownBy_alloc _ _ none) (fun r e=>by cases e),by simp;omega,bl.alloc (by omega) _⟩ ⟨W.heap.size,by omega,B3.new W _ _ _ _,rfl⟩
 case body=>
  rintro l pre x a' W hl ⟨r,hr⟩ ⟨v,b,o,z,bl⟩ ⟨Bx,hBx,bX,rfl⟩ hlt
  obtain ⟨L,hL⟩:∃ L,L=(pre.map fun x=>vals[x]).length:=⟨_,rfl⟩
  have hLb:L<100000:=by rw [hL,List.length_map];omega
  have HO:Hid (W.ownsRow (w.heap.size+1) 40 3 v L (enVs (pre.map fun x=>vals[x]))):=by show World.ownsRow _ _ _ _ _ _ _;rw [hL];exact o
  have HLp:=hid hL
  obtain ⟨va,vc,hv⟩:=o.sl
  rw [<- hL] at hv
  subst hv
  obtain ⟨lt0,x0,x1,x2,y0,y1,y2⟩:=bX
  have cM:=b.cell
  have fM:=b.frozen
  have HBx:=hid b
  have HBl:=hid bl
  have hmx:=mixed
  have h1' : 1<=n - 1 - 1:=by omega
  clear hL o
  have HXL:Hid (enVs ((pre ++ [x]).map fun x=>vals[x])=enVs (pre.map fun x=>vals[x]) ++ [.int .i64 vals[x].k, .int .i64 vals[x].n, .string vals[x].s]):=by show _=_;rw [List.map_append];exact enVs_snoc _ _
  have HXN:Hid (((pre ++ [x]).map fun x=>vals[x]).length=L+1):=by show _=_;rw [List.map_append,List.length_append,<- HLp.out];rfl
  generalize vals[x].k=ak at *
  generalize vals[x].n=an at *
  generalize vals[x].s=aS at *
  have GA:=hid ((Gr.refl W).alloc (.cells #[.int .i64 ak, .int .i64 an, .string aS] 40))
  have HOa:Hid ((W.alloc (.cells #[.int .i64 ak, .int .i64 an, .string aS] 40)).ownsRow (w.heap.size+1) 40 3 (.slice va L vc) L (enVs (pre.map fun x=>vals[x]))):=ownsV_below HO.out GA.out.below
  have H3m:Hid (L+1<=maxLen):=by show _<=_;unfold maxLen;omega
  have H4m:Hid ((L+1)*32<=140737488355328):=by show _<=_;omega
  have H5m:Hid (w.heap.size+1<=(W.alloc (.cells #[.int .i64 ak, .int .i64 an, .string aS] 40)).heap.size):=by show _<=_;simp;omega
  gi_wp2_with (gi_at_builtin;go_must (refine wpListIn_append_own _ rfl (.tmp 9) (.tmp 11) 41 rfl (w.heap.size+1) 40 i0 (.agg #[.int .i64 0, .int .i64 0, .string ⟨#[]⟩]) 3 32 Tryz.underlying41 ji jz0 jz1 jz2 rfl (by decide) _ L _ rfl HOa.out ⟨W.heap.size,0,none⟩ 1 1 [.int .i64 ak, .int .i64 an, .string aS] rfl rfl (newV3 _ _ _ _ _) (three_one _ _ _) H3m.out H4m.out H5m.out ?_))
  intro v' w3 hown hgrow _
  obtain ⟨b3,⟨va',vc',rfl⟩,k1,k2,k3⟩:=row_next (x:=x) z HBx.out HBl.out HO.out hown hgrow HXL.out HXN.out
  have HK1:=hid k1
  have HK2:=hid k2
  have HK3:=hid k3
  have c3:=b3.cell
  have f3:=b3.frozen
  clear hown hgrow k1 k2 k3 cM fM
  gi_wp2
  exact ⟨by rw [hsz];exact HK1.out,HK2.out,HK3.out⟩
 case done=>
  rintro D ys W hD rfl ⟨v,b,o,z,bl⟩ hK
  have e1:(List.finRange vals.length).map (fun x=>vals[x])=vals:=List.ext_getElem (by simp) (fun i h1 h2=>by simp)
  rw [e1] at o
  obtain ⟨va,vc,rfl⟩:=o.sl
  have cM:=b.cell
  have HO:=hid o
  clear e1
  clear o
  gi_wp2
  refine ⟨by simp, .inl ⟨_,_,rfl,run_takeDeferred hK,?_⟩⟩
  have hr:∀ r,some D=some r->∃ o:Obj,W.heap[r]?=some o/\o.isCells=false:=fun r e=>by cases e;exact ⟨_,hK,rfl⟩
  have ho:=HO.out.kept (grownBy_putObj' W D (.deferred none)) hr
  refine ⟨.slice va vals.length vc,?_,⟨_,rfl,?_,bl.trans (belowK_b (w:=w) (Nat.le_refl _) W D _ _ (by omega) hK rfl rfl)⟩⟩
  ·simp [results,Tryz.f188,go_sem]
  ·obtain ⟨hl,h | ⟨g',cap,cur,hv,h0,hc,r⟩⟩:=ho
   ·exact ⟨hl, .inl h⟩
   ·exact ⟨hl, .inr ⟨g',cap,cur,hv,by omega,hc,r⟩⟩
 case stop=>exact fun D c pre W _ _ h _=>h.elim
end Go.Proofs.YtgnncnhkgmhngaaGreatDoor
namespace Go.Proofs.YtgnncnhkgmhngaaGreatDoor
open Go.RowKit Go.Sort
theorem rexprs_any (sa:Option Addr) (sn sc:Nat) (ia:Option Addr) (w:World) :
  Calls Tryz.prog 189 #[.slice sa sn sc, .pointer ia] w fun e w'=>e = .returned (.func (.func 229) #[] #[.pointer (some ⟨w.heap.size,0,none⟩), .pointer (some ⟨w.heap.size+1,0,none⟩)])/\w'=(w.alloc (.cells #[.slice sa sn sc] 237)).alloc (.cells #[.pointer ia] 195):=by
 go_enter Tryz.func189,Tryz.ntmps189
 go_wp2
 go_ret
 simp
def boxes (w:World) (sv iv:Value):World:=(w.alloc (.cells #[sv] 237)).alloc (.cells #[iv] 195)
theorem boxes_size (w:World) (sv iv:Value):(boxes w sv iv).heap.size=w.heap.size+2:=by simp [boxes]
theorem boxes_gr (w:World) (sv iv:Value):Gr w (boxes w sv iv):=((Gr.refl w).alloc _).alloc _
theorem row_exprs {g off cap:Nat} {ia:Option Addr} {vals:List Sv.Val} {w:World} (hm:vals.length<=100000) (hg:g<w.heap.size)
  (hE:∀ i,(hi:i<vals.length)->∃ t p,w.cell? ⟨g,off+i,none⟩=some (.iface t p)/\∀ W,RowKit.Below w.heap.size w W->Calls Tryz.prog 194 #[.iface t p, .pointer ia] W fun e W'=>e = .returned (enV vals[i])/\Gr W W') :
  Calls Tryz.prog 188 #[.func (.func 229) #[] #[.pointer (some ⟨w.heap.size,0,none⟩), .pointer (some ⟨w.heap.size+1,0,none⟩)]] (boxes w (.slice (some ⟨g,off,none⟩) vals.length cap) (.pointer ia)) fun e W'=>∃ v,e = .returned v/\OwR w.heap.size W' v vals/\RowKit.Below w.heap.size w W':=by
 obtain ⟨W,hW⟩:∃ W,W=boxes w (.slice (some ⟨g,off,none⟩) vals.length cap) (.pointer ia):=⟨_,rfl⟩
 have hz:W.heap.size=w.heap.size+2:=by rw [hW];exact boxes_size _ _ _
 have hgr:Gr w W:=by rw [hW];exact boxes_gr _ _ _
 have c0:W.cell? ⟨w.heap.size,0,none⟩=some (.slice (some ⟨g,off,none⟩) vals.length cap):=by rw [hW];exact (((Gr.refl _).alloc _).cell (p:=⟨w.heap.size,0,none⟩) (by simp)).trans (by simp)
 have c1:W.cell? ⟨w.heap.size+1,0,none⟩=some (.pointer ia):=by
  rw [hW]
  have h:=World.cell?_alloc_new (w.alloc (.cells #[.slice (some ⟨g,off,none⟩) vals.length cap] 237)) #[.pointer ia] 195 0
  rw [World.size_alloc] at h
  exact h
 rw [<- hW]
 have hst:=exprs_stops (6 - 1) w.heap.size (w.heap.size+1) g off cap W.heap.size ia vals W (by omega) hm (Nat.le_refl _) c0 c1 (by omega) (by omega) (by omega) (fun i hi=>by
  obtain ⟨t,p,h1,h2⟩:=hE i hi
  exact ⟨t,p,(hgr.cell (p:=⟨g,off+i,none⟩) hg).trans h1,fun W' hb=>h2 W' (hgr.below.trans (hb.mono hgr.size))⟩)
 refine (callsIn_wide.1 (row_in 6 (Nat.le_refl _) 229 _ vals hm W (enters_of Tryz.func229 (by kernel_rfl) rfl) hst)).mono ?_
 rintro e W' ⟨v,rfl,o,b⟩
 refine ⟨v,rfl,?_,hgr.below.trans (b.mono hgr.size)⟩
 obtain ⟨hl,h | ⟨g',cap,cur,hv,h0,hc,r⟩⟩:=o
 ·exact ⟨hl, .inl h⟩
 ·exact ⟨hl, .inr ⟨g',cap,cur,hv,by omega,hc,r⟩⟩
theorem rexpr_const {b:Nat} {ia:Option Addr} {c:Sv.Val} {w:World} (hA:At w b [.int .i64 c.k, .int .i64 c.n, .string c.s]) :
  Calls Tryz.prog 194 #[.iface 358 (.pointer (some ⟨b,0,none⟩)), .pointer ia] w fun e w'=>e = .returned (enV c)/\Gr w w':=by
 have b0:=hA.k0
 have b1:=hA.k1
 have b2:=hA.k2
 have hbw:=hA.1
 obtain ⟨ck,cn,cs⟩:=c
 have t0:=te_00
 have G:=(Gr.refl w).alloc (.cells #[.int .i64 0, .int .i64 0, .string ⟨#[]⟩] 40)
 have d0:=(G.cell (p:=⟨b,0,none⟩) hbw).trans b0
 have d1:=(G.cell (p:=⟨b,1,none⟩) hbw).trans b1
 have d2:=(G.cell (p:=⟨b,2,none⟩) hbw).trans b2
 clear hA G
 go_enter Tryz.func194,Tryz.ntmps194
 go_wp2_with fail
 exact bodyPost_ret (v := .agg #[.int .i64 ck, .int .i64 cn, .string cs]) (by simp [results,Tryz.results194,go_sem]) rfl ⟨rfl,(Gr.refl w).alloc _⟩
theorem rexpr_column {b:Nat} {ia:Option Addr} {c:Sv.Val} {w:World} (hC:∀ W,Gr w W->Calls Tryz.prog 232 #[.pointer ia, .pointer (some ⟨b,0,none⟩)] W fun e W'=>e = .returned (enV c)/\Gr W W') :
  Calls Tryz.prog 194 #[.iface 361 (.pointer (some ⟨b,0,none⟩)), .pointer ia] w fun e w'=>e = .returned (enV c)/\Gr w w':=by
 apply gr_of_below
 have GA:=hid ((Gr.refl w).alloc (.cells #[.int .i64 0, .int .i64 0, .string ⟨#[]⟩] 40))
 have HC:=hid (hC _ GA.out)
 obtain ⟨ck,cn,cs⟩:=c
 have t0:=te_10
 have t1:=te_11
 clear hC
 go_enter Tryz.func194,Tryz.ntmps194
 go_wp2_with fail
 refine HC.out.mono ?_
 rintro e w1 ⟨rfl,g1⟩
 have HB:=hid ((B3.new w (.int .i64 0) (.int .i64 0) (.string ⟨#[]⟩) 40).gr g1)
 have HG:=hid (GA.out.trans g1)
 obtain ⟨lt,c0,c1,c2,f0,f1,f2⟩:=HB.out
 show _
 rw [show enV ⟨ck,cn,cs⟩ = .agg #[.int .i64 ck, .int .i64 cn, .string cs] from rfl]
 clear g1
 go_wp2_with fail
 exact bodyPost_ret (v := .agg #[.int .i64 ck, .int .i64 cn, .string cs]) (by simp [results,Tryz.results194,go_sem,c0,c1,c2]) rfl ⟨rfl,((HG.out.below.setCell (Nat.le_refl _) _).setCell (Nat.le_refl _) _).setCell (Nat.le_refl _) _⟩
theorem rexpr_case {b:Nat} {ia:Option Addr} {c:Sv.Val} {w:World} (hC:∀ W,Gr w W->Calls Tryz.prog 234 #[.pointer (some ⟨b,0,none⟩), .pointer ia] W fun e W'=>e = .returned (enV c)/\Gr W W') :
  Calls Tryz.prog 194 #[.iface 365 (.pointer (some ⟨b,0,none⟩)), .pointer ia] w fun e w'=>e = .returned (enV c)/\Gr w w':=by
 apply gr_of_below
 have GA:=hid ((Gr.refl w).alloc (.cells #[.int .i64 0, .int .i64 0, .string ⟨#[]⟩] 40))
 have HC:=hid (hC _ GA.out)
 obtain ⟨ck,cn,cs⟩:=c
 have t0:=te_30
 have t1:=te_31
 have t2:=te_32
 have t3:=te_33
 clear hC
 go_enter Tryz.func194,Tryz.ntmps194
 go_wp2_with fail
 refine HC.out.mono ?_
 rintro e w1 ⟨rfl,g1⟩
 have HB:=hid ((B3.new w (.int .i64 0) (.int .i64 0) (.string ⟨#[]⟩) 40).gr g1)
 have HG:=hid (GA.out.trans g1)
 obtain ⟨lt,c0,c1,c2,f0,f1,f2⟩:=HB.out
 show _
 rw [show enV ⟨ck,cn,cs⟩ = .agg #[.int .i64 ck, .int .i64 cn, .string cs] from rfl]
 clear g1
 go_wp2_with fail
 exact bodyPost_ret (v := .agg #[.int .i64 ck, .int .i64 cn, .string cs]) (by simp [results,Tryz.results194,go_sem,c0,c1,c2]) rfl ⟨rfl,((HG.out.below.setCell (Nat.le_refl _) _).setCell (Nat.le_refl _) _).setCell (Nat.le_refl _) _⟩
end Go.Proofs.YtgnncnhkgmhngaaGreatDoor
