import Derived.Test.YtgnncnhkgmhngaaGreatDoorJ19
set_option maxHeartbeats 4000000
set_option maxRecDepth 100000
namespace Go.Proofs.YtgnncnhkgmhngaaGreatDoor
open Sp
open Go.RowKit Go.Sort
theorem MK (v:Option Addr) (w:World):Sem.run Tryz.prog (Instr.typeAssert (.iface 278 (.pointer v)) 179 278 true) w = .ok (.tuple #[.pointer v, .bool true]) w:=by kernel_rfl
theorem ML (v:Option Addr) (w:World):Sem.run Tryz.prog (Instr.typeAssert (.iface 280 (.pointer v)) 179 278 true) w = .ok (.tuple #[.pointer none, .bool false]) w:=by kernel_rfl
theorem MM (v:Option Addr) (w:World):Sem.run Tryz.prog (Instr.typeAssert (.iface 280 (.pointer v)) 179 280 true) w = .ok (.tuple #[.pointer v, .bool true]) w:=by kernel_rfl
theorem Gt {cb b:Nat} {iv:Value} {ia:Option Addr} {w:World} {P:Value->World->Prop} (hiv:iv = .pointer ia) (hC:Calls Tryz.prog 184 #[.pointer (some ⟨cb,0,none⟩), .pointer (some ⟨b,0,none⟩),iv] w λr w'=>∃ v,r = .returned v/\P v w') :
  Calls Tryz.prog 141 #[.pointer (some ⟨cb,0,none⟩), .iface 278 (.pointer (some ⟨b,0,none⟩)),iv] w λr w'=>∃ v,r = .returned v/\P v w':=by
 subst hiv
 have HC:=hid hC
 have t1:=MK
 have t2:=ML
 have t3:=MM
 clear hC
 go_enter Tryz.func141,Tryz.ntmps141
 go_wp2_with fail
 refine HC.out.mono ?_
 rintro e w1 ⟨v,rfl,h⟩
 go_wp2_with fail
 go_ret
 exact ⟨_,rfl,h⟩
theorem DE {cb b:Nat} {iv:Value} {ia:Option Addr} {w:World} {P:Value->World->Prop} (hiv:iv = .pointer ia) (hC:Calls Tryz.prog 185 #[.pointer (some ⟨cb,0,none⟩), .pointer (some ⟨b,0,none⟩),iv] w λr w'=>∃ v,r = .returned v/\P v w') :
  Calls Tryz.prog 141 #[.pointer (some ⟨cb,0,none⟩), .iface 280 (.pointer (some ⟨b,0,none⟩)),iv] w λr w'=>∃ v,r = .returned v/\P v w':=by
 subst hiv
 have HC:=hid hC
 have t1:=MK
 have t2:=ML
 have t3:=MM
 clear hC
 go_enter Tryz.func141,Tryz.ntmps141
 go_wp2_with fail
 refine HC.out.mono ?_
 rintro e w1 ⟨v,rfl,h⟩
 go_wp2_with fail
 go_ret
 exact ⟨_,rfl,h⟩
theorem mJ (T:List Sp.Tb) (N:Nat) (nd:Nd) (hw:wf N nd .list) (aE:List Sp.Lv) (c:CS):(Sp.ck T nd aE 0 c).1.dropLast.length=nd.len:=by
 obtain ⟨e1,e2,e3⟩:=gK N nd hw
 have h:=zB T N aE nd.els c e3
 rw [<- e1] at h
 rw [h]
 simp [(sO T aE nd.els c).1,e2]
theorem Bl (x:Sp.Bs):∀ (T:List Sp.Tb) (t:Sp.Tb),aG x T=some t->t∈T
 | [],t,h=>by cases h
 | u::T,t,h=>by
  rw [aG] at h
  split at h
  ·injection h with h;simp [h]
  ·simp [Bl x T t h]
theorem wZ (T:List Sp.Tb) (P:Sp.Tb->Prop) (h0:P iR) (hT:∀ t∈T,P t):∀ (src:List (Nm×Nm)) (lv:Sp.Lv) (c:CS),(∀ x∈lv,P x.2)->(∀ x∈(bI T src lv c).1,P x.2)/\(bI T src lv c).1.length=lv.length+src.length
 | [],lv,c,h=>⟨h,rfl⟩
 | (t,k)::r,lv,c,h=>by
  have hn:P ((aG t.1 T).getD iR):=by
   cases hf:aG t.1 T with
   | none=>exact h0
   | some u=>exact hT u (Bl _ _ _ hf)
  have ih:=wZ T P h0 hT r (lv ++ [(k.1,(aG t.1 T).getD iR)]) (if lv.any (λx=>x.1 == k.1) then (match aG t.1 T with | some _=>c | none=>c.fail 4 t.2).fail 4 k.2 else (match aG t.1 T with | some _=>c | none=>c.fail 4 t.2)) (λx hx=>by
   rw [List.mem_append,List.mem_singleton] at hx
   rcases hx with hx | rfl
   ·exact h x hx
   ·exact hn)
  rw [bI]
  refine ⟨ih.1,ih.2.trans ?_⟩
  simp;omega
theorem CR.all {k:Nat} {w:World} : ∀ {T:List Sp.Tb} {V:List TV},CR k w T V->∀ t∈T,t.cols.length<=50
 | [], [],_,t,ht=>by simp at ht
 | u::T,v::V,h,t,ht=>by
  rw [List.mem_cons] at ht
  rcases ht with rfl | ht
  ·exact h.1.iC
  ·exact CR.all h.2 t ht
 | [],_::_,h,_,_=>h.elim
 | _::_, [],h,_,_=>h.elim
theorem sF.all {k:Nat} {w:World} {T:List Sp.Tb} {v:Value} (h:sF k w T v):∀ t∈T,t.cols.length<=50:=by
 rcases h.2.2 with ⟨rfl,_⟩ | ⟨b,off,c,V,_,_,_,h4⟩
 ·intro t ht;simp at ht
 ·exact h4.all
theorem Jc {T:List Sp.Tb} {N:Nat} {di:Bool} {st:Nat} {ex:Nd} {src:List (Nm×Nm)} {wh:Nd} (hw:wf N (.sel di st ex src wh) .query) (hN:N<=90000) (hX:ex ≠ .none->K5 T ex) (hW:∀ a e,wh = .clause a e->Bi T e):NP T (.sel di st ex src wh):=by
 intro k cb m lo hi tv qv iv c aE w he hd hr
 obtain ⟨_,hex,hsl,hwh⟩:=hw
 obtain ⟨b,xv,fv,wv,m1,m2,m3,m4,rfl,hb1,hb2,hS,hS2,hA,hxi,hxr,hfr,hn,hrw⟩:=hr
 obtain ⟨ia,rfl⟩:=he.sc.ptr
 unfold Sub at hS hS2
 have hcw:=he.ck.lt
 have E4:=he.hic
 have hcm:=he.cm
 have hkl:=he.Pd
 simp only [Nd.dep] at hd
 have b1:=hA.k1
 have b2:=hA.k2
 have b3:=hA.k3
 have b4:=hA.k4
 have hbw:=hA.1
 have hsv:Tx w src fv:=by
  rcases hfr with h | ⟨blk,c,e,_,_,_,hl,hs⟩
  ·exact .inl h
  ·exact .inr ⟨blk,c,e,hl,hs⟩
 have hfi:yQ m2 m3 fv:=by
  rcases hfr with ⟨_,rfl⟩ | ⟨blk,c,rfl,_,h1,h2,_⟩
  ·intro blk off n c e;cases e
  ·intro blk' off n c e;injection e with e1;injection e1 with e1;injection e1 with e1;subst e1;exact ⟨h1,h2⟩
 have hW' : wh = .none\/∃ a e,wh = .clause a e/\Bi T e/\aE.length+1+e.dep<=100000:=by
  cases wh with
  | none=>exact .inl rfl
  | clause a e=>exact .inr ⟨a,e,rfl,hW a e rfl,by simp only [Nd.dep] at hd;omega⟩
  | nil=>simp [wf] at hwh
  | cons _ _=>simp [wf] at hwh
  | const _=>simp [wf] at hwh
  | col _ _ _ _ _ _=>simp [wf] at hwh
  | op _ _ _=>simp [wf] at hwh
  | dW _ _=>simp [wf] at hwh
  | arms _ _ _ _ _=>simp [wf] at hwh
  | within _ _ _ _=>simp [wf] at hwh
  | comb _ _ _ _ _=>simp [wf] at hwh
  | sel _ _ _ _ _=>simp [wf] at hwh
 have hmm:lo<=m1/\m1<=m2/\m2<=m3/\m3<=m4/\m4<=hi/\¬ (m1<=b/\b<m2)/\¬ (m3<=b/\b<m4):=by omega
 have hfin:∀ (ex' : Nd) (iM:List Int) (c2:CS),iM.length<=90000->Sp.ck T (.sel di st ex src wh) aE 0 c=(iM,TD T wh ((bI T src [] c).1::aE) c2, .sel di st ex' src (Sp.ck T wh ((bI T src [] c).1::aE) 0 c2).2.2)->((ex = .none)↔(ex' = .none))->
   (∀ w1 v,En T k cb m tv ((bI T src [] c).2.note ((bI T src [] c).1::aE)) ((bI T src [] c).1::aE) v lo hi w1->Kept cb w w1->Calls Tryz.prog 228 #[.pointer (some ⟨cb,0,none⟩), .pointer (some ⟨b,0,none⟩),v] w1 λr w'=>∃ v',r = .returned v'/\dX w1.heap.size w' v' iM/\CB cb tv c2 w'/\Pe w' ex' m1 m2 xv/\Fc cb m1 m2 w1 w')->
   Calls Tryz.prog 141 #[.pointer (some ⟨cb,0,none⟩), .iface 278 (.pointer (some ⟨b,0,none⟩)), .pointer ia] w λr w'=>∃ v,r = .returned v/\dX w.heap.size w' v (Sp.ck T (.sel di st ex src wh) aE 0 c).1/\(Sp.ck T (.sel di st ex src wh) aE 0 c).1.length<=90000/\CB cb tv (Sp.ck T (.sel di st ex src wh) aE 0 c).2.1 w'/\Rp w' (Sp.ck T (.sel di st ex src wh) aE 0 c).2.2 lo hi (.iface 278 (.pointer (some ⟨b,0,none⟩)))/\Fc cb lo hi w w':=by
  intro ex' iM c2 hlen hck hno hC
  rw [hck]
  refine Gt rfl ((Jb hW' he hsv hsl ⟨hb1,hb2⟩ hmm hfi hxi b3 b4 hbw hn hrw hC).mono ?_)
  rintro r w' ⟨v',rfl,o,h,x,XD,f,sb,mid⟩
  refine ⟨v',rfl,o,hlen,h,?_,f.wide (by omega) (by omega)⟩
  have hs:=f.size
  refine ⟨b,xv,fv,wv,m1,m2,m3,m4,rfl,hb1,hb2,by unfold Sub;omega,by unfold Sub;omega,hA.same hs sb,hxi,x,?_,hn,XD⟩
  rcases hfr with h | ⟨blk,c,e,hne,l1,l2,l3,hs'⟩
  ·exact .inl h
  ·exact .inr ⟨blk,c,e,hne,l1,l2,bY l3 hs,hs'.same (mid blk l1 l2)⟩
 have P7:=wZ T (λt=>t.cols.length<=50) (by simp [iR]) he.tb.all src [] c (λx hx=>by simp at hx)
 rcases hex with rfl | ⟨hl1,hl2,hwx⟩
 ·obtain rfl:xv = .slice none 0 0:=by
   rcases hxr with h | h
   ·exact h.2
   ·exact absurd rfl h.1
  refine hfin .none (kY (bI T src [] c).1) (if src.isEmpty then ((bI T src [] c).2.note ((bI T src [] c).1::aE)).fail 6 st else (bI T src [] c).2.note ((bI T src [] c).1::aE)) ?_ (by cases wh <;> rfl) Iff.rfl ?_
  ·have:=AW (bI T src [] c).1 P7.1 (bI T src [] c).1.length
   rw [sD (aF _),P7.2] at this
   simp at this
   omega
  ·intro w1 v h1 k1
   have hc:∀ o,w1.cell? ⟨b,o,none⟩=w.cell? ⟨b,o,none⟩:=λo=>k1.cell (p:=⟨b,o,none⟩) hbw (by show b≠cb;omega)
   refine (zE (src:=src) (st:=st) (fv:=fv) h1.ck h1.kw h1.sc (by omega) hcm (bY hbw k1.size) (by omega) ((hc 1).trans b1) ((hc 2).trans b2) ((hc 3).trans b3) ?_).mono ?_
   ·rcases hfr with h | ⟨blk,c,e,hne,_⟩
    ·exact .inl h
    ·exact .inr ⟨hne,_,_,_,e⟩
   ·rintro r w' ⟨v',rfl,o,hc',k'⟩
    exact ⟨v',rfl,o,hc', .inl ⟨rfl,rfl⟩,Fc.of k'⟩
 ·obtain ⟨h,t,rfl⟩:∃ h t,ex = .cons h t:=by
   cases ex with
   | cons h t=>exact ⟨h,t,rfl⟩
   | nil=>simp [Nd.len] at hl1
   | none=>simp [wf] at hwx
   | clause _ _=>simp [wf] at hwx
   | const _=>simp [wf] at hwx
   | col _ _ _ _ _ _=>simp [wf] at hwx
   | op _ _ _=>simp [wf] at hwx
   | dW _ _=>simp [wf] at hwx
   | arms _ _ _ _ _=>simp [wf] at hwx
   | within _ _ _ _=>simp [wf] at hwx
   | comb _ _ _ _ _=>simp [wf] at hwx
   | sel _ _ _ _ _=>simp [wf] at hwx
  have P8 : Rp w (.cons h t) m1 m2 xv:=by
   rcases hxr with h | h
   ·cases h.1
   ·exact h.2
  have hsh:=P8
  obtain ⟨blk,off,n,cp,v0,p1,p2,rfl,hbl,_⟩:=hsh
  refine hfin (Sp.ck T (.cons h t) ((bI T src [] c).1::aE) 0 ((bI T src [] c).2.note ((bI T src [] c).1::aE))).2.2 (Sp.ck T (.cons h t) ((bI T src [] c).1::aE) 0 ((bI T src [] c).2.note ((bI T src [] c).1::aE))).1.dropLast (Sp.ck T (.cons h t) ((bI T src [] c).1::aE) 0 ((bI T src [] c).2.note ((bI T src [] c).1::aE))).2.1 ?_ (by cases wh <;> rfl) (by constructor <;> (intro e;cases e)) ?_
  ·rw [mJ T N _ hwx];omega
  ·intro w1 v h1 k1
   obtain ⟨ja,rfl⟩:=h1.sc.ptr
   have hbx:=hxi blk off (n+1) cp rfl
   have hc:∀ o,w1.cell? ⟨b,o,none⟩=w.cell? ⟨b,o,none⟩:=λo=>k1.cell (p:=⟨b,o,none⟩) hbw (by show b≠cb;omega)
   refine (vN (P:=λw'=>Rp w' (Sp.ck T (.cons h t) ((bI T src [] c).1::aE) 0 ((bI T src [] c).2.note ((bI T src [] c).1::aE))).2.2 m1 m2 (.slice (some ⟨blk,off,none⟩) (n+1) cp)) rfl ((hc 2).trans b2) (hX (by intro e;cases e) k cb m m1 m2 tv _ (.pointer ja) _ _ w1 (h1.part (by omega) (by omega)) (by simp;omega) (P8.frame k1.size _ _ _ _ (λu u1 u2=>k1.block u (by omega) (by omega)) (λblk' off' n' c' e=>k1.block blk' (by have:=hxi blk' off' n' c' e;omega) (by have:=hxi blk' off' n' c' e;omega))) (λblk' off' n' c' e=>by have:=hxi blk' off' n' c' e;omega))).mono ?_
   rintro r w' ⟨v',rfl,o,hc',hr',f'⟩
   exact ⟨v',rfl,o,hc', .inr ⟨(by intro e;cases e),hr'⟩,f'⟩
theorem Bm (a:Nat):∀ (l m:List Int) (c:CS) (j:Nat) (h1:j<l.length) (h2:j<m.length),dV a (l.take (j+1)) (m.take (j+1)) c=((dV a (l.take j) (m.take j) c).1 ++ [((dV a (l.take j) (m.take j) c).2.fit a [l[j],m[j]]).1],((dV a (l.take j) (m.take j) c).2.fit a [l[j],m[j]]).2)
 | x::l,y::m,c,0,_,_=>by simp [dV]
 | x::l,y::m,c,j+1,h1,h2=>by
  have ih:=Bm a l m (c.fit a [x,y]).2 j (by simpa using h1) (by simpa using h2)
  simp only [List.take_succ_cons,dV,List.getElem_cons_succ]
  rw [ih]
  simp
 | [],_,_,_,h,_=>by simp at h
 | _::_, [],_,_,_,h=>by simp at h
theorem zF (a:Nat):∀ (l m:List Int) (c:CS),l.length=m.length->(dV a l m c).1.length=l.length
 | [], [],_,_=>rfl
 | x::l,y::m,c,h=>by simp [dV,zF a l m _ (by simpa using h)]
 | [],_::_,_,h=>by simp at h
 | _::_, [],_,h=>by simp at h
theorem Gu {cb base g' gE : Nat} {tv v:Value} {cz:CS} {ty:Int} {Z1:List Int} {w2 wr w4 w5:World} (hb:base=w2.heap.size) (hcb:cb<w2.heap.size) (h4:CB cb tv cz w4) (k4:Kept cb wr w4) (hK:Kept cb w2 wr) (hO:dX base wr v Z1)
  (hown:w5.ownsRow base 3 1 (.slice (some ⟨g',0,none⟩) (Z1.length+1) gE) (Z1.length+1) (NF Z1 ++ [.int .i64 ty])) (hgrow:(w4.alloc (.cells #[.int .i64 ty] 3)).grownBy w5 v.ownBlock) :
  dX base w5 (.slice (some ⟨g',0,none⟩) (Z1.length+1) gE) (Z1 ++ [ty])/\CB cb tv cz w5/\Kept cb w2 w5:=by
 subst hb
 have y8:=k4.size
 have MD:=hK.size
 have hbl:∀ q,q<w2.heap.size->w5.heap[q]?=w4.heap[q]?:=λq hq=>(hgrow.block q (by simp;omega) (λe=>by have:=(aB hO q e.symm).1;omega)).trans (kX _ _ _ (by omega))
 have rM:w4.heap.size<=w5.heap.size:=cE (by simp) hgrow.size
 refine ⟨?_,h4.same rM (hbl cb hcb),?_⟩
 ·rw [lY] at hown
  simpa [dX] using hown
 ·have k:=hK.trans k4
  exact ⟨hgrow.os.trans k.os,hgrow.tape.trans k.tape,hgrow.output.trans k.output,cE k.size rM,λq hq hc=>(hbl q hq).trans (k.block q hq hc)⟩
theorem Gv {T:List Sp.Tb} {k cb m lo hi b m1 m2 m3 a:Nat} {tv pv qv iv:Value} {all:Bool} {c:CS} {aE:List Sp.Lv} {w:World} {wd:Sp.Bs} {p q:Nd} (hP:NP T p) (hQ:NP T q) (he:En T k cb m tv c aE iv lo hi w) (hd:aE.length+max p.dep q.dep<=100000)
  (hb:lo<=b/\b<hi) (hS:Sub lo hi b m1 m2) (hS2:Sub m2 hi b m2 m3) (hA:At w b [.string (bz wd), .int .i64 (a:Nat), .bool all,pv,qv]) (n1:cH pv) (r1:Rp w p m1 m2 pv) (n2:cH qv) (r2:Rp w q m2 m3 qv) :
  Calls Tryz.prog 185 #[.pointer (some ⟨cb,0,none⟩), .pointer (some ⟨b,0,none⟩),iv] w λr w'=>∃ v,r = .returned v/\dX w.heap.size w' v (Sp.ck T (.comb wd a all p q) aE 0 c).1/\(Sp.ck T (.comb wd a all p q) aE 0 c).1.length<=90000/\CB cb tv (Sp.ck T (.comb wd a all p q) aE 0 c).2.1 w'/\Rp w' (Sp.ck T p aE 0 c).2.2 m1 m2 pv/\Rp w' (Sp.ck T q aE 0 (Sp.ck T p aE 0 c).2.1).2.2 m2 m3 qv/\Fc cb m1 m3 w w'/\Sb b w w':=by
 obtain ⟨i0,ji,fR,jz1,fS⟩:=info_parts nI
 have hcw:=he.ck.lt
 have E4:=he.hic
 obtain ⟨ia,rfl⟩:=he.sc.ptr
 unfold Sub at hS hS2
 have HC:=hid (hP k cb m m1 m2 tv pv (.pointer ia) c aE w (he.part hS.1 hS.2.2.1) (by omega) r1)
 have HQ:Hid (∀ R2 w1,En T k cb m tv R2 aE (.pointer ia) m2 m3 w1->Rp w1 q m2 m3 qv->Calls Tryz.prog 141 #[.pointer (some ⟨cb,0,none⟩),qv, .pointer ia] w1 λr w'=>∃ v,r = .returned v/\dX w1.heap.size w' v (Sp.ck T q aE 0 R2).1/\(Sp.ck T q aE 0 R2).1.length<=90000/\CB cb tv (Sp.ck T q aE 0 R2).2.1 w'/\Rp w' (Sp.ck T q aE 0 R2).2.2 m2 m3 qv/\Fc cb m2 m3 w1 w'):=λR2 w1 he hr=>hQ k cb m m2 m3 tv qv (.pointer ia) R2 aE w1 he (by omega) hr
 have b1:=hA.k1
 have b3:=hA.k3
 have b4:=hA.k4
 have hbw:=hA.1
 have vG:=hid n1
 have Kz:=hid n2
 have HE:=hid he
 have XE:=hid r2
 have HV:=hid (show Sp.ck T (.comb wd a all p q) aE 0 c=(let r:=Sp.ck T p aE 0 c
  let r':=Sp.ck T q aE 0 r.2.1
  let nd:=Nd.comb wd a all r.2.2 r'.2.2
  if r.1.length != r'.1.length then (r.1,r'.2.1.fail 6 a,nd)
  else let z:=dV a r.1 r'.1 r'.2.1;(z.1,z.2,nd)) from rfl)
 clear hP hQ he hA n1 n2 r1 r2
 generalize Sp.ck T (.comb wd a all p q) aE 0 c=RW at *
 obtain ⟨W1,W2,W3⟩:=RW
 generalize hR:Sp.ck T p aE 0 c=R at *
 clear hR
 obtain ⟨R1,R2,R3⟩:=R
 have K7:=hid (HQ.out R2)
 clear HQ
 simp only [] at HC HV ⊢
 generalize hR:Sp.ck T q aE 0 R2=R' at *
 clear hR
 obtain ⟨Q1,Q2,Q3⟩:=R'
 simp only [] at K7 HV ⊢
 go_enter Tryz.func185,Tryz.ntmps185
 go_wp2_with fail
 refine HC.out.mono ?_
 rintro e w1 ⟨v1,rfl,o1,hl1,h1,Vx,f1⟩
 have hz1:=f1.size
 have MJ:Hid (En T k cb m tv R2 aE (.pointer ia) lo hi w1):=HE.out.next hS.1 (by omega) hS.2.1 f1 h1
 have HB1:Hid (Sb b w w1):=f1.block b hbw (by omega) (by omega)
 have c1:=(fB (w:=w) (a:=⟨b,1,none⟩) HB1.out).trans b1
 have c4:=(fB (w:=w) (a:=⟨b,4,none⟩) HB1.out).trans b4
 have KD:=hid (K7.out w1 (MJ.out.part (by omega) (by omega)) (XE.out.frame hz1 _ _ _ _ (λu u1 u2=>f1.block u (by omega) (by omega) (by omega)) (λ_ _ _ _ e=>absurd e (Kz.out _ _ _))))
 have O1:=hid o1
 have HR1:=hid Vx
 have F1:=hid f1
 obtain ⟨XF,XG,rfl⟩:=o1.sl
 clear o1 h1 Vx f1 HC K7 b1 b3 b4
 go_wp2_with fail
 refine KD.out.mono ?_
 rintro e w2 ⟨v2,rfl,o2,hl2,h2,Vy,f2⟩
 have hz2:=f2.size
 have HB2:Hid (Sb b w w2):=(f2.block b (by omega) (by omega) (by omega)).trans HB1.out
 have d1:=(f2.cell (p:=⟨b,1,none⟩) (by show b<_;omega) (by show b≠cb;omega) (by show ¬ (m2<=b/\b<m3);omega)).trans c1
 have O2:=hid o2
 have H2:=hid h2
 have HR2:=hid Vy
 have P9:=hid (O1.out.fc f2 hcw (by omega))
 have XH:Hid (Rp w2 R3 m1 m2 pv):=HR1.out.frame hz2 _ _ _ _ (λu u1 u2=>f2.block u (by omega) (by omega) (by omega)) (λ_ _ _ _ e=>absurd e (vG.out _ _ _))
 have F2:Hid (Fc cb m1 m3 w w2):=(F1.out.wide (aF _) (by omega)).trans (f2.wide (by omega) (aF _))
 obtain ⟨XI,XJ,rfl⟩:=o2.sl
 clear o2 h2 Vy f2 KD HR1 c1 c4
 have Qa:Hid (∀ w',Kept cb w2 w'->Rp w' R3 m1 m2 pv/\Rp w' Q3 m2 m3 qv/\Fc cb m1 m3 w w'/\Sb b w w'):=λw' k'=>⟨XH.out.zD k' (by omega) (by omega) vG.out,HR2.out.zD k' (by omega) (by omega) Kz.out,F2.out.trans (Fc.of k'),(k'.block b (by omega) (by omega)).trans HB2.out⟩
 by_cases hq:R1.length=Q1.length
 ·have hne:((R1.length:Int) != (Q1.length:Int))=false:=by simp [hq]
  have Sf:=hid hq
  have K8 : Hid (W1=(dV a R1 Q1 Q2).1/\W2=(dV a R1 Q1 Q2).2):=by
   have h:=HV.out
   rw [if_neg (by simpa using hq)] at h
   exact ⟨(Prod.mk.inj h).1,(Prod.mk.inj (Prod.mk.inj h).2).1⟩
  obtain ⟨n,hn⟩:∃ n,n=R1.length:=⟨_,rfl⟩
  have MN:=hid hn
  rw [<- hn] at hl1 ⊢
  clear hq hn HV
  have hne' : ((n:Int) != (Q1.length:Int))=false:=by rw [MN.out];exact hne
  clear hne
  go_wp2_with fail
  go_loopw [9,39] (λv i wr=>∃ j:Nat,j<=n/\i = .int .i64 (j:Nat)/\Hid (dX w2.heap.size wr v (dV a (R1.take j) (Q1.take j) Q2).1)/\Hid (CB cb tv (dV a (R1.take j) (Q1.take j) Q2).2 wr)/\Hid (Kept cb w2 wr)) (λ_ i _=>n - (intOf i).toNat)
  case atStart=>exact ⟨0,fO _,rfl,dX.nil _ _,H2,Kept.refl _ _⟩
  case round=>
   obtain ⟨j,hj,rfl,HO,zC,HK⟩:=hrel
   have hwr:=HK.out.size
   by_cases hlt:j<n
   ·have hj1:j<R1.length:=by have:=MN.out;omega
    have hj2:j<Q1.length:=by have:=Sf.out;omega
    have HS:=hid (Bm a R1 Q1 Q2 j hj1 hj2)
    have hzl:=zF a (R1.take j) (Q1.take j) Q2 (by rw [List.length_take,List.length_take];have:=Sf.out;omega)
    rw [List.length_take] at hzl
    have hLlen:(dV a (R1.take j) (Q1.take j) Q2).1.length<=90000:=by omega
    obtain ⟨g1,q1,s1,e1,hH1⟩:∃ g o c,(Value.slice XF R1.length XG) = .slice (some ⟨g,o,none⟩) R1.length c/\Hi w2 g o R1:=by
     rcases P9.out.si with ⟨_,h⟩ | h
     ·rw [h] at hj1;simp at hj1
     ·exact h
    obtain ⟨g2,q2,s2,e2,hH2⟩:∃ g o c,(Value.slice XI Q1.length XJ) = .slice (some ⟨g,o,none⟩) Q1.length c/\Hi w2 g o Q1:=by
     rcases O2.out.si with ⟨_,h⟩ | h
     ·rw [h] at hj2;simp at hj2
     ·exact h
    injection e1 with e1 _ XK
    injection e2 with e2 _ XL
    subst e1 e2 XK XL
    have hg1:=P9.out.fresh g1 q1 _ _ rfl
    have hg2:=O2.out.fresh g2 q2 _ _ rfl
    have XM:=hH1.lb
    have XN:=hH2.lb
    have x1:=(HK.out.cell (p:=⟨g1,q1+j,none⟩) hH1.lb (by show g1≠cb;omega)).trans (hH1.n j hj1)
    have x2:=(HK.out.cell (p:=⟨g2,q2+j,none⟩) hH2.lb (by show g2≠cb;omega)).trans (hH2.n j hj2)
    have x3:=(HK.out.cell (p:=⟨b,1,none⟩) (by show b<_;omega) (by show b≠cb;omega)).trans d1
    have hi2:(j:Int)<(Q1.length:Int):=by omega
    have hbr:b<wr.heap.size:=by omega
    have XO:g1<wr.heap.size:=by omega
    have XP:g2<wr.heap.size:=by omega
    clear hH1 hH2 hzl
    generalize dV a (R1.take j) (Q1.take j) Q2=Z at *
    generalize R1[j]=ax at *
    generalize Q1[j]=ay at *
    obtain ⟨Z1,Z2⟩:=Z
    simp only [] at HS HO zC hLlen
    have HF:=hid (jF (zC.out.gr (((Gr.refl wr).alloc (.cells #[.int .i64 ax, .int .i64 ay] 3)).drew)) a ((DD wr ax ay).gr ((Gr.refl _).drew)) (by simp))
    generalize Z2.fit a [ax,ay]=ZF at *
    obtain ⟨ty,cz⟩:=ZF
    simp only [] at HS HF
    go_wp2_with fail
    go_region_law (first | ((have _hx:=qC;refine step_append_lies _ (by rfl) _ _ _ (by rfl) w2.heap.size 3 i0 (.int .i64 0) 1 8 Tryz.underlying206 ji fR jz1 fS rfl (by decide) u9 Z1.length (NF Z1) (by rfl) qC ⟨w4.heap.size,0,none⟩ 1 1 [.int .i64 ty] (by rfl) (by rfl) (World.news_of_block (cs:=#[.int .i64 ty]) (t:=3) (fr:=(0,0)) (heap_alloc_new w4 _)) (pI _) (by omega) (by unfold maxLen;omega) (by omega) (by simp;omega) (w4.heap.size+1) (by simp) ?_;intro g' gE w5 hown hgrow hat XQ)) | (go_simp;go_at_call 181;refine HF.out.mono ?_;rintro e4 w4 ⟨rfl,h4,k4⟩;have Jd : Kept cb wr w4:=(Kept.gr (((Gr.refl wr).alloc (.cells #[.int .i64 ax, .int .i64 ay] 3)).drew)).trans k4;have y8:=Jd.size;have hO4:dX w2.heap.size w4 u9 Z1:=HO.out.same (λb' e=>Jd.block b' (aB HO.out b' e).2 (by have:=(aB HO.out b' e).1;omega));have qC:(w4.alloc (.cells #[.int .i64 ty] 3)).ownsRow w2.heap.size 3 1 u9 Z1.length (NF Z1):=hO4.alloc _;have y1:=(Jd.cell (p:=⟨g1,q1+j,none⟩) (by show g1<_;omega) (by show g1≠cb;omega)).trans x1;have y2:=(Jd.cell (p:=⟨g2,q2+j,none⟩) (by show g2<_;omega) (by show g2≠cb;omega)).trans x2;have y3:=(Jd.cell (p:=⟨b,1,none⟩) (by show b<_;omega) (by show b≠cb;omega)).trans x3))
    all_goals
     have eM:=hid (Gu rfl (by omega) h4 Jd HK.out HO.out hown hgrow)
     clear hown hgrow hat h4 k4 Jd hO4 qC y1 y2 y3 x1 x2 x3
     go_wp2_with fail
     go_roundw
     case rel=>exact ⟨j+1,by omega,by go_num,by rw [HS.out];exact eM.out.1,by rw [HS.out];exact eM.out.2.1,eM.out.2.2⟩
     case measure=>simp [intOf];omega
   ·have hje:R1.take j=R1/\Q1.take j=Q1:=⟨sD (by have:=MN.out;omega),sD (by have:=MN.out;have:=Sf.out;omega)⟩
    rw [hje.1,hje.2] at HO zC
    have hzl:=zF a R1 Q1 Q2 Sf.out
    have hW:(dV a R1 Q1 Q2).1.length<=90000:=by have:=MN.out;omega
    clear hje hzl
    go_wp2_with fail
    go_ret
    exact ⟨_,rfl,by rw [K8.out.1];exact HO.out.wide (by omega),by rw [K8.out.1];exact hW,by rw [K8.out.2];exact zC.out,Qa.out _ HK.out⟩
 ·have hne:((R1.length:Int) != (Q1.length:Int))=true:=by simp;omega
  have K8 : Hid (W1=R1/\W2=Q2.fail 6 a):=by
   have h:=HV.out
   rw [if_pos (by simpa using hq)] at h
   exact ⟨(Prod.mk.inj h).1,(Prod.mk.inj (Prod.mk.inj h).2).1⟩
  go_wp2_with fail
  refine (cU H2.out 6 a).mono ?_
  rintro e3 w3 ⟨rfl,h3,k3⟩
  have HX:=hid (And.intro h3 k3)
  clear h3 k3
  go_wp2_with fail
  go_ret
  exact ⟨_,rfl,by rw [K8.out.1];exact P9.out.same λb' e=>HX.out.2.block b' (aB P9.out b' e).2 (by have:=(aB P9.out b' e).1;omega),by rw [K8.out.1];exact hl1,by rw [K8.out.2];exact HX.out.1,Qa.out _ HX.out.2⟩
theorem MO (v:Option Addr) (w:World):Sem.run Tryz.prog (Instr.typeAssert (.iface 358 (.pointer v)) 242 358 true) w = .ok (.tuple #[.pointer v, .bool true]) w:=by kernel_rfl
theorem MP (v:Option Addr) (w:World):Sem.run Tryz.prog (Instr.typeAssert (.iface 361 (.pointer v)) 242 358 true) w = .ok (.tuple #[.pointer none, .bool false]) w:=by kernel_rfl
theorem MQ (v:Option Addr) (w:World):Sem.run Tryz.prog (Instr.typeAssert (.iface 361 (.pointer v)) 242 361 true) w = .ok (.tuple #[.pointer v, .bool true]) w:=by kernel_rfl
theorem MR (v:Option Addr) (w:World):Sem.run Tryz.prog (Instr.typeAssert (.iface 363 (.pointer v)) 242 358 true) w = .ok (.tuple #[.pointer none, .bool false]) w:=by kernel_rfl
theorem MS (v:Option Addr) (w:World):Sem.run Tryz.prog (Instr.typeAssert (.iface 363 (.pointer v)) 242 361 true) w = .ok (.tuple #[.pointer none, .bool false]) w:=by kernel_rfl
theorem MT (v:Option Addr) (w:World):Sem.run Tryz.prog (Instr.typeAssert (.iface 363 (.pointer v)) 242 363 true) w = .ok (.tuple #[.pointer v, .bool true]) w:=by kernel_rfl
theorem MU (v:Option Addr) (w:World):Sem.run Tryz.prog (Instr.typeAssert (.iface 365 (.pointer v)) 242 358 true) w = .ok (.tuple #[.pointer none, .bool false]) w:=by kernel_rfl
theorem MV (v:Option Addr) (w:World):Sem.run Tryz.prog (Instr.typeAssert (.iface 365 (.pointer v)) 242 361 true) w = .ok (.tuple #[.pointer none, .bool false]) w:=by kernel_rfl
theorem MW (v:Option Addr) (w:World):Sem.run Tryz.prog (Instr.typeAssert (.iface 365 (.pointer v)) 242 363 true) w = .ok (.tuple #[.pointer none, .bool false]) w:=by kernel_rfl
theorem MX (v:Option Addr) (w:World):Sem.run Tryz.prog (Instr.typeAssert (.iface 365 (.pointer v)) 242 365 true) w = .ok (.tuple #[.pointer v, .bool true]) w:=by kernel_rfl
theorem DF {cb b:Nat} {ia:Option Addr} {z:Int} {w:World} (h:w.cell? ⟨b,0,none⟩=some (.int .i64 z)) :
  Calls Tryz.prog 182 #[.pointer (some ⟨cb,0,none⟩), .iface 358 (.pointer (some ⟨b,0,none⟩)), .pointer ia] w λr w'=>r = .returned (.int .i64 z)/\w'=w:=by
 have t0:=MO
 go_enter Tryz.func182,Tryz.ntmps182
 go_wp2_with fail
 go_ret
 exact ⟨rfl,rfl⟩
theorem Bn {cb b:Nat} {ia:Option Addr} {w:World} {P:Int->World->Prop} (hC:Calls Tryz.prog 221 #[.pointer (some ⟨cb,0,none⟩), .pointer (some ⟨b,0,none⟩), .pointer ia] w λr w'=>∃ z,r = .returned (.int .i64 z)/\P z w') :
  Calls Tryz.prog 182 #[.pointer (some ⟨cb,0,none⟩), .iface 361 (.pointer (some ⟨b,0,none⟩)), .pointer ia] w λr w'=>∃ z,r = .returned (.int .i64 z)/\P z w':=by
 have HC:=hid hC
 have t0:=MP
 have t1:=MQ
 clear hC
 go_enter Tryz.func182,Tryz.ntmps182
 go_wp2_with fail
 refine HC.out.mono ?_
 rintro e w1 ⟨z,rfl,h⟩
 go_wp2_with fail
 go_ret
 exact ⟨_,rfl,h⟩
theorem tR {cb b:Nat} {ia:Option Addr} {w:World} {P:Int->World->Prop} (hC:Calls Tryz.prog 222 #[.pointer (some ⟨cb,0,none⟩), .pointer (some ⟨b,0,none⟩), .pointer ia] w λr w'=>∃ z,r = .returned (.int .i64 z)/\P z w') :
  Calls Tryz.prog 182 #[.pointer (some ⟨cb,0,none⟩), .iface 363 (.pointer (some ⟨b,0,none⟩)), .pointer ia] w λr w'=>∃ z,r = .returned (.int .i64 z)/\P z w':=by
 have HC:=hid hC
 have t0:=MR
 have t1:=MS
 have t2:=MT
 clear hC
 go_enter Tryz.func182,Tryz.ntmps182
 go_wp2_with fail
 refine HC.out.mono ?_
 rintro e w1 ⟨z,rfl,h⟩
 go_wp2_with fail
 go_ret
 exact ⟨_,rfl,h⟩
theorem MY {cb b:Nat} {ia:Option Addr} {w:World} {P:Int->World->Prop} (hC:Calls Tryz.prog 223 #[.pointer (some ⟨cb,0,none⟩), .pointer (some ⟨b,0,none⟩), .pointer ia] w λr w'=>∃ z,r = .returned (.int .i64 z)/\P z w') :
  Calls Tryz.prog 182 #[.pointer (some ⟨cb,0,none⟩), .iface 365 (.pointer (some ⟨b,0,none⟩)), .pointer ia] w λr w'=>∃ z,r = .returned (.int .i64 z)/\P z w':=by
 have HC:=hid hC
 have t0:=MU
 have t1:=MV
 have t2:=MW
 have t3:=MX
 clear hC
 go_enter Tryz.func182,Tryz.ntmps182
 go_wp2_with fail
 refine HC.out.mono ?_
 rintro e w1 ⟨z,rfl,h⟩
 go_wp2_with fail
 go_ret
 exact ⟨_,rfl,h⟩
end Go.Proofs.YtgnncnhkgmhngaaGreatDoor
