import Derived.Test.YtgnncnhkgmhngaaGreatDoorJ31
import Derived.Test.YtgnncnhkgmhngaaGreatDoorJ32
set_option maxHeartbeats 2000000
set_option maxRecDepth 100000
namespace Go.Proofs.YtgnncnhkgmhngaaGreatDoor
open Sp
open Tryz
open Go.RowKit Go.Sort
theorem Cu {w w' : World} {nd:Nd} {lo hi:Nat} {t:TypeId} {p:Value} (h:Rp w nd lo hi (.iface t p)) (hs:w.heap.size<=w'.heap.size) (hk:∀ u,lo<=u->u<hi->w'.heap[u]?=w.heap[u]?):Rp w' nd lo hi (.iface t p):=
 h.frame hs _ _ _ _ hk (λ_ _ _ _ e=>by cases e)
theorem EX (x:ByteArray) (p:Nat) (cn:ByteArray) (a e:Int) (t:TypeId) (v:Value) (w:World) (hp:p<w.heap.size) (hx:w.cell? ⟨p,0,none⟩=some (.string x)) :
  Calls prog 226 #[.agg #[.string cn, .int .i64 a, .int .i64 e, .iface t v], .pointer (some ⟨p,0,none⟩)] w λr w'=>r = .returned (.bool (cn.toList == x.toList))/\Gr w w':=by
 have hx1:(w.alloc (.cells #[.string cn, .int .i64 a, .int .i64 e, .iface t v] 249)).cell? ⟨p,0,none⟩=some (.string x):=(((Gr.refl w).alloc _).cell (p:=⟨p,0,none⟩) hp).trans hx
 go_enter func226,ntmps226
 go_wp2
 go_ret
 exact ⟨rfl,(Gr.refl w).alloc _⟩
def DI (w:World) (g:Nat) (ns:List Sp.Bs):Prop:=
 g<w.heap.size/\∀ j,(hj:j<ns.length)->∃ (a e:Int) (t:TypeId) (v:Value),w.cell? ⟨g,j*4,none⟩=some (.string (bz ns[j]))/\w.cell? ⟨g,j*4+1,none⟩=some (.int .i64 a)/\w.cell? ⟨g,j*4+2,none⟩=some (.int .i64 e)/\w.cell? ⟨g,j*4+3,none⟩=some (.iface t v)
theorem DI.same {w w' : World} {g:Nat} {ns:List Sp.Bs} (h:DI w g ns) (hs:w.heap.size<=w'.heap.size) (e:w'.heap[g]?=w.heap[g]?):DI w' g ns:=by
 have hc:∀ o,w'.cell? ⟨g,o,none⟩=w.cell? ⟨g,o,none⟩:=λo=>dV (w:=w) (a:=⟨g,o,none⟩) e
 refine ⟨b6 h.1 hs,λj hj=>?_⟩
 obtain ⟨a,e,t,v,c0,c1,c2,c3⟩:=h.2 j hj
 exact ⟨a,e,t,v,(hc _).trans c0,(hc _).trans c1,(hc _).trans c2,(hc _).trans c3⟩
theorem DI.gr {w w' : World} {g:Nat} {ns:List Sp.Bs} (h:DI w g ns) (k:Gr w w'):DI w' g ns:=h.same k.size (k.below.block g h.1)
theorem Qd (ns:List Sp.Bs) (x:Sp.Bs) (k:Nat) (h:k<ns.length) (e:(ns[k] == x)=true):ns.any (λy=>y == x)=true:=
 List.any_eq_true.2 ⟨ns[k],hU h,e⟩
theorem Nh (ns:List Sp.Bs) (x:Sp.Bs) (h:∀ j,(hj:j<ns.length)->(ns[j] == x)=false):ns.any (λy=>y == x)=false:=by
 rw [List.any_eq_false]
 intro z hz
 obtain ⟨j,hj,rfl⟩:=List.getElem_of_mem hz
 simp only [h j hj];decide
theorem Ar (g n c p:Nat) (ns:List Sp.Bs) (x:ByteArray) (w:World) (hz:n=ns.length) (hbig:n<=100000) (hl:DI w g ns) (hp:p<w.heap.size) (hx:w.cell? ⟨p,0,none⟩=some (.string x)) :
  Calls prog 260 #[.slice (some ⟨g,0,none⟩) n c, .func (.func 226) #[] #[.pointer (some ⟨p,0,none⟩)]] w λe w'=>(∃ q:Int,e = .returned (.int .i64 q)/\decide (0<=q)=ns.any (λy=>y == x.toList))/\Gr w w':=by
 have HV:=hid hl
 have HZ:=hid hz
 have HP:=hid hx
 clear hl hz hx
 go_enter func260,ntmps260
 go_wp2
 go_loopw [8] (λi wr=>∃ j:Nat,j<=n/\i = .int .i64 j/\Hid (Gr w wr)/\Hid (∀ q,q<j->(hq:q<ns.length)->(ns[q] == x.toList)=false)) (λi _=>n - (intOf i).toNat)
 case atStart=>exact ⟨0,eX _,rfl,Gr.refl _,λq hq=>absurd hq (Nat.not_lt_zero _)⟩
 case round=>
  obtain ⟨j,hj,rfl,HG,HR⟩:=hrel
  by_cases hlt:j<n
  ·have hjz:j<ns.length:=by have:=HZ.out;omega
   obtain ⟨sa,se,st,sv,c0,c1,c2,c3⟩:=(HV.out.gr HG.out).2 j hjz
   have HC:Hid (Calls prog 226 #[.agg #[.string (bz ns[j]), .int .i64 sa, .int .i64 se, .iface st sv], .pointer (some ⟨p,0,none⟩)] wr λe w'=>e = .returned (.bool (ns[j] == x.toList))/\Gr wr w'):=by
    have h:=EX x p (bz ns[j]) sa se st sv wr (b6 hp HG.out.size) ((HG.out.cell (p:=⟨p,0,none⟩) hp).trans HP.out)
    rw [cY] at h
    exact h
   have HN:Hid ((ns[j] == x.toList)=false->∀ q,q<j+1->(hq:q<ns.length)->(ns[q] == x.toList)=false):=λh q hq hq'=>by
    by_cases e:q=j
    ·subst e;exact h
    ·exact HR.out q (by omega) hq'
   have HT:Hid ((ns[j] == x.toList)=true->ns.any (λy=>y == x.toList)=true):=λh=>Qd ns _ j hjz h
   generalize (ns[j] == x.toList)=bb at HC HN HT
   generalize bz ns[j]=cn at c0 HC
   clear HR
   go_wp2_with fail
   refine Calls.mono HC.out ?_
   rintro e w2 ⟨rfl,g2⟩
   have sX:=hid (HG.out.trans g2)
   clear g2
   cases bb
   ·go_wp2_with fail
    go_roundw
    case rel=>exact ⟨j+1,by omega,by go_num,sX,HN.out (by trivial)⟩
    case measure=>simp [intOf];omega
   ·go_wp2_with fail
    go_ret
    exact ⟨⟨_,rfl,by rw [HT.out (by trivial)];simp⟩,sX.out⟩
  ·have HF:Hid (ns.any (λy=>y == x.toList)=false):=Nh ns _ λq hq=>HR.out q (by have:=HZ.out;omega) hq
   go_wp2_with fail
   go_ret
   exact ⟨⟨_,rfl,by rw [HF.out];simp⟩,HG.out⟩
theorem EY (g n c p:Nat) (ns:List Sp.Bs) (x:ByteArray) (w:World) (hz:n=ns.length) (hbig:n<=100000) (hl:DI w g ns) (hp:p<w.heap.size) (hx:w.cell? ⟨p,0,none⟩=some (.string x)) :
  Calls prog 225 #[.slice (some ⟨g,0,none⟩) n c, .func (.func 226) #[] #[.pointer (some ⟨p,0,none⟩)]] w λe w'=>e = .returned (.bool (ns.any (λy=>y == x.toList)))/\Gr w w':=by
 have H:=hid (Ar g n c p ns x w hz hbig hl hp hx)
 clear hl hx hz
 generalize ns.any (λy=>y == x.toList)=bb at H
 go_enter func225,ntmps225
 go_wp2_with fail
 refine H.out.mono ?_
 rintro e w1 ⟨⟨q,rfl,hq⟩,g⟩
 have HQ:=hid hq
 clear hq
 go_wp2_with fail
 go_ret
 exact ⟨dC HQ.out,g⟩
theorem Ih (g n c:Nat) (ns:List Sp.Bs) (x:ByteArray) (w:World) (hz:n=ns.length) (hbig:n<=100000) (hl:DI w g ns) :
  Calls prog 183 #[.string x, .slice (some ⟨g,0,none⟩) n c] w λe w'=>e = .returned (.bool (ns.any (λy=>y == x.toList)))/\Gr w w':=by
 have G:Hid (Gr w (w.alloc (.cells #[.string x] 9))):=(Gr.refl w).alloc _
 have H:=hid (EY g n c w.heap.size ns x _ hz hbig (hl.gr G.out) (by simp) (by simp))
 clear hl hz
 go_enter func183,ntmps183
 go_wp2_with fail
 refine H.out.mono ?_
 rintro e w1 ⟨rfl,g⟩
 go_wp2_with fail
 go_ret
 exact ⟨rfl,G.out.trans g⟩
theorem OZ {w:World} {nd:Nd} {lo hi N:Nat} {v:Value} (h:Rp w nd lo hi v) (hw:wf N nd .expr):∃ t p,v = .iface t (.pointer (some p)):=by
 cases nd with
 | const c=>obtain ⟨b,e,_⟩:=h;exact ⟨_,_,e⟩
 | col t n a o sr ce=>obtain ⟨b,e,_⟩:=h;exact ⟨_,_,e⟩
 | op wd a args=>obtain ⟨b,sv,m1,m2,e,_⟩:=h;exact ⟨_,_,e⟩
 | b8 arms els=>obtain ⟨b,av,ev,m1,m2,m3,e,_⟩:=h;exact ⟨_,_,e⟩
 | within wd a args q=>obtain ⟨b,sv,qv,m1,m2,m3,m4,e,_⟩:=h;exact ⟨_,_,e⟩
 | _=>simp [wf] at hw
theorem gX.at_ {α:Type} {P:World->α->List Value->Nat->Nat->Prop} {w:World} {g:Nat} : ∀ {ns:List α} {xs:List (List Value)} {lo hi:Nat},gX P w g ns xs lo hi->∀ j,(hj:j<ns.length)->∃ x m1 m2,xs[j]?=some x/\P w ns[j] x m1 m2
 | [],_,_,_,_,j,hj=>by simp at hj
 | n::ns, [],_,_,h,_,_=>h.elim
 | n::ns,x::xs,lo,hi,h,j,hj=>by
  obtain ⟨m1,m2,_,hp,ht⟩:=h
  cases j with
  | zero=>exact ⟨x,m1,m2,rfl,hp⟩
  | succ j=>simpa using ht.at_ j (by simpa using hj)
theorem DI.of {w:World} {g lo h0 N:Nat} {sets:List (Nm×Nat×Nd)} {xs:List (List Value)} (hg:g<w.heap.size) (hL:gX f7 w g sets xs lo h0) (hc:∀ j u,xs.flatten[j]?=some u->w.cell? ⟨g,j,none⟩=some u) (hw:∀ x∈sets,wf N x.2.2 .expr):DI w g (sets.map λx=>x.1.1):=by
 have qJ:∀ x∈xs,x.length=4:=gX.lens (L:=4) (λn x m1 m2 h=>by obtain ⟨v,e,_⟩:=h;rw [e];rfl) hL
 refine ⟨hg,λj hj=>?_⟩
 have hj' : j<sets.length:=by simpa using hj
 obtain ⟨x,m1,m2,ex,v,rfl,hn,hr⟩:=hL.at_ j hj'
 obtain ⟨t,p,rfl⟩:=OZ hr (hw _ (hU hj'))
 have f:=λd hd=>eK 4 xs qJ j d _ ex hd
 refine ⟨_,_,t,_,?_,hc _ _ (f 1 (by omega)),hc _ _ (f 2 (by omega)),hc _ _ (f 3 (by omega))⟩
 have:=hc _ _ (f 0 (by omega))
 simpa using this
theorem DI.take {w:World} {g:Nat} {ns:List Sp.Bs} (h:DI w g ns) (j:Nat):DI w g (ns.take j):=by
 refine ⟨h.1,λi hi=>?_⟩
 have h1:i<ns.length:=by rw [List.length_take] at hi;omega
 rw [List.getElem_take]
 exact h.2 i h1
theorem Ii (T:List Sp.Tb) (t:Sp.Tb) (L:List Sp.Lv) (sets:List (Nm×Nat×Nd)) (done:List Sp.Bs) (c:CS) (j:Nat) (h:j<sets.length) (hb:(decide (cellOf sets[j].1.1 t.cols<0)||done.contains sets[j].1.1)=true):fQ T t L (sets.drop j) done c=(c.fail 4 sets[j].1.2,sets.drop j,false):=by
 rw [lJ h]
 generalize sets[j]=x at *
 obtain ⟨n,a,e⟩:=x
 simp only [fQ]
 rw [if_pos hb]
theorem EZ (T:List Sp.Tb) (t:Sp.Tb) (L:List Sp.Lv) (sets:List (Nm×Nat×Nd)) (done:List Sp.Bs) (c:CS) (j:Nat) (h:j<sets.length) (hb:(decide (cellOf sets[j].1.1 t.cols<0)||done.contains sets[j].1.1)=false) :
  fQ T t L (sets.drop j) done c=((fQ T t L (sets.drop (j+1)) (done ++ [sets[j].1.1]) ((Sp.ck T sets[j].2.2 L 0 c).2.1.fit sets[j].2.1 [((t.cols[(cellOf sets[j].1.1 t.cols).toNat]?).map (·.2)).getD 0,(Sp.ck T sets[j].2.2 L 0 c).1.headD 0]).2).1,(sets[j].1,sets[j].2.1,(Sp.ck T sets[j].2.2 L 0 c).2.2)::(fQ T t L (sets.drop (j+1)) (done ++ [sets[j].1.1]) ((Sp.ck T sets[j].2.2 L 0 c).2.1.fit sets[j].2.1 [((t.cols[(cellOf sets[j].1.1 t.cols).toNat]?).map (·.2)).getD 0,(Sp.ck T sets[j].2.2 L 0 c).1.headD 0]).2).2.1,(fQ T t L (sets.drop (j+1)) (done ++ [sets[j].1.1]) ((Sp.ck T sets[j].2.2 L 0 c).2.1.fit sets[j].2.1 [((t.cols[(cellOf sets[j].1.1 t.cols).toNat]?).map (·.2)).getD 0,(Sp.ck T sets[j].2.2 L 0 c).1.headD 0]).2).2.2):=by
 rw [lJ h]
 generalize sets[j]=x at *
 obtain ⟨n,a,e⟩:=x
 simp only [fQ]
 rw [if_neg (by simpa using hb)]
theorem Gs (l:List Sp.Bs) (x:Sp.Bs):l.contains x=l.any (λy=>y == x):=by
 induction l with
 | nil=>rfl
 | cons a l ih=>
  rw [List.contains_cons,List.any_cons,ih]
  congr 1
  rw [Bool.eq_iff_iff,beq_iff_eq,beq_iff_eq];exact ⟨Eq.symm,Eq.symm⟩
theorem E0 (sets:List (Nm×Nat×Nd)) (j:Nat) (h:j<sets.length):(sets.map λx=>x.1.1).take (j+1)=(sets.map λx=>x.1.1).take j ++ [sets[j].1.1]:=by
 rw [sA (by simpa using h),List.getElem_map]
def gG (T:List Sp.Tb) (t:Sp.Tb) (L:List Sp.Lv) (sets:List (Nm×Nat×Nd)) (c0:CS) (j:Nat) (rs:List (Nm×Nat×Nd)) (c:CS):Prop:=
 rs.length=j/\fQ T t L sets [] c0=((fQ T t L (sets.drop j) ((sets.map λx=>x.1.1).take j) c).1,rs++(fQ T t L (sets.drop j) ((sets.map λx=>x.1.1).take j) c).2.1,(fQ T t L (sets.drop j) ((sets.map λx=>x.1.1).take j) c).2.2)
theorem gG.start (T:List Sp.Tb) (t:Sp.Tb) (L:List Sp.Lv) (sets:List (Nm×Nat×Nd)) (c0:CS):gG T t L sets c0 0 [] c0:=⟨rfl,by simp⟩
theorem gG.bad {T:List Sp.Tb} {t:Sp.Tb} {L:List Sp.Lv} {sets:List (Nm×Nat×Nd)} {c0:CS} {j:Nat} {rs:List (Nm×Nat×Nd)} {c:CS} (h:gG T t L sets c0 j rs c) (hj:j<sets.length) (hb:(decide (cellOf sets[j].1.1 t.cols<0)||((sets.map λx=>x.1.1).take j).any (λy=>y == sets[j].1.1))=true):fQ T t L sets [] c0=(c.fail 4 sets[j].1.2,rs++sets.drop j,false):=by
 rw [h.2,Ii T t L sets _ c j hj (by rw [Gs];exact hb)]
theorem gG.good {T:List Sp.Tb} {t:Sp.Tb} {L:List Sp.Lv} {sets:List (Nm×Nat×Nd)} {c0:CS} {j:Nat} {rs:List (Nm×Nat×Nd)} {c:CS} (h:gG T t L sets c0 j rs c) (hj:j<sets.length) (hb:(decide (cellOf sets[j].1.1 t.cols<0)||((sets.map λx=>x.1.1).take j).any (λy=>y == sets[j].1.1))=false) :
  gG T t L sets c0 (j+1) (rs ++ [(sets[j].1,sets[j].2.1,(Sp.ck T sets[j].2.2 L 0 c).2.2)]) ((Sp.ck T sets[j].2.2 L 0 c).2.1.fit sets[j].2.1 [((t.cols[(cellOf sets[j].1.1 t.cols).toNat]?).map (·.2)).getD 0,(Sp.ck T sets[j].2.2 L 0 c).1.headD 0]).2:=by
 refine ⟨by simp [h.1],?_⟩
 rw [h.2,EZ T t L sets _ c j hj (by rw [Gs];exact hb),E0 sets j hj]
 simp
theorem gG.end_ {T:List Sp.Tb} {t:Sp.Tb} {L:List Sp.Lv} {sets:List (Nm×Nat×Nd)} {c0:CS} {j:Nat} {rs:List (Nm×Nat×Nd)} {c:CS} (h:gG T t L sets c0 j rs c) (hj:sets.length<=j):fQ T t L sets [] c0=(c,rs,true):=by
 rw [h.2,List.drop_eq_nil_of_le hj];simp [fQ]
end Go.Proofs.YtgnncnhkgmhngaaGreatDoor
namespace Go.Proofs.YtgnncnhkgmhngaaGreatDoor.Sp
def okS (N:Nat):vZ->Prop
 | .create _ cols=>cols.length<=7
 | .drop _=>True
 | .dR _ _ rows=>rows.length<=N/\∀ x∈rows,wf N x.2 .list/\x.2.len<=N/\x.2.dep<=N
 | .fA _ _ _=>False
 | .delete _ wh=>wf N wh .cl/\wh.dep<=N
 | .update _ sets wh=>sets.length<=N/\(∀ x∈sets,wf N x.2.2 .expr/\x.2.2.dep<=N)/\wf N wh .cl/\wh.dep<=N
 | .trans _=>True
 | .query q=>wf N q .query/\q.dep<=N
theorem rQ {s:Bs} (hp:parse s=(0,0)):s.length<=2000:=by
 unfold parse at hp
 split at hp
 ·simp at hp
 ·omega
end Go.Proofs.YtgnncnhkgmhngaaGreatDoor.Sp
namespace Go.Proofs.YtgnncnhkgmhngaaGreatDoor
open Sp
open Tryz
open Go.RowKit Go.Sort
def UQ (w:World) (v:Value) (V:List TV):Prop:=(V = []/\v = .slice none 0 0)\/∃ b off c,v = .slice (some ⟨b,off,none⟩) V.length c/\Lt w b off V
theorem Cv (fv:Value) (w:World):Calls prog 187 #[.slice none 0 0,fv] w λe w'=>e = .returned (.int .i64 (-1))/\w'=w:=by
 go_enter func187,ntmps187
 go_wp2
 go_loopw [8] (λi wr=>i = .int .i64 0/\wr=w) (λ_ _=>0)
 case atStart=>exact ⟨rfl,rfl⟩
 case round=>
  obtain ⟨rfl,rfl⟩:=hrel
  go_wp2_with fail
  go_ret
  exact ⟨rfl,rfl⟩
theorem KO (fv:Value) (w:World):Calls prog 143 #[.slice none 0 0,fv] w λe w'=>e = .returned (.slice none 0 0)/\w'=w:=by
 go_enter func143,ntmps143
 go_wp2_with fail
 refine (Cv _ _).mono ?_
 rintro e w1 ⟨rfl,rfl⟩
 go_wp2_with fail
 go_ret
 exact ⟨rfl,rfl⟩
theorem Cw {V:List TV} {v:Value} {x:ByteArray} {w:World} (h:UQ w v V) (hbig:V.length<=1000) :
  Calls prog 88 #[v, .string x] w λe w'=>∃ v',e = .returned v'/\DH w.heap.size w' v' (cQ x.toList V)/\RowKit.Below w.heap.size w w':=by
 have GA:=hid ((Gr.refl w).alloc (.cells #[.string x] 9))
 rcases h with ⟨rfl,rfl⟩ | ⟨b,off,c,rfl,hl⟩
 ·go_enter func88,ntmps88
  go_wp2_with fail
  refine (ET _).mono ?_
  rintro e w1 ⟨rfl,rfl⟩
  go_wp2_with fail
  refine (KO _ _).mono ?_
  rintro e w1 ⟨rfl,rfl⟩
  go_wp2_with fail
  go_ret
  exact ⟨_,rfl,DH.nil _ _,GA.out.below⟩
 ·have HC:=hid (EU (c:=c) (hl.gr GA.out) hbig)
  go_enter func88,ntmps88
  go_wp2_with fail
  refine HC.out.mono ?_
  rintro e w1 ⟨v1,rfl,⟨o1,hne⟩,b1⟩
  have hz1:w.heap.size+1<=w1.heap.size:=by have:=b1.size;simpa using this
  obtain ⟨g,cap,rfl,hgz⟩:∃ g cap,v1 = .slice (some ⟨g,0,none⟩) V.length cap/\w.heap.size+1<=g:=by
   obtain ⟨_,h | ⟨g',cap,cur,hv,h0,_⟩⟩:=o1
   ·exact absurd h.1 hne
   ·exact ⟨g',cap,hv,by simpa using h0⟩
  have cx:w1.cell? ⟨w.heap.size,0,none⟩=some (.string x):=(b1.cell (p:=⟨w.heap.size,0,none⟩) (by simp)).trans (by simp)
  have HB1:Hid (RowKit.Below w.heap.size w w1):=GA.out.below.trans (b1.mono GA.out.size)
  have HD:=hid (Ct o1 hbig (by omega) (by omega) cx)
  clear hne b1 o1 cx HC
  go_wp2_with fail
  refine HD.out.mono ?_
  rintro e w2 ⟨v2,rfl,⟨o2,rfl⟩,k2⟩
  have HO:Hid (DH w.heap.size w2 (.slice (some ⟨g,0,none⟩) (cQ x.toList V).length cap) (cQ x.toList V)):=by
   obtain ⟨h1,h | ⟨g',cap',cur,hv,h0,r⟩⟩:=o2
   ·cases h.1
   ·exact ⟨h1, .inr ⟨g',cap',cur,hv,by have:w.heap.size+1<=g':=(by simpa using h0);omega,r⟩⟩
  have HB2:Hid (RowKit.Below w.heap.size w w2):=⟨k2.os.trans HB1.out.os,k2.tape.trans HB1.out.tape,k2.output.trans HB1.out.output,cF HB1.out.size k2.size,λq hq=>(k2.block q (b6 hq HB1.out.size) (by omega)).trans (HB1.out.block q hq)⟩
  clear o2 k2 HD
  go_wp2_with fail
  go_ret
  exact ⟨_,rfl,HO.out,HB2.out⟩
theorem DH.sl {base:Nat} {w:World} {v:Value} {V:List TV} (h:DH base w v V):∃ a c,v = .slice a V.length c:=by
 obtain ⟨hl,h | ⟨g',cap,cur,hv,_⟩⟩:=h
 ·exact ⟨none,0,by rw [h.1,h.2]⟩
 ·exact ⟨_,_,hv⟩
theorem nL {w:World} {base base' size:Nat} {e:TypeId} {v:Value} {n:Nat} {xs:List Value} (h:w.ownsRow base e size v n xs) (hb:base'<=base):w.ownsRow base' e size v n xs:=by
 obtain ⟨h1,h | ⟨g,cap,cur,hv,h0,r⟩⟩:=h
 ·exact ⟨h1, .inl h⟩
 ·exact ⟨h1, .inr ⟨g,cap,cur,hv,by omega,r⟩⟩
theorem below_grown {w w1 w5:World} {n size k:Nat} {e:TypeId} {v:Value} {xs:List Value} (b:RowKit.Below n w w1) (g:w1.grownBy w5 v.ownBlock) (o:w1.ownsRow n e size v k xs) (hn:n<=w.heap.size):RowKit.Below n w w5:=
 ⟨g.os.trans b.os,g.tape.trans b.tape,g.output.trans b.output,cF b.size g.size,λq hq=>(g.block q (by have:=b.size;omega) (λee=>by have:=(aB o q ee.symm).1;omega)).trans (b.block q hq)⟩
theorem Cx (x:Sp.Bs) (V:List TV):(cQ x V).length<=V.length:=List.length_filter_le _ _
theorem rR {V:List TV} {v:Value} {t:TV} {w:World} (h:UQ w v V) (hbig:V.length<=900) :
  Calls prog 86 #[v,oW t] w λe w'=>∃ v',e = .returned v'/\DH w.heap.size w' v' (cQ t.name.toList V ++ [t])/\RowKit.Below w.heap.size w w':=by
 obtain ⟨i0,ji,fU,jz1,fV⟩:=info_parts Gq
 have HX:=hid (λ(W:World) (g:Gr w W)=>Cw (x:=t.name) (show UQ W v V by
  rcases h with h | ⟨b,off,c,e,hl⟩
  ·exact .inl h
  ·exact .inr ⟨b,off,c,e,hl.gr g⟩) (by omega))
 have hvs:∃ a n c,v = .slice a n c:=by
  rcases h with ⟨_,h⟩ | ⟨b,off,c,e,hl⟩
  ·exact ⟨_,_,_,h⟩
  ·exact ⟨_,_,_,e⟩
 obtain ⟨va,vn,vc,rfl⟩:=hvs
 clear h
 have ZC:=hid (Cx t.name.toList V)
 have HE:Hid (f9 (cQ t.name.toList V ++ [t])=f9 (cQ t.name.toList V) ++ [.string t.name,t.cv,t.rv]/\(cQ t.name.toList V ++ [t]).length=(cQ t.name.toList V).length+1):=⟨by rw [Cq];rfl,by simp⟩
 unfold DH at HX ⊢
 rw [HE.out.1,HE.out.2]
 generalize cQ t.name.toList V=U at *
 obtain ⟨tn,ca,cl,cc,ra,rl,rc⟩:=t
 simp only [TV.cv,TV.rv] at HX ⊢
 have XV:U.length<=900:=by have:=ZC.out;omega
 have GA:=hid (((Gr.refl w).alloc (.cells #[.string tn, .slice ca cl cc, .slice ra rl rc] 187)).drew)
 have GB:=hid ((((Gr.refl w).alloc (.cells #[.string tn, .slice ca cl cc, .slice ra rl rc] 187)).alloc (.cells #[.string tn, .slice ca cl cc, .slice ra rl rc] 187)).drew)
 have XW:=hid (HX.out _ GA.out)
 have XX:=hid (HX.out _ GB.out)
 clear HX
 generalize hA:(w.alloc (.cells #[.string tn, .slice ca cl cc, .slice ra rl rc] 187)).drew=WA at GA XW
 generalize hB:((w.alloc (.cells #[.string tn, .slice ca cl cc, .slice ra rl rc] 187)).alloc (.cells #[.string tn, .slice ca cl cc, .slice ra rl rc] 187)).drew=WB at GB XX
 subst hA hB
 have hone:∀ u∈([.string tn, .slice ca cl cc, .slice ra rl rc]:List Value),u.oneCell'=true:=by intro u hu;simp at hu;rcases hu with rfl | rfl | rfl <;> rfl
 have S3:=hid hone
 clear hone
 have nA:Hid (∀ j,((w.alloc (.cells #[.string tn, .slice ca cl cc, .slice ra rl rc] 187)).drew).cell? ⟨w.heap.size,j,none⟩=(#[.string tn, .slice ca cl cc, .slice ra rl rc]:Array Value)[j]?):=λj=>lU w _ _ j
 have nB:Hid (∀ j,(((w.alloc (.cells #[.string tn, .slice ca cl cc, .slice ra rl rc] 187)).alloc (.cells #[.string tn, .slice ca cl cc, .slice ra rl rc] 187)).drew).cell? ⟨w.heap.size,j,none⟩=(#[.string tn, .slice ca cl cc, .slice ra rl rc]:Array Value)[j]?):=λj=>(((Gr.refl (w.alloc (.cells #[.string tn, .slice ca cl cc, .slice ra rl rc] 187))).alloc _).cell (p:=⟨w.heap.size,j,none⟩) (by simp)).trans (lU w _ _ j)
 have nC:Hid (∀ j,(((w.alloc (.cells #[.string tn, .slice ca cl cc, .slice ra rl rc] 187)).alloc (.cells #[.string tn, .slice ca cl cc, .slice ra rl rc] 187)).drew).cell? ⟨w.heap.size+1,j,none⟩=(#[.string tn, .slice ca cl cc, .slice ra rl rc]:Array Value)[j]?):=λj=>by
  have h:=lU (w.alloc (.cells #[.string tn, .slice ca cl cc, .slice ra rl rc] 187)) #[.string tn, .slice ca cl cc, .slice ra rl rc] 187 j
  rw [World.size_alloc] at h
  exact h
 go_enter func86,ntmps86
 go_wp2_with fail
 go_region_law (first
  | (have _hx:=tI;refine step_append_lies _ (by rfl) _ _ _ (by rfl) w.heap.size 187 i0 (.agg #[.string ⟨#[]⟩, .slice none 0 0, .slice none 0 0]) 3 64 underlying113 ji fU jz1 fV rfl (by omega) v1 U.length (f9 U) (by rfl) tI ⟨w1.heap.size,0,none⟩ 1 1 [.string tn, .slice ca cl cc, .slice ra rl rc] (by rfl) (by rfl) (World.news_of_block (cs:=#[.string tn, .slice ca cl cc, .slice ra rl rc]) (t:=187) (fr:=(0,0)) (heap_alloc_new w1 _)) S3.out (by omega) (by unfold maxLen;omega) (by omega) (by simp;omega) (w1.heap.size+1) (by simp) ?_;intro g' iE w5 hown hgrow hat hlt';have hBl:=below_grown (wC.alloc tG _) hgrow tI (aF _))
  | (have _hx:=V2;refine step_append_lies _ (by rfl) _ _ _ (by rfl) w.heap.size 187 i0 (.agg #[.string ⟨#[]⟩, .slice none 0 0, .slice none 0 0]) 3 64 underlying113 ji fU jz1 fV rfl (by omega) v1 U.length (f9 U) (by rfl) V2 ⟨w.heap.size+1,0,none⟩ 1 1 [.string tn, .slice ca cl cc, .slice ra rl rc] (by rfl) (by rfl) ZD S3.out (by omega) (by unfold maxLen;omega) (by omega) (by omega) w1.heap.size rfl ?_;intro g' iE w5 hown hgrow hat hlt';have hBl:=below_grown ZE hgrow V2 (aF _))
  | (go_simp;go_at_call 88;refine XX.out.mono ?_;rintro e1 w1 ⟨v1,rfl,o1,b1⟩;have x0:=(b1.cell (p:=⟨w.heap.size,0,none⟩) (by simp <;> omega)).trans (nB.out 0);have x1:=(b1.cell (p:=⟨w.heap.size,1,none⟩) (by simp <;> omega)).trans (nB.out 1);have x2:=(b1.cell (p:=⟨w.heap.size,2,none⟩) (by simp <;> omega)).trans (nB.out 2);simp only [List.getElem?_toArray,List.getElem?_cons_zero,List.getElem?_cons_succ] at x0 x1 x2;have V2:w1.ownsRow w.heap.size 187 3 v1 U.length (f9 U):=nL o1 (by simp <;> omega);have ZD:(∀ j u,([.string tn, .slice ca cl cc, .slice ra rl rc]:List Value)[j]?=some u->w1.cell? ((⟨w.heap.size+1,0,none⟩:Addr).add j)=some u):=(λj u hj=>by rw [Addr.add_lit,Nat.zero_add];refine (b1.cell (p:=⟨w.heap.size+1,j,none⟩) (by simp)).trans ((nC.out j).trans ?_);simpa using hj);have x8:w.heap.size<=w1.heap.size:=cF GB.out.size b1.size;have ZE:RowKit.Below w.heap.size w w1:=GB.out.below.trans (b1.mono GB.out.size))
  | (go_simp;go_at_call 88;refine XW.out.mono ?_;rintro e1 w1 ⟨v1,rfl,o1,b1⟩;have x0:=(b1.cell (p:=⟨w.heap.size,0,none⟩) (by simp)).trans (nA.out 0);have x1:=(b1.cell (p:=⟨w.heap.size,1,none⟩) (by simp)).trans (nA.out 1);have x2:=(b1.cell (p:=⟨w.heap.size,2,none⟩) (by simp)).trans (nA.out 2);simp only [List.getElem?_toArray,List.getElem?_cons_zero,List.getElem?_cons_succ] at x0 x1 x2;have tI:(w1.alloc (.cells #[.string tn, .slice ca cl cc, .slice ra rl rc] 187)).ownsRow w.heap.size 187 3 v1 U.length (f9 U):=nL (aJ o1 ((Gr.refl w1).alloc _).below) (by simp);have tG:w.heap.size<=w1.heap.size:=cF GA.out.size b1.size;have wC:RowKit.Below w.heap.size w w1:=GA.out.below.trans (b1.mono GA.out.size)))
 all_goals
  have eT:=hid hown
  have jF:=hid hBl
  clear hown hgrow hat hBl x0 x1 x2 b1 o1 _hx
  go_wp2_with fail
  go_ret
  exact ⟨_,rfl,eT.out,jF.out⟩
end Go.Proofs.YtgnncnhkgmhngaaGreatDoor
