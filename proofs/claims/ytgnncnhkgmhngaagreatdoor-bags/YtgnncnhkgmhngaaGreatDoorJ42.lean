import Derived.Test.YtgnncnhkgmhngaaGreatDoorJ41
set_option maxHeartbeats 4000000
set_option maxRecDepth 100000
namespace Go.Proofs.YtgnncnhkgmhngaaGreatDoor
open Sp
open Go.RowKit Go.Sort
theorem Ah:∀ (rows:List (List Sv.Val)) (j:Nat) (h0:0<j) (hj:j<=rows.length),(∀ i,(h:i+1<j)->bP (rows[i+1]'(by omega)) (rows[i]'(by omega))≠0)->once rows=rows.take j++dR (rows[j - 1]'(by omega)) (rows.drop j)
 | [],_,h0,hj,_=>by simp at hj;omega
 | r::l,1,_,_,_=>rfl
 | r::s::l,j+2,_,hj,h=>by
  have h1:=Ah (s::l) (j+1) (by omega) (by simpa using hj) λi hi=>h (i+1) (by omega)
  have h2:bP s r≠0:=h 0 (by omega)
  simp only [once,dR,if_neg h2,List.take_succ_cons,List.cons_append,List.drop_succ_cons,Nat.add_sub_cancel] at h1 ⊢
  rw [h1]
  rfl
theorem oV {r s:List Sv.Val} {l:List (List Sv.Val)} (h:bP s r=0):dR r (s::l)=dR s l:=by rw [dR,if_pos h]
theorem xW {r s:List Sv.Val} {l:List (List Sv.Val)} (h:bP s r≠0):dR r (s::l)=s::dR s l:=by rw [dR,if_neg h]
theorem J5 {rows:List (List Sv.Val)} (h:rows.length<2):once rows=rows:=by
 match rows,h with
 | [],_=>rfl
 | [_],_=>rfl
theorem rD {x:List Sv.Val} : ∀ {l:List (List Sv.Val)} {r:List Sv.Val},x∈dR r l->x∈l
 | [],_,h=>by simp [dR] at h
 | s::l,r,h=>by
  rw [dR] at h
  split at h
  ·exact List.mem_cons_of_mem _ (rD h)
  ·rcases List.mem_cons.1 h with h | h
   ·rw [h];exact List.mem_cons_self
   ·exact List.mem_cons_of_mem _ (rD h)
theorem J6 {x:List Sv.Val} {rows:List (List Sv.Val)} (h:x∈once rows):x∈rows:=by
 cases rows with
 | nil=>simp [once] at h
 | cons r l=>
  rcases List.mem_cons.1 h with h | h
  ·rw [h];exact List.mem_cons_self
  ·exact List.mem_cons_of_mem _ (rD h)
theorem Fw {α:Type} {U xs:List α} {a b:Nat} (h:U.drop a=xs.drop a) (hab:a<=b):U.drop b=xs.drop b:=by
 have:=congrArg (List.drop (b - a)) h
 rwa [List.drop_drop,List.drop_drop,Nat.add_sub_cancel' hab] at this
def Cs (blk:Nat) (w:World) (U:List Value):Prop:=blk<w.heap.size/\∀ j,(h:j<U.length)->w.cell? ⟨blk,j,none⟩=some U[j]/\w.frozen? ⟨blk,j,none⟩=false
theorem Cs.bel {blk:Nat} {w w' : World} {U:List Value} (h:Cs blk w U) (g:RowKit.Below w.heap.size w w'):Cs blk w' U:=
 ⟨bY h.1 g.size,λj hj=>⟨(g.cell (p:=⟨blk,j,none⟩) h.1).trans (h.2 j hj).1,(wF (w:=w) (a:=⟨blk,j,none⟩) (g.block blk h.1)).trans (h.2 j hj).2⟩⟩
theorem Cs.take {blk:Nat} {w:World} {U:List Value} (h:Cs blk w U) (m:Nat):Cs blk w (U.take m):=
 ⟨h.1,λj hj=>by
  have hj' : j<U.length:=by rw [List.length_take] at hj;omega
  rw [List.getElem_take]
  exact h.2 j hj'⟩
theorem Cs.put {blk k:Nat} {w:World} {U:List Value} (h:Cs blk w U) (u:Value):Cs blk (w.setCell ⟨blk,k,none⟩ u) (U.set k u):=by
 refine ⟨by simpa [World.setCell] using h.1,λj hj=>?_⟩
 have hj' : j<U.length:=by simpa using hj
 obtain ⟨h1,h2⟩:=h.2 j hj'
 by_cases e:k=j
 ·subst e
  refine ⟨?_,?_⟩
  ·rw [List.getElem_set_self]
   exact World.cell?_setCell_same _ _ _ (by rw [h1])
  ·rw [World.frozen?_setCell];exact h2
 ·refine ⟨?_,?_⟩
  ·rw [List.getElem_set_ne e]
   rw [World.cell?_setCell_other _ _ _ _ (by intro x;injection x with _ x;exact e x)]
   exact h1
  ·rw [World.frozen?_setCell];exact h2
theorem Cs.puts {blk:Nat} {U:List Value} : ∀ (vs:List Value) (o:Nat) (w:World),Cs blk w U->U.length<=o->Cs blk (w.setCells blk o vs) U
 | [],_,_,h,_=>h
 | v::r,o,w,h,ho=>by
  have h1:=h.put (k:=o) v
  rw [List.set_eq_of_length_le ho] at h1
  exact Cs.puts r (o+1) _ h1 (by omega)
theorem RL.cs {blk k:Nat} {w:World} {rows:List (List Sv.Val)} (hb:blk<w.heap.size) (h:RL blk 0 k w rows):∃ xs,Cs blk w xs/\Al (Fp blk w) xs rows/\∀ r∈rows,r.length=k:=by
 refine ⟨List.ofFn (n:=rows.length) λj=>Classical.choose (h j.1 j.2),⟨hb,λi hi=>?_⟩,Al.of (by simp) λi h4 h5=>?_,λr hr=>?_⟩
 ·simp only [List.getElem_ofFn]
  have hc:=Classical.choose_spec (h i (by simpa using hi))
  generalize Classical.choose (h i (by simpa using hi))=u at hc
  rw [Nat.zero_add] at hc
  exact ⟨hc.1,hc.2.1⟩
 ·simp only [List.getElem_ofFn]
  exact (Classical.choose_spec (h i h5)).2.2.1
 ·obtain ⟨i,hi,rfl⟩:=List.mem_iff_getElem.1 hr
  exact (h i hi).choose_spec.2.2.2
theorem RL.Ni {blk k:Nat} {w w' : World} {U:List Value} {rows:List (List Sv.Val)} (h:Cs blk w' U) (ha:Al (Fp blk w) U rows) (g:Kept blk w w') (hk:∀ r∈rows,r.length=k):RL blk 0 k w' rows:=λj hj=>by
 have hl:=ha.len
 have hj' : j<U.length:=by omega
 rw [Nat.zero_add]
 exact ⟨U[j],(h.2 j hj').1,(h.2 j hj').2,(ha.get j hj' hj).kept g,hk _ (jD hj)⟩
theorem Fp.sl {blk:Nat} {w:World} {v:Value} {r:List Sv.Val} (h:Fp blk w v r):∃ a l c,v = .slice a l c:=by
 rcases h with h | ⟨b,o,c,e,_⟩
 ·exact ⟨_,_,_,h.1⟩
 ·exact ⟨_,_,_,e⟩
theorem Al.take {α β:Type} {R:α->β->Prop} : ∀ {l:List α} {m:List β} (n:Nat),Al R l m->Al R (l.take n) (m.take n)
 | _,_,0,_=>by simp [Al]
 | [], [],_+1,_=>trivial
 | _::_,_::_,n+1,h=>⟨h.1,h.2.take n⟩
 | [],_::_,_+1,h=>h.elim
 | _::_, [],_+1,h=>h.elim
theorem El {P:Program} (w:World) (t e ty:TypeId) (z:Value) (ht:P.underlying t=some (.slice e)) (hv:∀ w,(zeroValue e).run P w = .ok z w) (b o n c:Nat) (hn:0<n) (h1:∀ u∈(Builtin.zeroCells z.cells n).toList,u.oneCell'=true) (hz:z.cells.size=1)
  (hc:∀ j,j<n->(w.cell? ⟨b,o+j,none⟩).isSome=true) (hf:∀ j,j<n->w.frozen? ⟨b,o+j,none⟩=false) :
  (Builtin.clear_ #[t] ty #[.slice (some ⟨b,o,none⟩) n c]).run P w = .ok (.tuple #[]) (w.setCells b o (Builtin.zeroCells z.cells n).toList):=by
 have hl:(Builtin.zeroCells z.cells n).toList.length=n:=by simp [Builtin.zeroCells,hz]
 have hst:=run_storeCells_cells (P:=P) b o (Builtin.zeroCells z.cells n).toList 0 w (by rw [hl];simpa using hc) (by rw [hl];simpa using hf) h1
 simp only [Nat.add_zero] at hst
 obtain ⟨m,rfl⟩:∃ m,n=m+1:=⟨n - 1,by omega⟩
 simp [Builtin.clear_,run_underlying ht,hv,hst]
theorem Cs.up {blk o:Nat} {w w' : World} (hb:blk<w.heap.size) (g:RowKit.Below w.heap.size w w'):w'.cell? ⟨blk,o,none⟩=w.cell? ⟨blk,o,none⟩:=g.cell (p:=⟨blk,o,none⟩) hb
theorem xX {blk o:Nat} : ∀ (vs:List Value) (a:Nat) (w:World),a+vs.length<=o->(w.setCells blk a vs).cell? ⟨blk,o,none⟩=w.cell? ⟨blk,o,none⟩
 | [],_,_,_=>rfl
 | v::r,a,w,h=>by
  have h' : a+(r.length+1)<=o:=h
  refine (xX r (a+1) _ (by omega)).trans ?_
  exact World.cell?_setCell_other _ _ _ _ (by intro x;injection x with _ x;omega)
theorem Ck {blk n cap k:Nat} {rows:List (List Sv.Val)} {w:World} (hb:blk<w.heap.size) (hR:RL blk 0 k w rows) (hn:n=rows.length) (hc:n<=cap) (hbig:n<=100000) (hk:k<=100000) :
  Calls Tryz.prog 240 #[.slice (some ⟨blk,0,none⟩) n cap, .func (.func 241) #[] #[]] w λe w'=>∃ v,e = .returned v/\(v = .slice (some ⟨blk,0,none⟩) (once rows).length cap/\RL blk 0 k w' (once rows)/\∀ o,n<=o->w'.cell? ⟨blk,o,none⟩=w.cell? ⟨blk,o,none⟩)/\Kept blk w w':=by
 obtain ⟨xs,hxs,hal,hwk⟩:=hR.cs hb
 have HX:=hid hxs
 have HA:=hid hal
 have HW:=hid hwk
 have YO:=hid hR
 have HN:=hid hn
 have hlx:xs.length=n:=by rw [hn];exact hal.len
 have Wl:Hid (∀ i j,(hi:i<xs.length)->(hj:j<xs.length)->(hi' : i<rows.length)->(hj' : j<rows.length)->∀ W,Kept blk w W->Calls Tryz.prog 241 #[xs[i],xs[j]] W λe W'=>e = .returned (.bool (decide (bP rows[i] rows[j]=0)))/\Gr W W'):=
  λi j hi hj hi' hj' W g=>Hh _ _ _ _ ((hwk _ (jD hi')).trans (hwk _ (jD hj')).symm) (by rw [hwk _ (jD hi')];exact hk) W ((hal.get i hi hi').kept g).rw ((hal.get j hj hj').kept g).rw
 clear hxs hal hwk hR
 by_cases h2:n<2
 ·go_enter Tryz.func240,Tryz.ntmps240
  go_wp2_with fail
  go_ret
  have:=J5 (rows:=rows) (by have:=HN.out;omega)
  exact ⟨_,rfl,⟨by rw [this,<- HN.out];rfl,by rw [this];exact YO.out,λ_ _=>rfl⟩,Kept.refl _ _⟩
 clear hn
 go_enter Tryz.func240,Tryz.ntmps240
 go_wp2_with fail
 go_loopw [5] (λv wr=>∃ i:Nat,i+1<=n/\v = .int .i64 ((i+1:Nat):Int)/\Hid (∀ q,(h:q+1<rows.length)->q+1<i+1->bP rows[q+1] rows[q]≠0)/\Hid (Gr w wr)) (λv _=>n - (intOf v).toNat)
 case atStart=>exact ⟨0,by omega,rfl,λq _ h=>by omega,Gr.refl _⟩
 case round=>
  obtain ⟨i,hi,rfl,HD,HG⟩:=hrel
  by_cases hlt:i+1<n
  ·have hi1:i+1<xs.length:=by omega
   have hi0:i<xs.length:=by omega
   have hr1:i+1<rows.length:=by rw [<- HN.out];exact hlt
   have hr0:i<rows.length:=by omega
   have qD:=hid (Wl.out (i+1) i hi1 hi0 hr1 hr0)
   have c1:=(HG.out.cell (p:=⟨blk,i+1,none⟩) hb).trans (HX.out.2 (i+1) hi1).1
   have c0:=(HG.out.cell (p:=⟨blk,i,none⟩) hb).trans (HX.out.2 i hi0).1
   obtain ⟨a1,l1,k1,e1⟩:=(HA.out.get (i+1) hi1 hr1).sl
   obtain ⟨a0,l0,k0,e0⟩:=(HA.out.get i hi0 hr0).sl
   rw [e1,e0] at qD
   rw [e1] at c1
   rw [e0] at c0
   clear e1 e0
   obtain ⟨z,hz⟩:∃ z,z=decide (bP rows[i+1] rows[i]=0):=⟨_,rfl⟩
   rw [<- hz] at qD
   have HZ:=hid hz
   clear hz
   have HK:=hid (Kept.gr (b:=blk) HG.out.drew)
   have hI1:(i:Int)+1<(n:Int):=by omega
   have hI0:(0:Int)<=(i:Int)+1:=by omega
   have hI2:(i:Int)<(n:Int):=by omega
   have ZX:i<n:=by omega
   have ZY:(((i:Int)+1).toNat)=i+1:=by omega
   have hW:IntKind.i64.wrap (i:Int)=(i:Int):=by rw [IntKind.wrap_i64];omega
   have ZZ:(i:Int)+1<=(cap:Int):=by omega
   have Z0:cap≠i+1:=by omega
   go_wp2_with fail
   go_region_held3 (λw'=>w'.cell? ⟨blk,i+1,none⟩=some (.slice a1 l1 k1)/\w'.cell? ⟨blk,i,none⟩=some (.slice a0 l0 k0)) (first | go_keep | exact ⟨c1,c0⟩ | exact ⟨d1,d0⟩) (first | (go_at_call 241;refine (qD.out _ HK.out).mono ?_;rintro e w2 ⟨rfl,g2⟩;have G2:=hid (HG.out.drew.trans g2);have d1:=(g2.cell (p:=⟨blk,i+1,none⟩) (bY hb HG.out.size)).trans c1;have d0:=(g2.cell (p:=⟨blk,i,none⟩) (bY hb HG.out.size)).trans c0))
   clear g2 d1 d0 c1 c0 HG HK qD
   cases z
   ·have HD2:Hid (∀ q,(h:q+1<rows.length)->q+1<i+1+1->bP rows[q+1] rows[q]≠0):=λq h hq=>by
     by_cases e:q=i
     ·subst e
      have:=HZ.out
      simpa using this.symm
     ·exact HD.out q h (by omega)
    go_wp2_with fail
    go_roundw
    case rel=>exact ⟨i+1,by omega,by go_num,HD2,G2⟩
    case measure=>simp [intOf];omega
   ·have HE:Hid (bP rows[i+1] rows[i]=0):=by
     show _=_
     have:=HZ.out
     simpa using this.symm
    clear HZ
    go_wp2_with fail
    go_loopw [5,7] (λv u wr=>∃ (p q:Nat) (U:List Value) (R:List (List Sv.Val)),i+1+(q+1)<=n/\i+1<=p/\p<=i+1+q/\v = .int .i64 (p:Nat)/\u = .int .i64 ((q+1:Nat):Int)/\Hid (U.length=n/\U.drop (i+1+q)=xs.drop (i+1+q)/\Al (Fp blk w) (U.take p) R/\∃ h:i+1+q<rows.length,once rows=R++dR rows[i+1+q] (rows.drop (i+1+q+1)))/\Hid (Cs blk wr U)/\Hid (∀ o,n<=o->wr.cell? ⟨blk,o,none⟩=w.cell? ⟨blk,o,none⟩)/\Hid (Kept blk w wr)) (λ_ u _=>n - (intOf u).toNat)
    case atStart=>
     refine ⟨i+1,0,xs,rows.take (i+1),by omega,aF _,aF _,by go_num,rfl,⟨hlx,rfl,HA.out.take _,hr1,?_⟩,HX.out.bel G2.out.below,λo _=>G2.out.cell (p:=⟨blk,o,none⟩) hb,Kept.gr G2.out⟩
     have h1:=Ah rows (i+1) (by omega) (by omega) λq h=>HD.out q (by omega) (by omega)
     rw [h1,nS hr1]
     congr 1
     exact oV HE.out
    case round=>
     obtain ⟨p,q,U,R,hq,hp1,hp2,rfl,rfl,HU,HC,HT,fY⟩:=hrel
     by_cases hlq:i+1+(q+1)<n
     ·have hx1:i+1+(q+1)<xs.length:=by omega
      have hx0:i+1+q<xs.length:=by omega
      have hn1:i+1+(q+1)<rows.length:=by rw [<- HN.out];exact hlq
      have hn0:i+1+q<rows.length:=by omega
      have qD:=hid (Wl.out (i+1+(q+1)) (i+1+q) hx1 hx0 hn1 hn0)
      obtain ⟨a1',Pr,k1',e1⟩:=(HA.out.get _ hx1 hn1).sl
      obtain ⟨a0',Wm,k0',e0⟩:=(HA.out.get _ hx0 hn0).sl
      have Uw:∀ d,(h:i+1+q+d<xs.length)->(h' : i+1+q+d<U.length)->U[i+1+q+d]=xs[i+1+q+d]:=λd h h'=>by
       have h1:(U.drop (i+1+q))[d]?=(xs.drop (i+1+q))[d]?:=by rw [HU.out.2.1]
       rw [List.getElem?_drop,List.getElem?_drop,rI h,rI h'] at h1
       exact Option.some.inj h1
      have SK:=HU.out.1
      have c1:wr.cell? ⟨blk,i+1+(q+1),none⟩=some (.slice a1' Pr k1'):=(HC.out.2 (i+1+(q+1)) (by omega)).1.trans (by rw [<- e1];exact congrArg some (Uw 1 (by omega) (by omega)))
      have c0:wr.cell? ⟨blk,i+1+q,none⟩=some (.slice a0' Wm k0'):=(HC.out.2 (i+1+q) (by omega)).1.trans (by rw [<- e0];exact congrArg some (Uw 0 (by omega) (by omega)))
      have Wn:=hid (HA.out.get _ hx1 hn1)
      rw [e1,e0] at qD
      rw [e1] at Wn
      clear e1 e0 Uw
      obtain ⟨z,hz⟩:∃ z,z=decide (bP rows[i+1+(q+1)] rows[i+1+q]=0):=⟨_,rfl⟩
      rw [<- hz] at qD
      have HZ:=hid hz
      clear hz
      have HK:=hid (Kept.drew fY.out)
      have hJ1:(q:Int)+1<((n - (i+1):Nat):Int):=by omega
      have hJ0:(0:Int)<=(q:Int)+1:=by omega
      have hJ2:(q:Int)<((n - (i+1):Nat):Int):=by omega
      have hJ3:q<n - (i+1):=by omega
      have Z3:(((q:Int)+1).toNat)=q+1:=by omega
      have Z5:IntKind.i64.wrap (q:Int)=(q:Int):=by rw [IntKind.wrap_i64];omega
      have hP0:(p:Int)<(n:Int):=by omega
      have hP1:p<n:=by omega
      have hbr:=HC.out.1
      have f0:=(HC.out.2 p (by omega)).2
      have s0:=(HC.out.2 p (by omega)).1
      obtain ⟨o,ho⟩:∃ o,o=U[p]'(by omega):=⟨_,rfl⟩
      rw [<- ho] at s0
      clear ho
      go_wp2_with fail
      go_region_held3 (λw'=>w'.cell? ⟨blk,i+1+(q+1),none⟩=some (.slice a1' Pr k1')/\w'.cell? ⟨blk,i+1+q,none⟩=some (.slice a0' Wm k0')) (first | go_keep | exact ⟨c1,c0⟩ | exact ⟨d1,d0⟩) (first | (go_at_call 241;refine (qD.out _ HK.out).mono ?_;rintro e w3 ⟨rfl,g3⟩;have G3:=hid ((Gr.refl wr).drew.trans g3);have d1:=(g3.cell (p:=⟨blk,i+1+(q+1),none⟩) hbr).trans c1;have d0:=(g3.cell (p:=⟨blk,i+1+q,none⟩) hbr).trans c0))
      have f1:=(G3.out.frozen (p:=⟨blk,p,none⟩) hbr).trans f0
      have s1:=(G3.out.cell (p:=⟨blk,p,none⟩) hbr).trans s0
      have zA:Hid (Cs blk w3 U):=HC.out.bel G3.out.below
      have HT3:Hid (∀ o,n<=o->w3.cell? ⟨blk,o,none⟩=w.cell? ⟨blk,o,none⟩):=λo h=>(G3.out.cell (p:=⟨blk,o,none⟩) hbr).trans (HT.out o h)
      have bH:Hid (Kept blk w w3):=fY.out.trans (Kept.gr G3.out)
      clear g3 d0 c1 c0 HK qD f0 s0
      obtain ⟨_,hdr,Cn,hlen',hon⟩:=HU.out
      rw [show i+1+q+1=i+1+(q+1) by omega,nS hn1] at hon
      cases z
      ·have hne:bP rows[i+1+(q+1)] rows[i+1+q]≠0:=by have:=HZ.out;simpa using this.symm
       rw [xW hne] at hon
       have Ux:Hid ((U.set p (.slice a1' Pr k1')).length=n/\(U.set p (.slice a1' Pr k1')).drop (i+1+(q+1))=xs.drop (i+1+(q+1))/\Al (Fp blk w) ((U.set p (.slice a1' Pr k1')).take (p+1)) (R ++ [rows[i+1+(q+1)]])/\∃ h:i+1+(q+1)<rows.length,once rows=(R ++ [rows[i+1+(q+1)]])++dR rows[i+1+(q+1)] (rows.drop (i+1+(q+1)+1))):=by
        refine ⟨by simpa using SK,?_,?_,hn1,?_⟩
        ·rw [List.drop_set_of_lt (by omega)];exact Fw hdr (by omega)
        ·rw [uV (by simp;omega),List.getElem_set_self,List.take_set_of_le (aF _)]
         exact Cn.app ⟨Wn.out,trivial⟩
        ·rw [hon];simp
       clear hon Cn hdr hne HU HZ
       go_wp2_with fail
       go_roundw
       case rel=>exact ⟨p+1,q+1,U.set p (.slice a1' Pr k1'),R ++ [rows[i+1+(q+1)]],by omega,by omega,by omega,by go_num,by go_num,Ux,zA.out.put _,λo ho=>(World.cell?_setCell_other _ _ _ _ (by intro x;injection x with _ x;omega)).trans (HT3.out o ho),bH.out.setCell _ _⟩
       case measure=>simp [intOf];omega
      ·have hne:bP rows[i+1+(q+1)] rows[i+1+q]=0:=by have:=HZ.out;simpa using this.symm
       rw [oV hne] at hon
       have Ux:Hid (U.length=n/\U.drop (i+1+(q+1))=xs.drop (i+1+(q+1))/\Al (Fp blk w) (U.take p) R/\∃ h:i+1+(q+1)<rows.length,once rows=R++dR rows[i+1+(q+1)] (rows.drop (i+1+(q+1)+1))):=
        ⟨SK,Fw hdr (by omega),Cn,hn1,hon⟩
       clear hon Cn hdr hne HU HZ
       go_wp2_with fail
       go_roundw
       case rel=>exact ⟨p,q+1,U,R,by omega,by omega,by omega,rfl,by go_num,Ux,zA,HT3,bH⟩
       case measure=>simp [intOf];omega
     ·have Z6:i+1+(q+1)=n:=by omega
      obtain ⟨SK,_,Cn,hlen',hon⟩:=HU.out
      rw [Aw (by have:=HN.out;omega)] at hon
      have HF:Hid (once rows=R):=by show _=_;rw [hon];simp [dR]
      have hRl:R.length=p:=by rw [<- Cn.len,List.length_take];omega
      have YP:=hid Cn
      clear hon Cn
      have hzv:∀ w' : World,(zeroValue 41).run Tryz.prog w' = .ok (.slice none 0 0) w':=λw'=>by go_simp
      have hsm:∀ d,d<n - p->(wr.cell? ⟨blk,p+d,none⟩).isSome=true/\wr.frozen? ⟨blk,p+d,none⟩=false:=λd hd=>⟨by rw [(HC.out.2 (p+d) (by omega)).1];rfl,(HC.out.2 (p+d) (by omega)).2⟩
      have hcl:=λty=>El (P:=Tryz.prog) wr 32 41 ty (.slice none 0 0) Tryz.underlying32 hzv blk p (n - p) (cap - p) (by omega) (λu hu=>by simp only [Builtin.zeroCells,Array.toList_map,List.mem_map] at hu;obtain ⟨d,_,rfl⟩:=hu;simp [Value.cells,Nat.mod_one];rfl) rfl (λd hd=>(hsm d hd).1) (λd hd=>(hsm d hd).2)
      clear hzv
      have hzl:(Builtin.zeroCells (Value.slice none 0 0).cells (n - p)).toList.length=n - p:=by simp [Builtin.zeroCells,Value.cells]
      generalize (Builtin.zeroCells (Value.slice none 0 0).cells (n - p)).toList=Z at hcl hzl
      have jG:Hid (Cs blk (wr.setCells blk p Z) (U.take p)):=Cs.puts Z p wr (HC.out.take p) (by rw [List.length_take];omega)
      have bH:Hid (Kept blk w (wr.setCells blk p Z)):=fY.out.trans (q9 blk Z p wr)
      have HT3:Hid (∀ o,n<=o->(wr.setCells blk p Z).cell? ⟨blk,o,none⟩=w.cell? ⟨blk,o,none⟩):=λo ho=>(xX Z p wr (by omega)).trans (HT.out o ho)
      generalize hwz:wr.setCells blk p Z=wz at hcl jG bH HT3
      clear hwz hsm
      have hP0:(p:Int)<(n:Int):=by omega
      have hP1:p<n:=by omega
      have hP2:(p:Int)<=(cap:Int):=by omega
      have hP3:cap≠p:=by omega
      go_wp2_with fail
      go_ret
      refine ⟨_,rfl,⟨?_,?_,HT3.out⟩,bH.out⟩
      ·rw [HF.out,hRl];rfl
      ·rw [HF.out];exact RL.Ni jG.out YP.out bH.out λr hr=>HW.out r (J6 (by rw [HF.out];exact hr))
  ·obtain rfl:i+1=n:=by omega
   have HF:Hid (once rows=rows):=by
    have h1:=Ah rows (i+1) (by omega) (by have:=HN.out;omega) λq h=>HD.out q (by have:=HN.out;omega) (by omega)
    show _=_
    rw [h1,sD (by have:=HN.out;omega),Aw (by have:=HN.out;omega)]
    simp [dR]
   go_wp2_with fail
   go_ret
   exact ⟨_,rfl,⟨by rw [HF.out,<- HN.out];rfl,by rw [HF.out];exact RL.Ni (HX.out.bel HG.out.below) HA.out (Kept.gr HG.out) HW.out,λo _=>HG.out.cell (p:=⟨blk,o,none⟩) hb⟩,Kept.gr HG.out⟩
theorem xY:∀ (l:List (List Sv.Val)) (r:List Sv.Val),(dR r l).length<=l.length
 | [],_=>aF _
 | s::l,r=>by
  have:=xY l s
  rw [dR]
  split <;> simp only [List.length_cons] <;> omega
theorem iJ (rows:List (List Sv.Val)):(once rows).length<=rows.length:=by
 cases rows with
 | nil=>exact aF _
 | cons r l=>have:=xY l r;simp only [once,List.length_cons];omega
theorem Co (w:World):Calls Tryz.prog 240 #[.slice none 0 0, .func (.func 241) #[] #[]] w λe w'=>e = .returned (.slice none 0 0)/\Gr w w':=by
 go_enter Tryz.func240,Tryz.ntmps240
 go_wp2_with fail
 go_ret
 exact ⟨rfl,Gr.refl _⟩
theorem xZ {a:Option Addr} {n c:Nat} {w:World} {P:Value->World->Prop} (hC:Calls Tryz.prog 240 #[.slice a n c, .func (.func 241) #[] #[]] w λe w'=>∃ v,e = .returned v/\P v w') :
  Calls Tryz.prog 199 #[.slice a n c] w λe w'=>∃ v,e = .returned v/\P v w':=by
 have HC:=hid hC
 clear hC
 go_enter Tryz.func199,Tryz.ntmps199
 go_wp2_with fail
 refine HC.out.mono ?_
 rintro e w1 ⟨v,rfl,h⟩
 have H:=hid h
 clear h
 go_wp2_with fail
 exact cL (v:=v) (by simp [results,Tryz.results199,go_sem]) rfl ⟨v,rfl,H.out⟩
structure Ko (v:Value) (w w' : World):Prop where
 os:w'.os=w.os
 tape:w'.tape=w.tape
 output:w'.output=w.output
 size:w.heap.size<=w'.heap.size
 block:∀ j,j<w.heap.size->v.ownBlock≠some j->w'.heap[j]?=w.heap[j]?
 cell:∀ j o u,j<w.heap.size->w.cell? ⟨j,o,none⟩=some u->(∀ a l c,u ≠ .slice a l c)->w'.cell? ⟨j,o,none⟩=some u
theorem Ko.dZ {w w' : World} (v:Value) (g:Gr w w'):Ko v w w':=⟨g.below.os,g.below.tape,g.below.output,g.size,λj hj _=>g.below.block j hj,λj o _ hj h _=>(g.cell (p:=⟨j,o,none⟩) hj).trans h⟩
theorem Ko.hv {v:Value} {w w' : World} (h:Ko v w w') {b off:Nat} {r:List Sv.Val} (hv:Hv w b off r):Hv w' b off r:=
 ⟨bY hv.lb h.size,λj hj=>h.cell _ _ _ hv.lb (hv.k j hj) (λ_ _ _ e=>by cases e),λj hj=>h.cell _ _ _ hv.lb (hv.n j hj) (λ_ _ _ e=>by cases e),λj hj=>h.cell _ _ _ hv.lb (hv.s j hj) (λ_ _ _ e=>by cases e)⟩
theorem Ko.Wo {v u:Value} {w w' : World} (h:Ko v w w') {base k:Nat} {rows:List (List Sv.Val)} (hr:dS base k w u rows) (hne:∀ b,u.ownBlock=some b->v.ownBlock≠some b):dS base k w' u rows:=by
 rcases hr with h1 | ⟨blk,c,e,h1,h2,hr⟩
 ·exact .inl h1
 ·have eb:=h.block blk h2 (hne blk (by rw [e];rfl))
  refine .inr ⟨blk,c,e,h1,bY h2 h.size,λj hj=>?_⟩
  obtain ⟨u,p1,p2,p3,p4⟩:=hr j hj
  refine ⟨u,(fB (w:=w) (a:=⟨blk,0+j,none⟩) eb).trans p1,(wF (w:=w) (a:=⟨blk,0+j,none⟩) eb).trans p2,?_,p4⟩
  rcases p3 with p3 | ⟨b,o,c,e,hne,hv⟩
  ·exact .inl p3
  ·exact .inr ⟨b,o,c,e,hne,h.hv hv⟩
theorem Ko.below {v:Value} {w w' : World} {m:Nat} (h:Ko v w w') (hm:m<=w.heap.size) (hv:∀ b,v.ownBlock=some b->m<=b):RowKit.Below m w w':=
 ⟨h.os,h.tape,h.output,h.size,λj hj=>h.block j (by omega) λe=>by have:=hv j e;omega⟩
theorem dS.own {base k:Nat} {w:World} {v:Value} {rows:List (List Sv.Val)} (h:dS base k w v rows):∀ b,v.ownBlock=some b->base<=b/\b<w.heap.size:=by
 intro b e
 rcases h with ⟨_,h⟩ | ⟨blk,c,h,h1,h2,_⟩
 ·rw [h] at e;cases e
 ·rw [h] at e
  have:blk=b:=by simpa [Value.ownBlock] using e
  omega
theorem uK {base k:Nat} {v:Value} {rows:List (List Sv.Val)} {w:World} (h:dS base k w v rows) (hbig:rows.length<=100000) (hk:k<=100000) :
  Calls Tryz.prog 199 #[v] w λe w'=>∃ v',e = .returned v'/\(dS base k w' v' (once rows)/\v'.ownBlock=v.ownBlock)/\Ko v w w':=by
 rcases h with ⟨rfl,rfl⟩ | ⟨blk,c,rfl,h1,h2,hr⟩
 ·refine (xZ (P:=λv' w'=>v' = .slice none 0 0/\Gr w w') ((Co w).mono λe w' h=>⟨_,h.1,rfl,h.2⟩)).mono ?_
  rintro e w' ⟨v',rfl,rfl,g⟩
  exact ⟨_,rfl,⟨.inl ⟨rfl,rfl⟩,rfl⟩,Ko.dZ _ g⟩
 ·refine (xZ (Ck h2 hr rfl (Nat.le_add_right _ c) hbig hk)).mono ?_
  rintro e w' ⟨v',rfl,⟨rfl,hr',hup⟩,kp⟩
  have hol:(once rows).length<=rows.length:=iJ rows
  refine ⟨_,rfl,⟨.inr ⟨blk,rows.length+c - (once rows).length,by rw [Nat.add_sub_cancel' (by omega)],h1,bY h2 kp.size,hr'⟩,rfl⟩,kp.os,kp.tape,kp.output,kp.size,λj hj hne=>kp.block j hj (λe=>hne (by rw [e];rfl)),λj o u hj hu hns=>?_⟩
  by_cases e:j=blk
  ·subst e
   rcases Nat.lt_or_ge o rows.length with ho | ho
   ·obtain ⟨x,p1,_,p3,_⟩:=hr o ho
    rw [Nat.zero_add] at p1
    rw [p1] at hu
    injection hu with hu
    subst hu
    obtain ⟨a,l,c,e⟩:=p3.sl
    exact absurd e (hns a l c)
   ·exact (hup o ho).trans hu
  ·exact (kp.cell (p:=⟨j,o,none⟩) hj e).trans hu
end Go.Proofs.YtgnncnhkgmhngaaGreatDoor
