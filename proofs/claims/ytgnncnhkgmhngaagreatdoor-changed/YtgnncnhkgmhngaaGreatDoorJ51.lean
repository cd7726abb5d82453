import Derived.Test.YtgnncnhkgmhngaaGreatDoorJ49
set_option maxHeartbeats 4000000
set_option maxRecDepth 100000
namespace Go.Proofs.YtgnncnhkgmhngaaGreatDoor
open Sp
open Tryz
open Go.RowKit Go.Sort
attribute [local go_sem] Oper.semAt_some
def FD (hd:Row->Bool) (ch:Row->Row) (w:World) (x:List Value):Row:=if hd (dZ w.heap.size w (x.headD undef)) then ch (dZ w.heap.size w (x.headD undef)) else dZ w.heap.size w (x.headD undef)
def Ds (hd:Row->Bool) (w:World) (x:List Value):Bool:=hd (dZ w.heap.size w (x.headD undef))
def QS (C:Nat->Prop) (hd:Row->Bool) (ch:Row->Row) (w W:World) (pre:List (List Value)) (A:World):Prop:=
 eV (λb=>(C b/\b<w.heap.size)\/W.heap.size+7<=b) W (W.heap.size+7) W.heap.size (pre.map (FD hd ch w)) A/\Boxed A (W.heap.size+1) 3 (.int .i64 ((pre.filter (Ds hd w)).length:Nat))
theorem LY (hd:Row->Bool) (ch:Row->Row) (w:World) (xs:List Value):(xs.map λv => [v]).map (FD hd ch w)=(xs.map (dZ w.heap.size w)).map λr=>if hd r then ch r else r:=by
 simp only [List.map_map]
 rfl
theorem LZ (hd:Row->Bool) (w:World) (xs:List Value):((xs.map λv => [v]).filter (Ds hd w)).length=((xs.map (dZ w.heap.size w)).filter hd).length:=by
 simp only [List.filter_map,List.length_map]
 rfl
theorem eV.other {D:Nat->Prop} {w A:World} {N Br k:Nat} {rows:List (List Sv.Val)} {u:Value} (h:eV D w N Br rows A) (hk:k≠Br) (hw:w.heap.size<=k) (hN:k<N) (hD:∀ b,D b->b≠k):eV D w N Br rows (A.setCell ⟨k,0,none⟩ u):=by
 obtain ⟨⟨v,xs,b1,o1,a1⟩,sz,bl⟩:=h
 have hs:∀ j,j≠k->(A.setCell ⟨k,0,none⟩ u).heap[j]?=A.heap[j]?:=λj hj=>c6 _ _ _ _ hj
 have hz:(A.setCell ⟨k,0,none⟩ u).heap.size=A.heap.size:=by simp [World.setCell]
 refine ⟨⟨v,xs,(hs Br (λe=>hk e.symm)).trans b1,?_,a1.mono λa r hr=>hr.blk (by omega) λb hb _=>hs b (hD b hb.1)⟩,by omega,bl.setCell hw _⟩
 have hblk:=aB o1
 obtain ⟨hl,h | ⟨g,cap,cur,hv,h0,hc,r⟩⟩:=o1
 ·exact ⟨hl, .inl h⟩
 ·subst hv
  exact ⟨hl, .inr ⟨g,cap,cur,rfl,h0,(hs g (by omega)).trans hc,r⟩⟩
theorem FE (n:Nat) (hn:6<=n) {C:Nat->Prop} {T:List Sp.Tb} {t:Sp.Tb} {q:Nat} {nm:Nm} {tv:Value} {sa wa:Option Addr} {sn sc:Nat} {w:World} (hd:Row->Bool) (ch:Row->Row) (hC:∀ j,w.heap.size<=j->C j) (ht:bV C w T tv) (hf:aG nm.1 T=some t)
  (hA:At w q [.string (bz nm.1), .int .i64 (nm.2:Nat), .slice sa sn sc, .pointer wa]) (hTl:T.length<=800)
  (hX:∀ r∈t.rows,∀ (A:World) (iv:Value),RowKit.Below w.heap.size w A->oL A tv [[r]] iv->Calls prog 150 #[.pointer wa,iv] A λe A'=>e = .returned (.bool (hd r))/\Gr A A')
  (hY:∀ V:TV,eG (λ_=>True) w t V->∀ r∈t.rows,hd r=true->∀ (A:World) (iv:Value),RowKit.Below w.heap.size w A->oL A tv [[r]] iv->Calls prog 152 #[oW V, .slice sa sn sc,iv] A λe A'=>∃ u,e = .returned u/\kO A.heap.size A' u (ch r)/\RowKit.Below A.heap.size A A') :
  CallsIn Fence.wide n prog 91 #[tv, .pointer (some ⟨q,0,none⟩)] w λe w'=>∃ v,e = .returned v/\(∃ tv',v = .tuple #[tv',c8 0 0 0 (.slice none 0 0) ((t.rows.filter hd).length:Nat)]/\bV C w' (eE { t with rows:=t.rows.map λr=>if hd r then ch r else r } T) tv')/\RowKit.Below w.heap.size w w':=by
 have h1:1<=n:=by omega
 have hro:Fence.wide.round=none:=rfl
 have hfn:∀ k,Fence.wide.fn k:=λ_=>trivial
 obtain ⟨ta,tn,tc,rfl⟩:∃ a n c,tv = .slice a n c:=by
  rcases ht.2 with ⟨_,e⟩ | ⟨b,off,c,V,e,_⟩
  ·exact ⟨_,_,_,e⟩
  ·exact ⟨_,_,_,e⟩
 have b0:=hA.k0
 have b2:=hA.k2
 have b3:=hA.k3
 have pR:=hA.1
 have ht:=ht.to (D:=λb=>(C b/\b<w.heap.size)\/w.heap.size+3<=b) λb h1 h2 => .inl ⟨h1,h2⟩
 obtain ⟨V,hV,Pa⟩:=Fg ht hf
 have HT:=hid ht
 have Gt:=hid Pa
 have HV:=hid hV
 have HX:=hid hX
 have HY:=hid (hY V (hV.to λ_ _ _=>trivial))
 have HC:=hid hC
 obtain ⟨w0,hw0⟩:∃ w0,w0=((w.alloc (.cells #[.slice ta tn tc] 113)).alloc (.cells #[.pointer (some ⟨q,0,none⟩)] 176)).alloc (.cells #[.int .i64 0, .int .i64 0, .int .i64 0, .slice none 0 0, .int .i64 0] 56):=⟨_,rfl⟩
 have G0:Hid (Gr w w0):=by show Gr _ _;rw [hw0];exact (((Gr.refl w).alloc _).alloc _).alloc _
 have hz0:w0.heap.size=w.heap.size+3:=by rw [hw0];simp
 have x0:w0.cell? ⟨w.heap.size,0,none⟩=some (.slice ta tn tc):=by
  rw [hw0];exact ((((Gr.refl _).alloc _).alloc _).cell (p:=⟨w.heap.size,0,none⟩) (by simp)).trans (by simp)
 have x1:w0.cell? ⟨w.heap.size+1,0,none⟩=some (.pointer (some ⟨q,0,none⟩)):=by
  rw [hw0]
  refine (((Gr.refl _).alloc _).cell (p:=⟨w.heap.size+1,0,none⟩) (by simp)).trans ?_
  have h:=lU (w.alloc (.cells #[.slice ta tn tc] 113)) #[.pointer (some ⟨q,0,none⟩)] 176 0
  rw [World.size_alloc] at h
  exact h
 have oY:Hid (Bk w0 (w.heap.size+2) [.int .i64 0, .int .i64 0, .int .i64 0, .slice none 0 0, .int .i64 0]):=by
  show Bk _ _ _
  have h:=Bk.new ((w.alloc (.cells #[.slice ta tn tc] 113)).alloc (.cells #[.pointer (some ⟨q,0,none⟩)] 176)) #[.int .i64 0, .int .i64 0, .int .i64 0, .slice none 0 0, .int .i64 0] 56
  rw [<- hw0] at h
  simpa using h
 have y0:=(G0.out.cell (p:=⟨q,0,none⟩) pR).trans b0
 have Lo : w0.drew.cell? ⟨w.heap.size,0,none⟩=some (.slice ta tn tc):=x0
 have Lp : w0.drew.cell? ⟨w.heap.size+1,0,none⟩=some (.pointer (some ⟨q,0,none⟩)):=x1
 have y0' : w0.drew.cell? ⟨q,0,none⟩=some (.string (bz nm.1)):=y0
 obtain ⟨vn,ca,cl,cc,ra,rl,rc⟩:=V
 refine callsIn_of_wp_marks func91 rfl (hfn _) ?_ hro
 simp only [ntmps91,List.size_toArray,List.length_cons,List.length_nil,Nat.reduceAdd,Nat.reduceSub,Array.replicate_succ,Array.replicate_zero,List.push_toArray,List.append_toArray,List.nil_append,List.cons_append]
 gi_wp2
 rw [<- hw0]
 clear hw0 ht hV Pa hX hY hC hA
 refine wpIn_wide.2 ?_
 have Wu:Hid (RowKit.Below w.heap.size w w0.drew):=G0.out.drew.below
 have Wv:Hid (RowKit.Below w.heap.size w (w0.alloc (.cells #[.string ⟨#[]⟩, .slice none 0 0, .slice none 0 0] 187)).drew):=(G0.out.alloc _).drew.below
 have z0:(w0.alloc (.cells #[.string ⟨#[]⟩, .slice none 0 0, .slice none 0 0] 187)).drew.cell? ⟨w.heap.size,0,none⟩=some (.slice ta tn tc):=(((Gr.refl w0).alloc _).cell (p:=⟨w.heap.size,0,none⟩) (by show w.heap.size<w0.heap.size;omega)).trans x0
 have z1:(w0.alloc (.cells #[.string ⟨#[]⟩, .slice none 0 0, .slice none 0 0] 187)).drew.cell? ⟨w.heap.size+1,0,none⟩=some (.pointer (some ⟨q,0,none⟩)):=(((Gr.refl w0).alloc _).cell (p:=⟨w.heap.size+1,0,none⟩) (by show w.heap.size+1<w0.heap.size;omega)).trans x1
 have z2:(w0.alloc (.cells #[.string ⟨#[]⟩, .slice none 0 0, .slice none 0 0] 187)).drew.cell? ⟨q,0,none⟩=some (.string (bz nm.1)):=(((Gr.refl w0).alloc _).cell (p:=⟨q,0,none⟩) (by show q<w0.heap.size;omega)).trans y0
 have hq3:w.heap.size≠w.heap.size+3:=by omega
 have hq4:w.heap.size+1≠w.heap.size+3:=by omega
 have hq5:q≠w.heap.size+3:=by omega
 have Mc:Hid (B3 (w0.alloc (.cells #[.string ⟨#[]⟩, .slice none 0 0, .slice none 0 0] 187)).drew w0.heap.size (.string ⟨#[]⟩) (.slice none 0 0) (.slice none 0 0)):=(B3.new w0 _ _ _ _).gr (Gr.refl _).drew
 go_region_held3 (λw'=>w'.cell? ⟨w.heap.size,0,none⟩=some (.slice ta tn tc)/\w'.cell? ⟨w.heap.size+1,0,none⟩=some (.pointer (some ⟨q,0,none⟩))/\w'.cell? ⟨q,0,none⟩=some (.string (bz nm.1))) (first | (with_reducible exact ⟨Lo,Lp,y0'⟩) | (with_reducible exact ⟨x0,x1,y0⟩) | (with_reducible exact ⟨z0,z1,z2⟩) | (with_reducible exact ⟨u0,u1,u2⟩) | (with_reducible exact ⟨eF hq3 u0,eF hq4 u1,eF hq5 u2⟩) | (with_reducible exact ⟨aH u0,aH u1,aH u2⟩) | go_keep)
  (first | (go_at_call 146;refine (Gt.out _ Wu.out).mono ?_;rintro e1 w1 ⟨rfl,g1⟩;have y7:=hid g1;have u0:=(g1.cell (p:=⟨w.heap.size,0,none⟩) (by show w.heap.size<w0.heap.size;omega)).trans Lo;have u1:=(g1.cell (p:=⟨w.heap.size+1,0,none⟩) (by show w.heap.size+1<w0.heap.size;omega)).trans Lp;have u2:=(g1.cell (p:=⟨q,0,none⟩) (by show q<w0.heap.size;omega)).trans y0';clear g1) | (go_at_call 146;refine (Gt.out _ Wv.out).mono ?_;rintro e1 w1 ⟨rfl,g1⟩;have HG2:=hid g1;have Pb:=hid (Mc.out.gr g1);obtain ⟨n0,n1,n2,n3,n4,n5,n6⟩:=Pb.out;rw [hz0] at n0 n1 n2 n3 n4 n5 n6;have u0:=(g1.cell (p:=⟨w.heap.size,0,none⟩) (by simp;omega)).trans z0;have u1:=(g1.cell (p:=⟨w.heap.size+1,0,none⟩) (by simp;omega)).trans z1;have u2:=(g1.cell (p:=⟨q,0,none⟩) (by simp;omega)).trans z2;clear g1))
 all_goals
  first
   | (have hF:IN w ta tn tc q ⟨vn,ca,cl,cc,ra,rl,rc⟩ (w1.alloc (.cells #[.string vn, .slice ca cl cc, .slice ra rl rc] 187)) w1.heap.size:=Da G0.out y7.out hz0 oY.out u0 u1;generalize w1.alloc (.cells #[.string vn, .slice ca cl cc, .slice ra rl rc] 187)=W at hF ⊢;generalize w1.heap.size=tB at hF ⊢)
   | (have hF:IN w ta tn tc q ⟨vn,ca,cl,cc,ra,rl,rc⟩ (((w1.setCell ⟨w.heap.size+3,0,none⟩ (.string vn)).setCell ⟨w.heap.size+3,1,none⟩ (.slice ca cl cc)).setCell ⟨w.heap.size+3,2,none⟩ (.slice ra rl rc)) (w.heap.size+3):=Db G0.out HG2.out hz0 oY.out Pb.out u0 u1;generalize ((w1.setCell ⟨w.heap.size+3,0,none⟩ (.string vn)).setCell ⟨w.heap.size+3,1,none⟩ (.slice ca cl cc)).setCell ⟨w.heap.size+3,2,none⟩ (.slice ra rl rc)=W at hF ⊢;generalize w.heap.size+3=tB at hF ⊢)
  have HF:=hid hF
  obtain ⟨AK,htB,⟨t0,t1,t2,t3,t4,t5,t6⟩,hres,c0,c1⟩:=hF
  clear u0 u1 u2
  obtain ⟨xs,hsl,hal⟩:=(HV.out.to (D:=λb=>C b/\b<w.heap.size) (λb h1 h2=>by rcases h1 with h1 | h1;exact h1;omega)).lrs
  have Tu:=AK.size
  have Ly:Al (Rw w.heap.size w) xs t.rows:=hal.mono λa b h=>h.rw
  have hdec:=qT Ly
  have hlx:xs.length=t.rows.length:=hal.len
  obtain ⟨W1,hW1⟩:∃ W1,W1=((W.alloc (.cells #[.slice none 0 0] 32)).alloc (.cells #[.int .i64 0] 3)).alloc (.cells #[.slice ra rl rc] 32):=⟨_,rfl⟩
  have GW1:Hid (Gr W W1):=by show Gr _ _;rw [hW1];exact (((Gr.refl W).alloc _).alloc _).alloc _
  have hz1:W1.heap.size=W.heap.size+3:=by rw [hW1];simp
  have WT:Hid (Boxed W1 W.heap.size 32 (.slice none 0 0)):=by
   show Boxed _ _ _ _;rw [hW1];exact ((Boxed.new W 32 (.slice none 0 0)).alloc _).alloc _
  have WU:Hid (Boxed W1 (W.heap.size+1) 3 (.int .i64 0)):=by
   show Boxed _ _ _ _;rw [hW1]
   have h:=(Boxed.new (W.alloc (.cells #[.slice none 0 0] 32)) 3 (.int .i64 0)).alloc (.cells #[.slice ra rl rc] 32)
   rw [World.size_alloc] at h
   exact h
  have e1' : W1.cell? ⟨W.heap.size+2,0,none⟩=some (.slice ra rl rc):=by
   rw [hW1]
   have h:=lU ((W.alloc (.cells #[.slice none 0 0] 32)).alloc (.cells #[.int .i64 0] 3)) #[.slice ra rl rc] 32 0
   rw [World.size_alloc,World.size_alloc] at h
   exact h
  obtain ⟨W2,hW2⟩:∃ W2,W2=W1.alloc (.cells #[.slice (some ⟨W.heap.size+2,0,none⟩) 1 1] 326):=⟨_,rfl⟩
  have GW:Hid (Gr W W2):=by show Gr _ _;rw [hW2];exact GW1.out.alloc _
  have hz2:W2.heap.size=W.heap.size+4:=by rw [hW2];simp;omega
  have mR:Hid (Boxed W2 W.heap.size 32 (.slice none 0 0)):=by show Boxed _ _ _ _;rw [hW2];exact WT.out.alloc _
  have HBc:Hid (Boxed W2 (W.heap.size+1) 3 (.int .i64 0)):=by show Boxed _ _ _ _;rw [hW2];exact WU.out.alloc _
  have e1:W2.cell? ⟨W.heap.size+2,0,none⟩=some (.slice ra rl rc):=by rw [hW2];exact aH e1'
  have e2:W2.cell? ⟨W.heap.size+3,0,none⟩=some (.slice (some ⟨W.heap.size+2,0,none⟩) 1 1):=by
   rw [hW2]
   have h:=lU W1 #[.slice (some ⟨W.heap.size+2,0,none⟩) 1 1] 326 0
   rw [hz1] at h
   exact h
  have Ww:Hid (Calls prog 149 #[.slice (some ⟨W.heap.size+2,0,none⟩) 1 1] W1 λe w'=>e = .returned (.func (.func 191) #[] #[.pointer (some ⟨W.heap.size+3,0,none⟩)])/\w'=W2):=by
   have h:=lC (some ⟨W.heap.size+2,0,none⟩) 1 1 W1
   refine h.mono ?_
   rintro e w' ⟨he,hw⟩
   exact ⟨by rw [he,hz1],hw.trans hW2.symm⟩
  clear hW2
  gi_wp2
  rw [<- hW1]
  clear hW1
  refine (callsIn_wide.2 Ww.out).mono ?_
  rintro e w9 ⟨rfl,rfl⟩
  have CX:Tabs (λj=>(j<w9.heap.size+3/\j≠W.heap.size/\j≠W.heap.size+1)/\j≠w9.heap.size+2) w9 (W.heap.size+2) 0 [xs]:=by
   refine ⟨by omega,⟨⟨by omega,by omega,by omega⟩,by omega⟩,λi hi=>?_⟩
   obtain rfl:i=0:=by simpa using hi
   refine ⟨_,by rw [Nat.zero_add];exact e1,?_⟩
   rcases hsl with ⟨h,h'⟩ | ⟨b,o,c,e,hb,hc⟩
   ·exact .inl ⟨h,by simpa using h'⟩
   ·refine .inr ⟨b,o,c,by simpa using e,by omega,⟨⟨by omega,by omega,by omega⟩,by omega⟩,λj hj=>?_⟩
    exact (GW.out.cell (p:=⟨b,o+j,none⟩) (by show b<_;omega)).trans ((AK.cell (p:=⟨b,o+j,none⟩) hb).trans (hc j (by simpa using hj)))
  gi_wp2
  refine rW (W:=w9) (tabs := [xs]) (Bt:=W.heap.size+3) (tb:=W.heap.size+2) (tc:=1) h1 rfl rfl (λj=>j<w9.heap.size+3/\j≠W.heap.size/\j≠W.heap.size+1) ⟨by omega,by omega,by omega⟩ ⟨by omega,by omega,by omega⟩ ⟨by omega,by omega,by omega⟩ (by simp) (by simp) ?_ ?_ ?_ (by omega) e2 CX
   (λpre A=>QS C hd ch w W pre A) (λs A B hi hs ho ht hp hb=>?_) (λW1 hs1 hb1=>?_) ?_ (λl A K hK=>?_) (λl pre x A hi hx hl hsz=>?_) (λA hi hdf=>?_)
  ·intro t' ht';simp at ht';subst ht';rw [hlx];have:=HV.out.rE;omega
  ·intro t' ht' r hr
   simp at ht'
   subst ht'
   obtain ⟨y,_,hy⟩:=hal.E8 hr
   rcases hy with ⟨e,_⟩ | ⟨b,o,c,e,_⟩
   ·exact ⟨_,_,_,e⟩
   ·exact ⟨_,_,_,e⟩
  ·rw [d7,List.length_map,hlx];exact HV.out.rE
  ·exact ⟨eV.same hi.1 (by omega) (by omega) (by omega) (λb h=>by omega) hs ho ht hp hb,(hb (W.heap.size+1) hi.2.lt (by omega) (by omega) (by omega)).trans hi.2⟩
  ·exact ⟨eV.start ((hb1.block _ (by omega)).trans mR.out) (by omega) (GW.out.below.trans (hb1.mono GW.out.size)),(hb1.block _ (by omega)).trans HBc.out⟩
  rotate_left
  ·gi_wp2
   exact hK
  ·obtain ⟨⟨⟨v,ys,bx,ox,ax⟩,Fa,bel⟩,bc⟩:=hi
   have hxm:=hx.2.2
   rw [d7] at hxm
   obtain ⟨v0,hv0,rfl⟩:=List.mem_map.1 hxm
   have hr0:dZ w.heap.size w v0∈t.rows:=by rw [<- hdec];exact List.mem_map.2 ⟨v0,hv0,rfl⟩
   have oM:RowKit.Below w.heap.size w A:=AK.trans (bel.mono Tu)
   have lY:=hid (hx.tkn (qS := [t.rows]) (k:=w.heap.size) (w:=w) ⟨Ly,trivial⟩ oM (aF _))
   have Wx:=hid (HX.out _ hr0)
   have Ux:=hid (HY.out _ hr0)
   have Ry:Hid ((pre ++ [[v0]]).map (FD hd ch w)=pre.map (FD hd ch w) ++ [if hd (dZ w.heap.size w v0) then ch (dZ w.heap.size w v0) else dZ w.heap.size w v0]):=by show _=_;simp [FD]
   have YC:Hid ((((pre ++ [[v0]]).filter (Ds hd w)).length:Nat)=(pre.filter (Ds hd w)).length+if hd (dZ w.heap.size w v0) then 1 else 0):=by
    show _=_
    by_cases h:hd (dZ w.heap.size w v0)=true <;> simp [List.filter_append,Ds,h]
   have hcl:(pre.filter (Ds hd w)).length<=pre.length:=List.length_filter_le _ _
   have hyl:ys.length<=1000:=by rw [ax.len,List.length_map];omega
   have Lz:iV (λb=>C b/\b<w.heap.size) w v0 (dZ w.heap.size w v0):=by
    obtain ⟨y,_,hy⟩:=hal.E8 hv0
    rw [tQ hy.rw];exact hy
   have Tv:=hid Lz
   simp only [List.map_cons,List.map_nil] at lY
   generalize dZ w.heap.size w v0=r0 at *
   generalize pre.map (FD hd ch w)=R0 at *
   generalize (pre.filter (Ds hd w)).length=cnt at *
   have nU:=hid bx
   have WV:=hid bc
   have sQ:=hid ox
   have Bh:=hid ax
   have gB:=hid bel
   have s0:=(bel.cell (p:=⟨w.heap.size,0,none⟩) (by show w.heap.size<_;omega)).trans c0
   have s1:=(bel.cell (p:=⟨w.heap.size+1,0,none⟩) (by show w.heap.size+1<_;omega)).trans c1
   have s2:=(oM.cell (p:=⟨q,2,none⟩) pR).trans b2
   have s3:=(oM.cell (p:=⟨q,3,none⟩) pR).trans b3
   have Nq:=bel.size
   have nV:=hid oM
   have hmx:=mixed
   have NB:=hx.1.at_ 0 (by simp)
   rw [hz2] at lY NB
   simp only [List.getElem_cons_zero] at NB
   clear ax ox bel bx bc hxm Lz
   gi_wp2
   refine ⟨λh=>(by cases h),?_⟩
   refine (CallsIn.inRound l (callsIn_wide.2 (jK ta tn tc A))).mono ?_
   rintro e1 A1 ⟨v1,rfl,Lx,g1⟩
   obtain ⟨nb,rfl,hnb,_⟩:=Lx.ptr
   have QC:=hid Lx
   have Dc:=hid g1
   clear Lx g1
   gi_wp2
   refine ⟨λh=>(by cases h),?_⟩
   refine (CallsIn.inRound l (callsIn_wide.2 (vO QC.out (lY.out.gr Dc.out)))).mono ?_
   rintro e2 A2 ⟨v2,rfl,LC,g2⟩
   obtain ⟨ib,rfl,hib,_⟩:=LC.ptr
   have Fb:=hid LC
   have Fj:=hid (Dc.out.trans g2)
   have o1:=(Fj.out.cell (p:=⟨w.heap.size+1,0,none⟩) (cell_lt s1)).trans s1
   have o3:=(Fj.out.cell (p:=⟨q,3,none⟩) (cell_lt s3)).trans s3
   clear LC g2
   gi_wp2
   refine ⟨λh=>(by cases h),?_⟩
   refine (CallsIn.inRound l (callsIn_wide.2 (Wx.out A2 _ (nV.out.trans (Fj.out.below.mono nV.out.size)) Fb.out))).mono ?_
   rintro e3 A3 ⟨rfl,g3⟩
   have lG:=hid (Fj.out.trans g3)
   have Qv:=hid (Fb.out.gr g3)
   clear g3 o1 o3
   have hz3:=lG.out.size
   have hB3:=bY nU.out lG.out
   have NU:=hid (bY WV.out lG.out)
   obtain ⟨i0,ji,fU,jz1,fV⟩:=info_parts kJ
   cases hh:hd r0
   ·have Fe:Hid ((if hd r0=true then ch r0 else r0)=r0):=by show _=_;rw [hh];rfl
    have WW:Hid ((if hd r0=true then 1 else 0)=0):=by show _=_;rw [hh];rfl
    clear hh
    obtain ⟨va,fK,vc,rfl⟩:∃ a n c,v0 = .slice a n c:=by
     rcases Tv.out with ⟨e,_⟩ | ⟨b,o,c,e,_⟩
     ·exact ⟨_,_,_,e⟩
     ·exact ⟨_,_,_,e⟩
    have hrw3:iV (λb=>((C b/\b<w.heap.size)\/W.heap.size+7<=b)/\some b≠v.ownBlock) A3.drew (.slice va fK vc) r0:=by
     have hB:RowKit.Below w.heap.size w A3.drew:=nV.out.trans (lG.out.drew.below.mono nV.out.size)
     exact ((Tv.out.bel hB)).to λb hb _=>⟨.inl hb,λe=>by have:=(aB sQ.out b e.symm).1;omega⟩
    obtain ⟨g',c',W4,rX,hap,k0,k1,k2,k3⟩:=pM nU.out sQ.out Bh.out gB.out (aF _) (by omega) (λb hb=>by omega) (by omega) hyl (lG.out.drew.below) hrw3 i0 ji fU jz1 fV
    have m0:A3.drew.cell? ⟨W.heap.size,0,none⟩=some v:=hB3.cell
    have m1:A3.drew.cell? ⟨W.heap.size+4+2,0,none⟩=some (.slice va fK vc):=(lG.out.cell (p:=⟨W.heap.size+4+2,0,none⟩) (cell_lt NB)).trans NB
    have m2:W4.cell? ⟨W.heap.size+4+2,0,none⟩=some (.slice va fK vc):=(dV (w:=A3) (a:=⟨W.heap.size+4+2,0,none⟩) (k3 (W.heap.size+4+2) (cell_lt m1) (λe=>by have:=(aB sQ.out (W.heap.size+4+2) e.symm).1;omega))).trans m1
    have hne5:W.heap.size+4+2≠W.heap.size:=by omega
    have m4:(A3.alloc (.cells #[.slice va fK vc] 41)).cell? ⟨W.heap.size,0,none⟩=some v:=aH (w:=A3) m0
    have m5:(A3.alloc (.cells #[.slice va fK vc] 41)).drew.cell? ⟨W.heap.size,0,none⟩=some v:=m4
    have WX:Hid (Boxed (W4.setCell ⟨W.heap.size,0,none⟩ (.slice (some ⟨g',0,none⟩) (ys.length+1) c')) (W.heap.size+1) 3 (.int .i64 (cnt:Nat))):=by
     have hlt:=NU.out.lt
     exact (c6 _ _ _ _ (by show W.heap.size+1≠W.heap.size;omega)).trans ((k3 (W.heap.size+1) hlt (λe=>by have:=(aB sQ.out (W.heap.size+1) e.symm).1;omega)).trans NU.out)
    have NV:Hid (Fr (λj=>j<W.heap.size+4+3/\¬j=W.heap.size/\¬j=W.heap.size+1) A (W4.setCell ⟨W.heap.size,0,none⟩ (.slice (some ⟨g',0,none⟩) (ys.length+1) c'))/\QS C hd ch w W (pre ++ [[.slice va fK vc]]) (W4.setCell ⟨W.heap.size,0,none⟩ (.slice (some ⟨g',0,none⟩) (ys.length+1) c'))):=by
     obtain ⟨h1,h2⟩:=rX.out
     refine ⟨⟨h2.os,h2.tape,h2.output,h2.size,λj hj hc=>h2.block j hj ⟨by omega,hc.2.1⟩⟩,?_,?_⟩
     ·rw [Ry.out,Fe.out];exact h1
     ·rw [YC.out,WW.out];exact WX.out
    gi_wp2
    have m3:(W4.setCell ⟨W.heap.size,0,none⟩ (.slice (some ⟨g',0,none⟩) (ys.length+1) c')).cell? ⟨W.heap.size+4+2,0,none⟩=some (.slice va fK vc):=(dV (w:=W4) (a:=⟨W.heap.size+4+2,0,none⟩) (c6 _ _ _ _ hne5)).trans m2
    refine eH (S:=λw'=>w'.cell? ⟨W.heap.size+4+2,0,none⟩=some (.slice va fK vc)) hmx (by kernel_rfl) ?_ ?_
    ·rintro ⟨a',w',h⟩
     exact absurd h.1 (by simp)
    refine wpAnyH_take (i:=1) (v := .slice (some ⟨W.heap.size+4+2,0,none⟩) 1 1) rfl (by kernel_rfl) (by kernel_rfl) (by kernel_rfl) (λ_ _ _ h=>h) (.inl ⟨by rfl,λw' hS=>by have g0:w'.cell? ⟨W.heap.size+4+2,0,none⟩=some (.slice va fK vc):=hS;go_simp⟩) m1 ?_
    refine wpAnyH_take (i:=2) (v := .pointer (some ⟨W.heap.size+4+2,0,none⟩)) rfl (by kernel_rfl) (by kernel_rfl) (by kernel_rfl) (λ_ _ _ h=>h) (.inl ⟨by rfl,λw' hS=>by have g0:w'.cell? ⟨W.heap.size+4+2,0,none⟩=some (.slice va fK vc):=hS;go_simp⟩) m1 ?_
    refine wpAnyH_take (i:=3) (v := .slice va fK vc) rfl (by kernel_rfl) (by kernel_rfl) (by kernel_rfl) (λ_ _ _ h=>h) (.inl ⟨by rfl,λw' hS=>by have g0:w'.cell? ⟨W.heap.size+4+2,0,none⟩=some (.slice va fK vc):=hS;go_simp⟩) m1 ?_
    refine lF (i:=0) (j:=4) (by kernel_rfl) rfl rfl rfl rfl (λK hK=>?_) (λK hK=>?_)
    ·go_simp
     refine hK _ _ m1 ?_
     clear hK K
     refine aT (i:=4) (by kernel_rfl) rfl rfl (λK hK=>?_)
     go_simp
     refine hK _ _ (aH m1) ?_
     clear hK K
     refine aT (i:=5) (by kernel_rfl) rfl rfl (λK hK=>?_)
     refine wp_append_run hap (.tmp 38) (.tmp 42) (by rfl) (by rfl) (by rfl) (by rfl) ?_
     refine hK _ _ m2 ?_
     clear hK K
     refine aT (i:=6) (by kernel_rfl) rfl rfl (λK hK=>?_)
     go_simp
     refine hK _ _ m3 ?_
     refine wpAnyH_done (by kernel_rfl) ?_ _
     clear hK K
     gi_wp2
     exact NV.out
    ·go_simp
     refine hK _ _ (aH m1) ?_
     clear hK K
     refine aT (i:=0) (by kernel_rfl) rfl rfl (λK hK=>?_)
     go_simp
     refine hK _ _ (aH m1) ?_
     clear hK K
     refine aT (i:=5) (by kernel_rfl) rfl rfl (λK hK=>?_)
     refine wp_append_run hap (.tmp 38) (.tmp 42) (by rfl) (by rfl) (by rfl) (by rfl) ?_
     refine hK _ _ m2 ?_
     clear hK K
     refine aT (i:=6) (by kernel_rfl) rfl rfl (λK hK=>?_)
     go_simp
     refine hK _ _ m3 ?_
     refine wpAnyH_done (by kernel_rfl) ?_ _
     clear hK K
     gi_wp2
     exact NV.out
   ·have Fe:Hid ((if hd r0=true then ch r0 else r0)=ch r0):=by show _=_;rw [hh];rfl
    have WW:Hid ((if hd r0=true then 1 else 0)=1):=by show _=_;rw [hh];rfl
    have WY:Hid (RowKit.Below w.heap.size w A3.drew):=nV.out.trans (lG.out.drew.below.mono nV.out.size)
    have O6:=hid (Ux.out hh A3.drew _ WY.out (Qv.out.gr (Gr.refl A3).drew))
    clear hh
    have RC:=hid (lG.out.drew)
    have I5:Hid (B3 A tB (.string vn) (.slice ca cl cc) (.slice ra rl rc)):=HF.out.tab.same gB.out.size (gB.out.block tB HF.out.tab.lt)
    have d1:=(RC.out.cell (p:=⟨tB,0,none⟩) I5.out.lt).trans I5.out.c0
    have d2:=(RC.out.cell (p:=⟨tB,1,none⟩) I5.out.lt).trans I5.out.c1
    have d3:=(RC.out.cell (p:=⟨tB,2,none⟩) I5.out.lt).trans I5.out.c2
    have d4:=(RC.out.cell (p:=⟨w.heap.size+1,0,none⟩) (cell_lt s1)).trans s1
    have d5:=(RC.out.cell (p:=⟨q,2,none⟩) (cell_lt s2)).trans s2
    have m0:A3.drew.cell? ⟨W.heap.size,0,none⟩=some v:=hB3.cell
    gi_wp2
    refine eH (S:=λw'=>w'.cell? ⟨tB,0,none⟩=some (.string vn)/\w'.cell? ⟨tB,1,none⟩=some (.slice ca cl cc)/\w'.cell? ⟨tB,2,none⟩=some (.slice ra rl rc)/\w'.cell? ⟨w.heap.size+1,0,none⟩=some (.pointer (some ⟨q,0,none⟩))/\w'.cell? ⟨q,2,none⟩=some (.slice sa sn sc)) hmx (by kernel_rfl) ?_ ?_
    ·rintro ⟨a',w',h⟩
     exact absurd h.1 (by simp)
    refine wpAnyH_take (i:=1) (v := .agg #[.string vn, .slice ca cl cc, .slice ra rl rc]) rfl (by kernel_rfl) (by kernel_rfl) (by kernel_rfl) (λ_ _ _ h=>h) (.inl ⟨by rfl,λw' hS=>by obtain ⟨g0,g1,g2,g3,g4⟩:=hS;go_simp⟩) ⟨d1,d2,d3,d4,d5⟩ ?_
    refine wpAnyH_take (i:=2) (v := .pointer (some ⟨q,0,none⟩)) rfl (by kernel_rfl) (by kernel_rfl) (by kernel_rfl) (λ_ _ _ h=>h) (.inl ⟨by rfl,λw' hS=>by obtain ⟨g0,g1,g2,g3,g4⟩:=hS;go_simp⟩) ⟨d1,d2,d3,d4,d5⟩ ?_
    refine wpAnyH_take (i:=3) (v := .pointer (some ⟨q,0,none⟩)) rfl (by kernel_rfl) (by kernel_rfl) (by kernel_rfl) (λ_ _ _ h=>h) (.inl ⟨by rfl,λw' hS=>by obtain ⟨g0,g1,g2,g3,g4⟩:=hS;go_simp⟩) ⟨d1,d2,d3,d4,d5⟩ ?_
    refine wpAnyH_take (i:=4) (v := .pointer (some ⟨q,2,none⟩)) rfl (by kernel_rfl) (by kernel_rfl) (by kernel_rfl) (λ_ _ _ h=>h) (.inl ⟨by rfl,λw' hS=>by obtain ⟨g0,g1,g2,g3,g4⟩:=hS;go_simp⟩) ⟨d1,d2,d3,d4,d5⟩ ?_
    refine wpAnyH_take (i:=5) (v := .slice sa sn sc) rfl (by kernel_rfl) (by kernel_rfl) (by kernel_rfl) (λ_ _ _ h=>h) (.inl ⟨by rfl,λw' hS=>by obtain ⟨g0,g1,g2,g3,g4⟩:=hS;go_simp⟩) ⟨d1,d2,d3,d4,d5⟩ ?_
    refine wpAnyH_take (i:=6) (v := .pointer (some ⟨ib,0,none⟩)) rfl (by kernel_rfl) (by kernel_rfl) (by kernel_rfl) (λ_ _ _ h=>h) (.inl ⟨by rfl,λw' hS=>by obtain ⟨g0,g1,g2,g3,g4⟩:=hS;go_simp⟩) ⟨d1,d2,d3,d4,d5⟩ ?_
    refine lF (i:=0) (j:=7) (by kernel_rfl) rfl rfl rfl rfl (λK hK=>?_) (λK hK=>?_)
    go_simp
    refine hK _ _ ⟨d1,d2,d3,d4,d5⟩ ?_
    clear hK K
    refine aT (i:=7) (by kernel_rfl) rfl rfl (λK hK=>?_)
    all_goals
     go_simp
     refine O6.out.mono ?_
     rintro e4 A4 ⟨u,rfl,ou,b4⟩
     obtain ⟨ua,uc,rfl⟩:=ou.sl
     have tH:A3.heap.size<=A4.heap.size:=b4.size
     have WZ:RowKit.Below A.heap.size A A4:=RC.out.below.trans (b4.mono (by show A.heap.size<=A3.heap.size;omega))
     have W5:iV (λb=>((C b/\b<w.heap.size)\/W.heap.size+7<=b)/\some b≠v.ownBlock) A4 (.slice ua (ch r0).length uc) (ch r0):=ou.Wi.to λb hb _=>⟨.inr (by have:A3.heap.size<=b:=hb;omega),λe=>by have:=(aB sQ.out b e.symm).2;have:A3.heap.size<=b:=hb;omega⟩
     obtain ⟨g',c',W4,rX,hap,k0,k1,k2,k3⟩:=pM nU.out sQ.out Bh.out gB.out (aF _) (by omega) (λb hb=>by omega) (by omega) hyl WZ W5 i0 ji fU jz1 fV
     have f1:=(b4.cell (p:=⟨tB,0,none⟩) (cell_lt d1)).trans d1
     have f2:=(b4.cell (p:=⟨tB,1,none⟩) (cell_lt d2)).trans d2
     have f3:=(b4.cell (p:=⟨tB,2,none⟩) (cell_lt d3)).trans d3
     have f4:=(b4.cell (p:=⟨w.heap.size+1,0,none⟩) (cell_lt d4)).trans d4
     have f5:=(b4.cell (p:=⟨q,2,none⟩) (cell_lt d5)).trans d5
     have f0:A4.cell? ⟨W.heap.size,0,none⟩=some v:=(b4.cell (p:=⟨W.heap.size,0,none⟩) (cell_lt m0)).trans m0
     have f6:(A4.alloc (.cells #[.slice ua (ch r0).length uc] 41)).cell? ⟨W.heap.size,0,none⟩=some v:=aH f0
     have hkc:∀ (b o:Nat) (y:Value),b<W.heap.size->A4.cell? ⟨b,o,none⟩=some y->W4.cell? ⟨b,o,none⟩=some y/\(W4.setCell ⟨W.heap.size,0,none⟩ (.slice (some ⟨g',0,none⟩) (ys.length+1) c')).cell? ⟨b,o,none⟩=some y:=λb o y hb hy=>by
      have h4:W4.cell? ⟨b,o,none⟩=some y:=(dV (w:=A4) (a:=⟨b,o,none⟩) (k3 b (cell_lt hy) (λe=>by have:=(aB sQ.out b e.symm).1;omega))).trans hy
      exact ⟨h4,(dV (w:=W4) (a:=⟨b,o,none⟩) (c6 _ _ _ _ (by show b≠W.heap.size;omega))).trans h4⟩
     have htl:=HF.out.tab.lt
     obtain ⟨n1,p1⟩:=hkc _ _ _ htl f1
     obtain ⟨n2,p2⟩:=hkc _ _ _ htl f2
     obtain ⟨n3,p3⟩:=hkc _ _ _ htl f3
     obtain ⟨n4,p4⟩:=hkc _ _ _ (by omega) f4
     obtain ⟨n5,p5⟩:=hkc _ _ _ (by omega) f5
     have NW:Boxed (W4.setCell ⟨W.heap.size,0,none⟩ (.slice (some ⟨g',0,none⟩) (ys.length+1) c')) (W.heap.size+1) 3 (.int .i64 (cnt:Nat)):=by
      have hlt:=NU.out.lt
      exact (c6 _ _ _ _ (by show W.heap.size+1≠W.heap.size;omega)).trans ((k3 (W.heap.size+1) (by omega) (λe=>by have:=(aB sQ.out (W.heap.size+1) e.symm).1;omega)).trans ((b4.block (W.heap.size+1) hlt).trans NU.out))
     have q0:=NW.cell
     have q1:=NW.frozen
     have W6:=hid NW
     have NV:Hid (Fr (λj=>j<W.heap.size+4+3/\¬j=W.heap.size/\¬j=W.heap.size+1) A ((W4.setCell ⟨W.heap.size,0,none⟩ (.slice (some ⟨g',0,none⟩) (ys.length+1) c')).setCell ⟨W.heap.size+1,0,none⟩ (.int .i64 ((cnt+1:Nat):Int)))/\QS C hd ch w W (pre ++ [[v0]]) ((W4.setCell ⟨W.heap.size,0,none⟩ (.slice (some ⟨g',0,none⟩) (ys.length+1) c')).setCell ⟨W.heap.size+1,0,none⟩ (.int .i64 ((cnt+1:Nat):Int)))):=by
      obtain ⟨h1,h2⟩:=rX.out
      refine ⟨⟨h2.os,h2.tape,h2.output,by simpa [World.setCell] using h2.size,λj hj hc=>(c6 _ _ _ _ hc.2.2).trans (h2.block j hj ⟨by omega,hc.2.1⟩)⟩,?_,?_⟩
      ·rw [Ry.out,Fe.out];exact h1.other (by omega) (by omega) (by omega) (λb hb=>by omega)
      ·rw [YC.out,WW.out];exact W6.out.set _
     clear b4 hkc NW ou
     refine hK _ _ ⟨f1,f2,f3,f4,f5⟩ ?_
     clear hK K
    rotate_left
    refine lF (i:=0) (j:=8) (by kernel_rfl) rfl rfl rfl rfl (λK hK=>?_) (λK hK=>?_)
    go_simp
    refine hK _ _ ⟨f1,f2,f3,f4,f5⟩ ?_
    clear hK K
    rotate_left
    go_simp
    refine hK _ _ ⟨aH f1,aH f2,aH f3,aH f4,aH f5⟩ ?_
    clear hK K
    refine aT (i:=0) (by kernel_rfl) rfl rfl (λK hK=>?_)
    go_simp
    refine hK _ _ ⟨aH f1,aH f2,aH f3,aH f4,aH f5⟩ ?_
    clear hK K
    rotate_left
    iterate 2
     refine aT (i:=8) (by kernel_rfl) rfl rfl (λK hK=>?_)
     go_simp
     refine hK _ _ ⟨aH f1,aH f2,aH f3,aH f4,aH f5⟩ ?_
     clear hK K
     rotate_left
    all_goals
     refine aT (i:=9) (by kernel_rfl) rfl rfl (λK hK=>?_)
     refine wp_append_run hap (.tmp 44) (.tmp 52) (by rfl) (by rfl) (by rfl) (by rfl) ?_
     refine hK _ _ ⟨n1,n2,n3,n4,n5⟩ ?_
     clear hK K
     refine aT (i:=10) (by kernel_rfl) rfl rfl (λK hK=>?_)
     go_simp
     refine hK _ _ ⟨p1,p2,p3,p4,p5⟩ ?_
     refine wpAnyH_done (by kernel_rfl) ?_ _
     clear hK K
     gi_wp2
     exact NV.out
  ·obtain ⟨⟨⟨v,ys,bx,ox,ax⟩,Fa,bel⟩,bc⟩:=hi
   have hE:(aL [xs]).map (FD hd ch w)=t.rows.map λr=>if hd r then ch r else r:=by
    rw [d7,<- hdec]
    exact LY hd ch w xs
   have YD:((aL [xs]).filter (Ds hd w)).length=(t.rows.filter hd).length:=by
    rw [d7,<- hdec]
    exact LZ hd w xs
   rw [YD] at bc
   rw [hE] at ax
   clear hE YD
   have aAf:=hid bc
   have U0:=bc.cell
   have hcn:(t.rows.filter hd).length<=t.rows.length:=List.length_filter_le _ _
   have nU:=hid bx
   have sQ:=hid ox
   have Bh:=hid ax
   have gB:=hid bel
   have r0:=bx.cell
   have s0:=(bel.cell (p:=⟨w.heap.size,0,none⟩) (by show w.heap.size<_;omega)).trans c0
   have Nq:=bel.size
   have Qw:=hid hdf
   clear bx ox ax bel hdf bc
   obtain ⟨va,fK,vc,rfl⟩:∃ a n c,v = .slice a n c:=by
    rcases zQ.owned sQ.out with ⟨e,_⟩ | ⟨b,o,c,e,_⟩
    ·exact ⟨_,_,_,e⟩
    ·exact ⟨_,_,_,e⟩
   have Rt:Hid (B3 A tB (.string vn) (.slice ca cl cc) (.slice ra rl rc)):=HF.out.tab.same gB.out.size (gB.out.block tB HF.out.tab.lt)
   have My:=hid (HF.out.res.below gB.out)
   obtain ⟨⟨p0,p1,p2,p3,p4⟩,g0,g1,g2,g3,g4⟩:=My.out.five
   obtain ⟨d0,d1,d2,d3,d4,d5,d6⟩:=Rt.out
   have QD:W.heap.size+4<A.heap.size:=by
    have:=(Array.getElem?_eq_some_iff.1 Qw.out).1
    rw [hz2] at this
    exact this
   have oM:RowKit.Below w.heap.size w A:=AK.trans (gB.out.mono Tu)
   have nV:=hid oM
   have Wy:Hid (bV (λb=>((C b/\b<w.heap.size)\/W.heap.size+7<=b)\/A.heap.size<=b) A T (.slice ta tn tc)):=(HT.out.to (D:=λb=>((C b/\b<w.heap.size)\/W.heap.size+7<=b)\/A.heap.size<=b) (λb h1 h2=>by rcases h1 with h1 | h1;exact .inl (.inl h1);omega)).bel oM
   have Wz:Hid (eG (λb=>((C b/\b<w.heap.size)\/W.heap.size+7<=b)\/A.heap.size<=b) A t ⟨vn,ca,cl,cc,ra,rl,rc⟩):=(HV.out.to (D:=λb=>((C b/\b<w.heap.size)\/W.heap.size+7<=b)\/A.heap.size<=b) (λb h1 h2=>by rcases h1 with h1 | h1;exact .inl (.inl h1);omega)).bel oM
   obtain ⟨Rf,NC⟩:∃ Rf,Rf=t.rows.map λr=>if hd r then ch r else r:=⟨_,rfl⟩
   have Nz:=hid NC
   have hRl:Rf.length<=t.rows.length:=by rw [NC,List.length_map];exact aF _
   obtain ⟨cnt,hcnt⟩:∃ z,z=(t.rows.filter hd).length:=⟨_,rfl⟩
   have Pi:=hid hcnt
   rw [<- hcnt] at U0 hcn
   rw [<- NC] at Bh
   clear NC hcnt
   have hvl:fK=Rf.length:=by
    have h1:=sQ.out
    have h2:=Bh.out.len
    rcases zQ.owned h1 with ⟨e,e'⟩ | ⟨b,o,c,e,_⟩
    ·injection e with _ e2 _;rw [e2,<- h2,e'];rfl
    ·injection e with _ e2 _;rw [e2,h2]
   have LD:=hid (((Gr.refl A).alloc (.cells #[.slice va fK vc] 32)).drew)
   have pA:Hid (xB (λb=>((C b/\b<w.heap.size)\/W.heap.size+7<=b)\/A.heap.size<=b) A (.slice va fK vc) Rf):=⟨ys,zQ.owned sQ.out,Bh.out.mono λa b h=>h.to λ_ h _ => .inl h.1⟩
   have WC:=HV.out.rE
   have Rx:=hid (pK (C:=λb=>((C b/\b<w.heap.size)\/W.heap.size+7<=b)\/A.heap.size<=b) (b:=A.heap.size) (off:=0) (n:=1) (c:=1) (vs := [.slice va fK vc]) (qS := [Rf]) (w:=(A.alloc (.cells #[.slice va fK vc] 32)).drew) (λj hj => .inr (by have:=LD.out.size;omega)) (Wz.out.bel LD.out.below) rfl rfl (by simp)
    (λj hj=>by obtain rfl:j=0:=(by simpa using hj);simp)
    (λj hj=>by obtain rfl:j=0:=(by simpa using hj);exact pA.out.bel LD.out.below)
    (by simp;omega) (by omega))
   have hrl:rl=t.rows.length:=HV.out.rl
   have x0:A.drew.cell? ⟨w.heap.size,0,none⟩=some (.slice ta tn tc):=s0
   have x1:A.drew.cell? ⟨tB,0,none⟩=some (.string vn):=d1
   have x2:A.drew.cell? ⟨tB,1,none⟩=some (.slice ca cl cc):=d2
   have x3:A.drew.cell? ⟨tB,2,none⟩=some (.slice ra rl rc):=d3
   have x4:A.drew.cell? ⟨W.heap.size,0,none⟩=some (.slice va fK vc):=r0
   have x5:A.drew.cell? ⟨W.heap.size+1,0,none⟩=some (.int .i64 (cnt:Nat)):=U0
   have Pc:=hid hrl
   have Ys:=hid hvl
   have Tw:Hid (rl<=1000/\fK<=rl):=⟨by omega,by omega⟩
   have WD:=Tw.out.1
   have WE:=Tw.out.2
   clear hrl hvl hRl
   gi_wp2
   refine wpIn_wide.2 ?_
   have z0:(A.alloc (.cells #[.slice va fK vc] 32)).drew.cell? ⟨w.heap.size,0,none⟩=some (.slice ta tn tc):=aH (w:=A) s0
   have z1:(A.alloc (.cells #[.slice va fK vc] 32)).drew.cell? ⟨tB,0,none⟩=some (.string vn):=aH (w:=A) d1
   have z2:(A.alloc (.cells #[.slice va fK vc] 32)).drew.cell? ⟨tB,1,none⟩=some (.slice ca cl cc):=aH (w:=A) d2
   have z3:(A.alloc (.cells #[.slice va fK vc] 32)).drew.cell? ⟨tB,2,none⟩=some (.slice ra rl rc):=aH (w:=A) d3
   have z4:(A.alloc (.cells #[.slice va fK vc] 32)).drew.cell? ⟨W.heap.size,0,none⟩=some (.slice va fK vc):=aH (w:=A) r0
   have z5:(A.alloc (.cells #[.slice va fK vc] 32)).drew.cell? ⟨W.heap.size+1,0,none⟩=some (.int .i64 (cnt:Nat)):=aH (w:=A) U0
   have j4:W.heap.size+1≠w.heap.size+2:=by omega
   have j1:w.heap.size≠w.heap.size+2:=by omega
   have j2:tB≠w.heap.size+2:=by omega
   have j3:W.heap.size≠w.heap.size+2:=by omega
   go_region_held3 (λw'=>w'.cell? ⟨w.heap.size,0,none⟩=some (.slice ta tn tc)/\w'.cell? ⟨tB,0,none⟩=some (.string vn)/\w'.cell? ⟨tB,1,none⟩=some (.slice ca cl cc)/\w'.cell? ⟨tB,2,none⟩=some (.slice ra rl rc)/\w'.cell? ⟨W.heap.size,0,none⟩=some (.slice va fK vc)/\w'.cell? ⟨W.heap.size+1,0,none⟩=some (.int .i64 (cnt:Nat)))
    (first | (with_reducible exact ⟨x0,x1,x2,x3,x4,x5⟩) | (with_reducible exact ⟨s0,d1,d2,d3,r0,U0⟩) | (with_reducible exact ⟨z0,z1,z2,z3,z4,z5⟩) | (with_reducible exact ⟨a0,a1,a2,a3,a4,a5⟩) | (with_reducible exact ⟨b0',b1',b2',b3',Tx,YE⟩) | (with_reducible exact ⟨d8 j1 b0',d8 j2 b1',d8 j2 b2',d8 j2 b3',d8 j3 Tx,d8 j4 YE⟩) | go_keep)
    (first | (go_at_call 148;refine Rx.out.mono ?_;rintro e1 B1 ⟨v1,rfl,⟨V1,rfl,hV1⟩,hb1⟩;have a0:=(hb1.cell (p:=⟨w.heap.size,0,none⟩) (cell_lt z0)).trans z0;have a1:=(hb1.cell (p:=⟨tB,0,none⟩) (cell_lt z1)).trans z1;have a2:=(hb1.cell (p:=⟨tB,1,none⟩) (cell_lt z1)).trans z2;have a3:=(hb1.cell (p:=⟨tB,2,none⟩) (cell_lt z1)).trans z3;have a4:=(hb1.cell (p:=⟨W.heap.size,0,none⟩) (cell_lt z4)).trans z4;have a5:=(hb1.cell (p:=⟨W.heap.size+1,0,none⟩) (cell_lt z5)).trans z5;have Fk:Hid (RowKit.Below A.heap.size A B1):=(LD.out.below.trans (hb1.mono LD.out.size));have Tz:=hid (C9 Wy.out hV1 Fk.out hTl);clear hb1 hV1) | (have _hx:=Tz;go_at_call 86;refine Tz.out.mono ?_;rintro e2 B2 ⟨v2,rfl,hT2,hb2⟩;have b0':=(hb2.cell (p:=⟨w.heap.size,0,none⟩) (cell_lt a0)).trans a0;have b1':=(hb2.cell (p:=⟨tB,0,none⟩) (cell_lt a1)).trans a1;have b2':=(hb2.cell (p:=⟨tB,1,none⟩) (cell_lt a1)).trans a2;have b3':=(hb2.cell (p:=⟨tB,2,none⟩) (cell_lt a1)).trans a3;have Tx:=(hb2.cell (p:=⟨W.heap.size,0,none⟩) (cell_lt a4)).trans a4;have YE:=(hb2.cell (p:=⟨W.heap.size+1,0,none⟩) (cell_lt a5)).trans a5;have Fl:Hid (RowKit.Below A.heap.size A B2):=Fk.out.trans (hb2.mono Fk.out.size);have HT2:=hid hT2;obtain ⟨QE,QF,QG,rfl⟩:=hT2.sl;have TA:=hid (My.out.below Fl.out);obtain ⟨⟨y0,y1,y2,y3,y4⟩,f0,f1,f2,f3,f4⟩:=TA.out.five;clear hb2 hT2))
   have hDf:(((((B2.setCell ⟨w.heap.size+2,0,none⟩ (.int .i64 0)).setCell ⟨w.heap.size+2,1,none⟩ (.int .i64 0)).setCell ⟨w.heap.size+2,2,none⟩ (.int .i64 0)).setCell ⟨w.heap.size+2,3,none⟩ (.slice none 0 0)).setCell ⟨w.heap.size+2,4,none⟩ (.int .i64 ((cnt:Nat):Int))).heap[W.heap.size+4]?=some (.deferred (some [])):=(b7 (show W.heap.size+4≠w.heap.size+2 by omega) _ _ _ _ _).trans ((Fl.out.block _ QD).trans (by have:=Qw.out;rw [hz2] at this;exact this))
   have QH:=hid hDf
   clear hDf
   gi_wp2
   have hDf:=QH.out
   obtain ⟨k0,k1,k2,k3,k4⟩:=vQ (d:=W.heap.size+4) (o := .deferred none) TA.out (by omega) (.int .i64 0) (.int .i64 0) (.int .i64 0) (.slice none 0 0) (.int .i64 ((cnt:Nat):Int))
   refine ⟨by simp, .inl ⟨_,_,rfl,run_takeDeferred hDf,?_⟩⟩
   refine ⟨.tuple #[.slice QE QF QG,c8 0 0 0 (.slice none 0 0) ((cnt:Nat):Int)],by simp [results,f91,go_sem,k0,k1,k2,k3,k4],_,rfl,⟨.slice QE QF QG,?_,?_⟩,?_⟩
   ·rw [<- Pi.out]
   ·rw [<- Nz.out]
    have WF:bV (λb=>((C b/\b<w.heap.size)\/W.heap.size+7<=b)\/A.heap.size<=b) B2 (eE { t with rows:=Rf } T) (.slice QE QF QG):=by
     have:=HT2.out
     simpa using this
    refine (WF.blk (by simp [World.setCell]) λb hb _=>?_).to λb hb _=>?_
    ·exact (World.putObj_heap_other (by rcases hb with (hb | hb) | hb <;> omega)).trans (b7 (show b≠w.heap.size+2 by rcases hb with (hb | hb) | hb <;> omega) _ _ _ _ _)
    ·rcases hb with (hb | hb) | hb
     ·exact hb.1
     ·exact HC.out b (by omega)
     ·exact HC.out b (by omega)
   ·exact (gH (nV.out.trans (Fl.out.mono nV.out.size)) (by omega) _ _ _ _ _).trans (belowK_b (w:=w) (aF _) _ (W.heap.size+4) _ _ (by omega) hDf rfl rfl)
end Go.Proofs.YtgnncnhkgmhngaaGreatDoor
