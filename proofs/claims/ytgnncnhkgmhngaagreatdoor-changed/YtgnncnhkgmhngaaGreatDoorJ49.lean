import Derived.Test.YtgnncnhkgmhngaaGreatDoorJ48
import Derived.Test.YtgnncnhkgmhngaaGreatDoorJ46
set_option maxHeartbeats 4000000
set_option maxRecDepth 100000
namespace Go.Proofs.YtgnncnhkgmhngaaGreatDoor
open Sp
open Tryz
open Go.RowKit Go.Sort
def fN (n:Int):ByteArray:=if n=0 then ⟨#[]⟩ else if n=1 then ⟨#[120]⟩ else if n=2 then ⟨#[105,116,39,115]⟩ else ⟨#[120,32,121]⟩
def d9 (a b:Int):List Sv.Val := [if pk a 6<5 then Sv.int (pk a 6) else Sv.null,if pk b 5<4 then Sv.text (fN (pk b 5)) else Sv.null]
def Rz (w:World) (v:Value) (vs:List Sv.Val):Prop:=∃ b c,v = .slice (some ⟨b,0,none⟩) vs.length c/\Hv w b 0 vs
theorem Rz.rn {w:World} {v:Value} {vs:List Sv.Val} (h:Rz w v vs):Rn w v vs:=by obtain ⟨b,c,e,hv⟩:=h;exact ⟨b,0,c,e,hv⟩
theorem jP (w0:World) (u v:Sv.Val) (t:TypeId) (o:Obj) (n:Nat) (hn:n=w0.heap.size) :
  Rz ((w0.alloc (.cells #[.int .i64 u.k, .int .i64 u.n, .string u.s, .int .i64 v.k, .int .i64 v.n, .string v.s] t)).alloc o) (.slice (some ⟨n,0,none⟩) 2 2) [u,v]:=by
 subst hn
 have g:Gr (w0.alloc (.cells #[.int .i64 u.k, .int .i64 u.n, .string u.s, .int .i64 v.k, .int .i64 v.n, .string v.s] t)) ((w0.alloc (.cells #[.int .i64 u.k, .int .i64 u.n, .string u.s, .int .i64 v.k, .int .i64 v.n, .string v.s] t)).alloc o):=(Gr.refl _).alloc o
 refine ⟨w0.heap.size,2,rfl,Hv.gr ?_ g⟩
 refine ⟨by simp,?_,?_,?_⟩
 all_goals
  intro j hj
  have:j=0\/j=1:=by simp at hj;omega
  rcases this with rfl | rfl <;> simp
theorem sU (a b:Int) (w:World) (ha:-9223372036854775808<=a) (ha2:a<=9223372036854775807) (hb:-9223372036854775808<=b) (hb2:b<=9223372036854775807) :
  Calls prog 35 #[.agg #[.int .i64 a, .int .i64 b]] w λe w'=>∃ v,e = .returned v/\Rz w' v (d9 a b)/\Gr w w':=by
 have PA:Hid (∀ w,Calls prog 22 #[.int .i64 a, .int .i64 6] w λe w'=>e = .returned (.int .i64 (pk a 6))/\w'=w):=λw=>pick_any a 6 w ha ha2 (by omega) (by omega)
 have PB:Hid (∀ w,Calls prog 22 #[.int .i64 b, .int .i64 5] w λe w'=>e = .returned (.int .i64 (pk b 5))/\w'=w):=λw=>pick_any b 5 w hb hb2 (by omega) (by omega)
 have LA:=vS a 6 (by omega)
 have LB:=vS b 5 (by omega)
 unfold d9
 generalize pk a 6=x at PA LA ⊢
 generalize pk b 5=y at PB LB ⊢
 have PC:Hid (∀ (p q r:Int) (w:World),(p=a/\q=6/\r=x)\/(p=b/\q=5/\r=y)->Calls prog 22 #[.int .i64 p, .int .i64 q] w λe w'=>e = .returned (.int .i64 r)/\w'=w):=by
  rintro p q r w (⟨rfl,rfl,rfl⟩ | ⟨rfl,rfl,rfl⟩)
  ·exact PA.out w
  ·exact PB.out w
 clear PA PB
 have Yx:y=0\/y=1\/y=2\/y=3\/y=4:=by omega
 by_cases hx:x<5
 ·rw [if_pos hx]
  rcases Yx with rfl | rfl | rfl | rfl | rfl
  ·rw [if_pos (by decide)]
   go_enter func35,ntmps35
   go_wp2_with (go_at_call 22;refine (PC.out _ _ _ _ (by first | exact .inl ⟨rfl,rfl,rfl⟩ | exact .inr ⟨rfl,rfl,rfl⟩)).mono ?_;rintro e w' ⟨rfl,rfl⟩)
   go_ret
   exact ⟨_,rfl,jP _ (Sv.int x) (Sv.text (fN 0)) _ _ _ (by simp),(((Gr.refl w).alloc _).alloc _).alloc _⟩
  ·rw [if_pos (by decide)]
   go_enter func35,ntmps35
   go_wp2_with (go_at_call 22;refine (PC.out _ _ _ _ (by first | exact .inl ⟨rfl,rfl,rfl⟩ | exact .inr ⟨rfl,rfl,rfl⟩)).mono ?_;rintro e w' ⟨rfl,rfl⟩)
   go_ret
   exact ⟨_,rfl,jP _ (Sv.int x) (Sv.text (fN 1)) _ _ _ (by simp),(((Gr.refl w).alloc _).alloc _).alloc _⟩
  ·rw [if_pos (by decide)]
   go_enter func35,ntmps35
   go_wp2_with (go_at_call 22;refine (PC.out _ _ _ _ (by first | exact .inl ⟨rfl,rfl,rfl⟩ | exact .inr ⟨rfl,rfl,rfl⟩)).mono ?_;rintro e w' ⟨rfl,rfl⟩)
   go_ret
   exact ⟨_,rfl,jP _ (Sv.int x) (Sv.text (fN 2)) _ _ _ (by simp),(((Gr.refl w).alloc _).alloc _).alloc _⟩
  ·rw [if_pos (by decide)]
   go_enter func35,ntmps35
   go_wp2_with (go_at_call 22;refine (PC.out _ _ _ _ (by first | exact .inl ⟨rfl,rfl,rfl⟩ | exact .inr ⟨rfl,rfl,rfl⟩)).mono ?_;rintro e w' ⟨rfl,rfl⟩)
   go_ret
   exact ⟨_,rfl,jP _ (Sv.int x) (Sv.text (fN 3)) _ _ _ (by simp),(((Gr.refl w).alloc _).alloc _).alloc _⟩
  ·rw [if_neg (by decide)]
   go_enter func35,ntmps35
   go_wp2_with (go_at_call 22;refine (PC.out _ _ _ _ (by first | exact .inl ⟨rfl,rfl,rfl⟩ | exact .inr ⟨rfl,rfl,rfl⟩)).mono ?_;rintro e w' ⟨rfl,rfl⟩)
   go_ret
   exact ⟨_,rfl,jP _ (Sv.int x) Sv.null _ _ _ (by simp),(((Gr.refl w).alloc _).alloc _).alloc _⟩
 ·rw [if_neg hx]
  rcases Yx with rfl | rfl | rfl | rfl | rfl
  ·rw [if_pos (by decide)]
   go_enter func35,ntmps35
   go_wp2_with (go_at_call 22;refine (PC.out _ _ _ _ (by first | exact .inl ⟨rfl,rfl,rfl⟩ | exact .inr ⟨rfl,rfl,rfl⟩)).mono ?_;rintro e w' ⟨rfl,rfl⟩)
   go_ret
   exact ⟨_,rfl,jP _ Sv.null (Sv.text (fN 0)) _ _ _ (by simp),(((Gr.refl w).alloc _).alloc _).alloc _⟩
  ·rw [if_pos (by decide)]
   go_enter func35,ntmps35
   go_wp2_with (go_at_call 22;refine (PC.out _ _ _ _ (by first | exact .inl ⟨rfl,rfl,rfl⟩ | exact .inr ⟨rfl,rfl,rfl⟩)).mono ?_;rintro e w' ⟨rfl,rfl⟩)
   go_ret
   exact ⟨_,rfl,jP _ Sv.null (Sv.text (fN 1)) _ _ _ (by simp),(((Gr.refl w).alloc _).alloc _).alloc _⟩
  ·rw [if_pos (by decide)]
   go_enter func35,ntmps35
   go_wp2_with (go_at_call 22;refine (PC.out _ _ _ _ (by first | exact .inl ⟨rfl,rfl,rfl⟩ | exact .inr ⟨rfl,rfl,rfl⟩)).mono ?_;rintro e w' ⟨rfl,rfl⟩)
   go_ret
   exact ⟨_,rfl,jP _ Sv.null (Sv.text (fN 2)) _ _ _ (by simp),(((Gr.refl w).alloc _).alloc _).alloc _⟩
  ·rw [if_pos (by decide)]
   go_enter func35,ntmps35
   go_wp2_with (go_at_call 22;refine (PC.out _ _ _ _ (by first | exact .inl ⟨rfl,rfl,rfl⟩ | exact .inr ⟨rfl,rfl,rfl⟩)).mono ?_;rintro e w' ⟨rfl,rfl⟩)
   go_ret
   exact ⟨_,rfl,jP _ Sv.null (Sv.text (fN 3)) _ _ _ (by simp),(((Gr.refl w).alloc _).alloc _).alloc _⟩
  ·rw [if_neg (by decide)]
   go_enter func35,ntmps35
   go_wp2_with (go_at_call 22;refine (PC.out _ _ _ _ (by first | exact .inl ⟨rfl,rfl,rfl⟩ | exact .inr ⟨rfl,rfl,rfl⟩)).mono ?_;rintro e w' ⟨rfl,rfl⟩)
   go_ret
   exact ⟨_,rfl,jP _ Sv.null Sv.null _ _ _ (by simp),(((Gr.refl w).alloc _).alloc _).alloc _⟩
def Fy (x:Int):List UInt8:=if x<5 then [UInt8.ofNat (48+x.toNat)] else [110,117,108,108]
def Fz (y:Int):List UInt8:=if y<4 then 39::xE (fN y).toList ++ [39] else [110,117,108,108]
def iY (a b:Int):List UInt8 := [40]++Fy (pk a 6) ++ [44,32]++Fz (pk b 5) ++ [41]
theorem oG (y:Int):(fN y).size<=4:=by
 unfold fN;split
 ·decide
 ·split
  ·decide
  ·split <;> decide
theorem GI (c:UInt8):(⟨#[c]⟩:ByteArray).toList = [c]:=by rw [pV]
theorem NP (c d:UInt8):(⟨#[c,d]⟩:ByteArray).toList = [c,d]:=by rw [pV]
theorem QO (c d e f:UInt8):(⟨#[c,d,e,f]⟩:ByteArray).toList = [c,d,e,f]:=by rw [pV]
structure Two (w:World) (bv ov:Nat) (u v:Sv.Val):Prop where
 lb:bv<w.heap.size
 k0:w.cell? ⟨bv,ov,none⟩=some (.int .i64 u.k)
 n0:w.cell? ⟨bv,ov+1,none⟩=some (.int .i64 u.n)
 k1:w.cell? ⟨bv,ov+3,none⟩=some (.int .i64 v.k)
 s1:w.cell? ⟨bv,ov+3+2,none⟩=some (.string v.s)
theorem Two.of {w:World} {bv ov:Nat} {u v:Sv.Val} (h:Hv w bv ov [u,v]):Two w bv ov u v:=
 ⟨h.lb,by have:=h.k 0 (by simp);simpa using this,by have:=h.n 0 (by simp);simpa using this,by have:=h.k 1 (by simp);simpa using this,by have:=h.s 1 (by simp);simpa using this⟩
theorem Two.gr {w w' : World} {bv ov:Nat} {u v:Sv.Val} (h:Two w bv ov u v) (g:Gr w w'):Two w' bv ov u v:=
 ⟨b6 h.lb g.size,(g.cell (p:=⟨bv,_,none⟩) h.lb).trans h.k0,(g.cell (p:=⟨bv,_,none⟩) h.lb).trans h.n0,(g.cell (p:=⟨bv,_,none⟩) h.lb).trans h.k1,(g.cell (p:=⟨bv,_,none⟩) h.lb).trans h.s1⟩
theorem zB (a b:Int) (w:World) (ha:-9223372036854775808<=a) (ha2:a<=9223372036854775807) (hb:-9223372036854775808<=b) (hb2:b<=9223372036854775807) :
  Calls prog 33 #[.agg #[.int .i64 a, .int .i64 b]] w λe w'=>∃ r:ByteArray,e = .returned (.string r)/\r.toList=iY a b/\Gr w w':=by
 have LA:=vS a 6 (by omega)
 have PV:Hid (∀ u v,u=(if pk a 6<5 then Sv.int (pk a 6) else Sv.null)->v=(if pk b 5<4 then Sv.text (fN (pk b 5)) else Sv.null)->∀ w,Calls prog 35 #[.agg #[.int .i64 a, .int .i64 b]] w λe w'=>∃ bv ov cv,e = .returned (.slice (some ⟨bv,ov,none⟩) 2 cv)/\w'.cell? ⟨bv,ov,none⟩=some (.int .i64 u.k)/\w'.cell? ⟨bv,ov+1,none⟩=some (.int .i64 u.n)/\w'.cell? ⟨bv,ov+3,none⟩=some (.int .i64 v.k)/\w'.cell? ⟨bv,ov+3+2,none⟩=some (.string v.s)/\Hid (bv<w'.heap.size)/\Hid (Gr w w')):=by
  rintro _ _ rfl rfl w
  refine (sU a b w ha ha2 hb hb2).mono ?_
  rintro e w' ⟨v,rfl,⟨bv,cv,rfl,hv⟩,hg⟩
  have t:=Two.of hv
  exact ⟨bv,0,cv,rfl,t.k0,t.n0,t.k1,t.s1,t.lb,hg⟩
 have HR:Hid (iY a b = [40]++Fy (pk a 6) ++ [44,32]++Fz (pk b 5) ++ [41]):=rfl
 generalize iY a b=TF at HR ⊢
 clear ha ha2 hb hb2
 generalize pk a 6=x at PV HR LA
 generalize pk b 5=y at PV HR
 by_cases hx:x<5
 ·by_cases hy:y<4
  ·have I1:=PV.out (Sv.int x) (Sv.text (fN y)) (if_pos hx).symm (if_pos hy).symm
   have ES:Hid (Fz y=_):=if_pos hy
   have EN:Hid (Fy x=_):=if_pos hx
   have DG:Hid (∀ w,Calls prog 23 #[.int .i64 x] w λe w'=>e = .returned (.string ⟨#[UInt8.ofNat (48+x.toNat)]⟩)/\Gr w w'):=λw=>pN x w LA.1 (by omega)
   have QT:Hid (∀ w,Calls prog 20 #[.string (fN y)] w λe w'=>(∃ r:ByteArray,e = .returned (.string r)/\r.toList=39::xE (fN y).toList ++ [39])/\w'=w):=λw=>vT (fN y) w (cF (oG y) (by omega))
   have LS:∀ {r:ByteArray},r.toList=39::xE (fN y).toList ++ [39]->r.size<=10:=λ{r} h=>by
    have:=AT (fN y).toList
    have e4:=size_of_list (r:=fN y) rfl
    have e5:=oG y
    rw [size_of_list h];simp;omega
   simp only [Sv.int,Sv.text] at I1
   generalize UInt8.ofNat (48+x.toNat)=dgt at DG EN
   generalize fN y=s at I1 QT ES LS
   clear PV LA hx hy
   go_enter func33,ntmps33
   go_wp2_with (first | (go_at_call 35;refine (I1 _).mono ?_;rintro e w1 ⟨bv,ov,cv,rfl,c0,c1,c2,c3,HL,y7⟩) | (go_at_call 23;refine (DG.out _).mono ?_;rintro e w2 ⟨rfl,hg2⟩;have d2:=(hg2.cell (p:=⟨bv,_,none⟩) HL.out).trans c2;have d3:=(hg2.cell (p:=⟨bv,_,none⟩) HL.out).trans c3;have HG2:=hid (y7.out.trans hg2);clear hg2) | (go_at_call 20;refine (QT.out _).mono ?_;rintro e w3 ⟨⟨r,rfl,hr⟩,rfl⟩;have hrs:r.size<=10:=LS hr;have HQ:=hid hr;clear hr))
   go_ret
   refine ⟨_,rfl,?_,(Gr.refl w).alloc _ |>.trans HG2.out⟩
   rw [HR.out,ES.out,EN.out]
   simp only [gU,GI,NP,HQ.out]
  ·have I1:=PV.out (Sv.int x) Sv.null (if_pos hx).symm (if_neg hy).symm
   have ES:Hid (Fz y=_):=if_neg hy
   have EN:Hid (Fy x=_):=if_pos hx
   have DG:Hid (∀ w,Calls prog 23 #[.int .i64 x] w λe w'=>e = .returned (.string ⟨#[UInt8.ofNat (48+x.toNat)]⟩)/\Gr w w'):=λw=>pN x w LA.1 (by omega)
   simp only [Sv.int,Sv.null] at I1
   generalize UInt8.ofNat (48+x.toNat)=dgt at DG EN
   clear PV LA hx hy
   go_enter func33,ntmps33
   go_wp2_with (first | (go_at_call 35;refine (I1 _).mono ?_;rintro e w1 ⟨bv,ov,cv,rfl,c0,c1,c2,c3,HL,y7⟩) | (go_at_call 23;refine (DG.out _).mono ?_;rintro e w2 ⟨rfl,hg2⟩;have d2:=(hg2.cell (p:=⟨bv,_,none⟩) HL.out).trans c2;have d3:=(hg2.cell (p:=⟨bv,_,none⟩) HL.out).trans c3;have HG2:=hid (y7.out.trans hg2);clear hg2))
   go_ret
   refine ⟨_,rfl,?_,(Gr.refl w).alloc _ |>.trans HG2.out⟩
   rw [HR.out,ES.out,EN.out]
   simp only [gU,GI,NP,QO]
   try simp
 ·by_cases hy:y<4
  ·have I1:=PV.out Sv.null (Sv.text (fN y)) (if_neg hx).symm (if_pos hy).symm
   have ES:Hid (Fz y=_):=if_pos hy
   have EN:Hid (Fy x=_):=if_neg hx
   have QT:Hid (∀ w,Calls prog 20 #[.string (fN y)] w λe w'=>(∃ r:ByteArray,e = .returned (.string r)/\r.toList=39::xE (fN y).toList ++ [39])/\w'=w):=λw=>vT (fN y) w (cF (oG y) (by omega))
   have LS:∀ {r:ByteArray},r.toList=39::xE (fN y).toList ++ [39]->r.size<=10:=λ{r} h=>by
    have:=AT (fN y).toList
    have e4:=size_of_list (r:=fN y) rfl
    have e5:=oG y
    rw [size_of_list h];simp;omega
   simp only [Sv.null,Sv.text] at I1
   generalize fN y=s at I1 QT ES LS
   clear PV LA hx hy
   go_enter func33,ntmps33
   go_wp2_with (first | (go_at_call 35;refine (I1 _).mono ?_;rintro e w1 ⟨bv,ov,cv,rfl,c0,c1,c2,c3,HL,y7⟩) | (go_at_call 20;refine (QT.out _).mono ?_;rintro e w3 ⟨⟨r,rfl,hr⟩,rfl⟩;have hrs:r.size<=10:=LS hr;have HQ:=hid hr;clear hr))
   go_ret
   refine ⟨_,rfl,?_,(Gr.refl w).alloc _ |>.trans y7.out⟩
   rw [HR.out,ES.out,EN.out]
   simp only [gU,GI,NP,QO,HQ.out]
   try simp
  ·have I1:=PV.out Sv.null Sv.null (if_neg hx).symm (if_neg hy).symm
   have ES:Hid (Fz y=_):=if_neg hy
   have EN:Hid (Fy x=_):=if_neg hx
   simp only [Sv.null] at I1
   clear PV LA hx hy
   go_enter func33,ntmps33
   go_wp2_with (first | (go_at_call 35;refine (I1 _).mono ?_;rintro e w1 ⟨bv,ov,cv,rfl,c0,c1,c2,c3,HL,y7⟩))
   go_ret
   refine ⟨_,rfl,?_,(Gr.refl w).alloc _ |>.trans y7.out⟩
   rw [HR.out,ES.out,EN.out]
   simp only [gU,GI,NP,QO]
   try simp
theorem own_ne {w:World} {base:Nat} {e:TypeId} {v:Value} {n:Nat} {xs:List Value} (h:w.ownsRow base e 1 v n xs) (hx:∀ u∈xs,∃ a l c,u = .slice a l c) {b:Nat} {vs:List Sv.Val} (hv:Hv w b 0 vs) (hvs:0<vs.length) (hn:0<n):v.ownBlock≠some b:=by
 intro hb
 have hl:0<xs.length:=by have:=h.1;omega
 have h1:=xU h hb 0 hl
 have h2:=hv.k 0 hvs
 simp only [Nat.zero_mul,Nat.add_zero] at h2
 rw [h1] at h2
 obtain ⟨a,l,c,e⟩:=hx _ (hU hl)
 rw [e] at h2
 simp at h2
structure Rs (w:World) (xs:List Value) (rs:List (List Sv.Val)):Prop where
 len:xs.length=rs.length
 at_:∀ i,(h:i<xs.length)->(h' : i<rs.length)->Rz w xs[i] rs[i]/\0<rs[i].length
theorem Rs.sl {w:World} {xs:List Value} {rs:List (List Sv.Val)} (h:Rs w xs rs):∀ u∈xs,∃ a l c,u = .slice a l c:=by
 intro u hu
 obtain ⟨i,hi,rfl⟩:=List.getElem_of_mem hu
 obtain ⟨⟨b,c,e,_⟩,_⟩:=h.at_ i hi (h.len ▸ hi)
 exact ⟨_,_,_,e⟩
theorem Hv.same {w w' : World} {b off:Nat} {vs:List Sv.Val} (h:Hv w b off vs) (hs:w.heap.size<=w'.heap.size) (hb:w'.heap[b]?=w.heap[b]?):Hv w' b off vs:=
 ⟨b6 h.lb hs,λj hj=>(dV (a:=⟨b,_,none⟩) hb).trans (h.k j hj),λj hj=>(dV (a:=⟨b,_,none⟩) hb).trans (h.n j hj),λj hj=>(dV (a:=⟨b,_,none⟩) hb).trans (h.s j hj)⟩
theorem Rz.gr {w w' : World} {v:Value} {vs:List Sv.Val} (h:Rz w v vs) (g:Gr w w'):Rz w' v vs:=by obtain ⟨b,c,e,hv⟩:=h;exact ⟨b,c,e,hv.gr g⟩
theorem Rs.gr {w w' : World} {xs:List Value} {rs:List (List Sv.Val)} (h:Rs w xs rs) (g:Gr w w'):Rs w' xs rs:=
 ⟨h.len,λi hi hi'=>⟨(h.at_ i hi hi').1.gr g,(h.at_ i hi hi').2⟩⟩
theorem Rs.snoc {w:World} {xs:List Value} {rs:List (List Sv.Val)} (h:Rs w xs rs) {v:Value} {r:List Sv.Val} (hv:Rz w v r) (hr:0<r.length):Rs w (xs ++ [v]) (rs ++ [r]):=by
 refine ⟨by simp [h.len],λi hi hi'=>?_⟩
 by_cases e:i<xs.length
 ·rw [List.getElem_append_left e,List.getElem_append_left (h.len ▸ e)];exact h.at_ i e _
 ·have e1:i=xs.length:=by simp at hi;omega
  subst e1
  have e2:=h.len
  simp only [List.getElem_append_right (aF _),Nat.sub_self,List.getElem_cons_zero]
  rw [List.getElem_append_right (by omega)]
  simp only [e2,Nat.sub_self,List.getElem_cons_zero]
  exact ⟨hv,hr⟩
theorem Rs.grown {w w' : World} {base:Nat} {e:TypeId} {v:Value} {n:Nat} {xs ys:List Value} {rs:List (List Sv.Val)} (h:Rs w ys rs) (ho:w.ownsRow base e 1 v n xs) (hx:∀ u∈xs,∃ a l c,u = .slice a l c) (hz:n=0->v = .slice none 0 0) (hg:w.grownBy w' v.ownBlock):Rs w' ys rs:=by
 refine ⟨h.len,λi hi hi'=>?_⟩
 obtain ⟨⟨b,c,ee,hv⟩,hr⟩:=h.at_ i hi hi'
 refine ⟨⟨b,c,ee,hv.same hg.size (hg.block b hv.lb ?_)⟩,hr⟩
 by_cases hn:0<n
 ·exact λe1=>own_ne ho hx hv hr hn e1.symm
 ·rw [hz (by omega)]
  intro e1;cases e1
structure Raw (w:World) (b off:Nat) (l:List (Int×Int)):Prop where
 lb:b<w.heap.size
 at_:∀ i,(h:i<l.length)->w.cell? ⟨b,off+i*2,none⟩=some (.int .i64 l[i].1)/\w.cell? ⟨b,off+i*2+1,none⟩=some (.int .i64 l[i].2)
 rng:∀ i,(h:i<l.length)->(-9223372036854775808<=l[i].1/\l[i].1<=9223372036854775807)/\(-9223372036854775808<=l[i].2/\l[i].2<=9223372036854775807)
def pO (l:List (Int×Int)):List (List Sv.Val):=l.map λx=>d9 x.1 x.2
theorem Dk:(prog.info? 41).map (λi=>(i.zero,i.size,i.bytes))=some (some (.slice none 0 0),1,24):=by kernel_rfl
theorem Dl (l:List (Int×Int)) (b off n c:Nat) (w:World) (hn:n=l.length) (hbig:n<=9223372036854775807) (hr:Raw w b off l) :
  Calls prog 19 #[.slice (some ⟨b,off,none⟩) n c] w λe w'=>(∃ v xs m,e = .returned v/\w'.ownsRow w.heap.size 41 1 v m xs/\Rs w' xs (pO (l.take 20)))/\Below w.heap.size w w':=by
 obtain ⟨i0,hi,hz0,hz1,hz2⟩:=info_parts Dk
 have HR:=hid hr
 have HN:=hid hn
 clear hr hn
 go_enter func19,ntmps19
 go_wp2
 go_loopw [3,4] (λv i wr=>∃ (k:Nat) (xs:List Value),k<=n/\k<=20/\i = .int .i64 k/\Hid (wr.ownsRow w.heap.size 41 1 v k xs)/\Hid (k=0->v = .slice none 0 0)/\Hid (Rs wr xs (pO (l.take k)))/\Hid (Below w.heap.size w wr)) (λ_ i _=>n - (intOf i).toNat)
 case atStart=>exact ⟨0, [],eX _,eX _,rfl,World.ownsRow_nil _ _ _ _,λ_=>rfl,⟨rfl,λi hi=>absurd hi (Nat.not_lt_zero _)⟩,Below.refl _ _⟩
 case round=>
  obtain ⟨k,xs,hk,jD,rfl,HO,HZ,HS,HB⟩:=hrel
  by_cases hlt:k<n
  ·by_cases Yy:k<20
   ·have hkz:k<l.length:=by have:=HN.out;omega
    obtain ⟨c0,c1⟩:=HR.out.at_ k hkz
    have d0:=(HB.out.cell (p:=⟨b,_,none⟩) HR.out.lb).trans c0
    have d1:=(HB.out.cell (p:=⟨b,_,none⟩) HR.out.lb).trans c1
    have PV:Hid (∀ w,Calls prog 35 #[.agg #[.int .i64 l[k].1, .int .i64 l[k].2]] w λe w'=>∃ b' m' c',e = .returned (.slice (some ⟨b',0,none⟩) m' c')/\Hid (Rz w' (.slice (some ⟨b',0,none⟩) m' c') (d9 l[k].1 l[k].2))/\Hid (Gr w w')):=λw=>by
     refine (sU _ _ w (HR.out.rng k hkz).1.1 (HR.out.rng k hkz).1.2 (HR.out.rng k hkz).2.1 (HR.out.rng k hkz).2.2).mono ?_
     rintro e w' ⟨v,rfl,hv,hg⟩
     obtain ⟨b',c',rfl,_⟩:=id hv
     exact ⟨b',_,c',rfl,hv,hg⟩
    have HT:Hid (pO (l.take (k+1))=pO (l.take k) ++ [d9 l[k].1 l[k].2]):=by
     show _=_
     rw [sA hkz];unfold pO;rw [List.map_append];rfl
    have MK:0<(d9 l[k].1 l[k].2).length:=by simp [d9]
    generalize d9 l[k].1 l[k].2=rv at PV HT MK
    generalize l[k].1=ra at d0 PV
    generalize l[k].2=rb at d1 PV
    clear c0 c1
    have HL2:=hid MK
    clear MK
    go_wp2_with fail
    refine (PV.out _).mono ?_
    rintro e w2 ⟨b',m',c',rfl,HV,HG⟩
    have fW:Hid (w2.ownsRow w.heap.size 41 1 u3 k xs):=aJ HO.out HG.out.below
    have HB2:Hid (Below w.heap.size w w2):=HB.out.trans (HG.out.below.mono HB.out.size)
    have HS2:Hid (Rs w2 (xs ++ [(.slice (some ⟨b',0,none⟩) m' c')]) (pO (l.take (k+1)))):=by
     show Rs _ _ _
     rw [HT.out];exact (HS.out.gr HG.out).snoc HV.out HL2.out
    have HX:Hid (∀ u∈xs,∃ a l c,u = .slice a l c):=HS.out.sl
    have H1:Hid (∀ u∈([(.slice (some ⟨b',0,none⟩) m' c')]:List Value),u.oneCell'=true):=λu hu=>by simp at hu;subst hu;rfl
    have H3:Hid (k+1<=maxLen):=by show _<=_;unfold maxLen;omega
    have H4:Hid ((k+1)*24<=140737488355328):=by show _<=_;omega
    have H5:Hid (w.heap.size<=(w2.alloc (.cells #[(.slice (some ⟨b',0,none⟩) m' c')] 41)).heap.size):=by have:=HB2.out.size;show _<=_;simp;omega
    go_wp2_with (at_builtin;refine wpList_append_own _ rfl (.tmp 21) (.tmp 23) 32 rfl w.heap.size 41 i0 (.slice none 0 0) 1 24 underlying32 hi hz0 hz1 hz2 rfl (by decide) _ _ _ rfl (fW.out.alloc _) ⟨w2.heap.size,0,none⟩ 1 1 [(.slice (some ⟨b',0,none⟩) m' c')] rfl rfl (new1 _ _ _) H1.out H3.out H4.out H5.out ?_)
    intro v' w3 hown' hgrow hnil
    have HB3:Hid (Below w.heap.size w w3):=(HB2.out.alloc HB2.out.size _).grown hgrow (by have:=HB2.out.size;simp;omega) (λq e=>(aB fW.out q e).1)
    have oA:=hid hown'
    have Um:Hid (Rs w3 (xs ++ [(.slice (some ⟨b',0,none⟩) m' c')]) (pO (l.take (k+1)))):=(HS2.out.gr ((Gr.refl _).alloc _)).grown (fW.out.alloc _) HX.out HZ.out hgrow
    clear hown' hgrow hnil
    go_wp2_with fail
    go_roundw
    case rel=>exact ⟨k+1,_,by omega,by omega,by go_num,oA,λe=>absurd e (by omega),Um,HB3⟩
    case measure=>simp [intOf];omega
   ·have hk:k=20:=by omega
    subst hk
    go_wp2_with fail
    go_ret
    exact ⟨⟨_,_,_,rfl,HO.out,HS.out⟩,HB.out⟩
  ·have HE:Hid (Rs wr xs (pO (l.take 20))):=by
    show Rs _ _ _
    have e1:l.take 20=l.take k:=by
     rw [tD (by have:=HN.out;omega),tD (by have:=HN.out;omega)]
    rw [e1];exact HS.out
   go_wp2_with fail
   go_ret
   exact ⟨⟨_,_,_,rfl,HO.out,HE.out⟩,HB.out⟩
theorem Pe {w:World} {base m:Nat} {e:TypeId} {v:Value} {xs:List Value} {rs:List (List Sv.Val)} (h:w.ownsRow base e 1 v m xs) (hr:Rs w xs rs):Lv w v rs:=by
 have hl:=h.1
 have hl2:=hr.len
 have hm:m=rs.length:=by omega
 rcases id h.2 with ⟨rfl,rfl⟩ | ⟨g,cap,cur,rfl,_,hc,_⟩
 ·exact .inl ⟨rfl,zE hm.symm⟩
 ·refine .inr ⟨g,0,cap,by rw [hm],⟨?_,λi hi=>?_⟩⟩
  ·rcases Nat.lt_or_ge g w.heap.size with x | x
   ·exact x
   ·rw [Array.getElem?_eq_none x] at hc;cases hc
  ·have hi' : i<xs.length:=by omega
   refine ⟨xs[i],?_,(hr.at_ i hi' hi).1.rn⟩
   rw [Nat.zero_add]
   exact xU h rfl i hi'
theorem I2 (l:List (Int×Int)) (b off c:Nat) (w:World) (hbig:l.length<=9223372036854775807) (hr:Raw w b off l) :
  Calls prog 19 #[.slice (some ⟨b,off,none⟩) l.length c] w λe w'=>∃ v,e = .returned v/\Lv w' v (pO (l.take 20))/\Gr w w':=by
 refine (Dr.nE (Dl l b off _ c w rfl hbig hr) (λ_ hx=>by obtain ⟨⟨_,_,_,e,_⟩,_⟩:=hx;cases e)).mono ?_
 rintro e w' ⟨⟨⟨v,xs,m,rfl,ho,hs⟩,hb⟩,hd⟩
 exact ⟨v,rfl,Pe ho hs,Gr.of hb hd⟩
theorem I3 (a:Option Addr) (c:Nat) (w:World):Calls prog 19 #[.slice a 0 c] w λe w'=>∃ v,e = .returned v/\Lv w' v []/\Gr w w':=by
 go_enter func19,ntmps19
 go_wp2
 go_loop [3,4] (λv i=>i = .int .i64 0/\v = .slice none 0 0) (λ_ _=>0)
 case atStart=>exact ⟨rfl,rfl⟩
 case round=>
  obtain ⟨rfl,rfl⟩:=hrel
  go_wp2
  go_ret
  exact ⟨_,rfl, .inl ⟨rfl,rfl⟩,Gr.refl _⟩
def rZ:List (Nat×Sv.Val)->List Sv.Val->List Sv.Val
 | [],r=>r
 | x::l,r=>rZ l (r.set x.1 x.2)
theorem Dm:∀ (l m:List (Nat×Sv.Val)) (r:List Sv.Val),rZ (l++m) r=rZ m (rZ l r)
 | [],_,_=>rfl
 | _::l,m,_=>Dm l m _
theorem vU:∀ (l:List (Nat×Sv.Val)) (r:List Sv.Val),(rZ l r).length=r.length
 | [],_=>rfl
 | _::l,_=>by rw [rZ,vU l];simp
theorem AU {w:World} {g o:Nat} {u:Value} {cur:Array Value} {e:TypeId} {fz:Nat×Nat} (h:w.heap[g]?=some (.cells cur e fz)):(w.setCell ⟨g,o,none⟩ u).heap[g]?=some (.cells (cur.setIfInBounds o u) e fz):=by
 simp [World.setCell,Array.getElem?_modify,h]
theorem AV {w:World} {base:Nat} {e:TypeId} {size:Nat} {v u:Value} {n o g:Nat} {xs:List Value} (h:w.ownsRow base e size v n xs) (hv:v.ownBlock=some g):(w.setCell ⟨g,o,none⟩ u).ownsRow base e size v n (xs.set o u):=by
 obtain ⟨hl,⟨h1,h2⟩ | ⟨g',cap,cur,hv',h0,hc,r1,r2,r3,r4⟩⟩:=h
 ·subst h1;cases hv
 ·subst hv'
  obtain rfl:g'=g:=by simpa [Value.ownBlock] using hv
  refine ⟨by simpa using hl, .inr ⟨g',cap,cur.setIfInBounds o u,rfl,h0,AU hc,r1,r2,by simpa using r3,?_⟩⟩
  rw [Array.toList_setIfInBounds,List.take_set,r4]
theorem Dn:∀ (vs:List Sv.Val) (c:Nat) (x:Sv.Val),c<vs.length->lE (vs.set c x)=(((lE vs).set (c*3) (.int .i64 x.k)).set (c*3+1) (.int .i64 x.n)).set (c*3+2) (.string x.s)
 | [],c,x,h=>by simp at h
 | v::vs,0,x,_=>by simp [lE]
 | v::vs,c+1,x,h=>by
  have ih:=Dn vs c x (by simpa using h)
  simp only [lE,List.set_cons_succ,List.flatMap_cons] at ih ⊢
  rw [ih]
  have e0:(c+1)*3=c*3+3:=by omega
  rw [e0]
  rfl
theorem kO.put {base:Nat} {w:World} {v:Value} {vs:List Sv.Val} {c g:Nat} {x:Sv.Val} (h:kO base w v vs) (hc:c<vs.length) (hv:v.ownBlock=some g) :
  kO base (((w.setCell ⟨g,c*3,none⟩ (.int .i64 x.k)).setCell ⟨g,c*3+1,none⟩ (.int .i64 x.n)).setCell ⟨g,c*3+2,none⟩ (.string x.s)) v (vs.set c x):=by
 unfold kO at h ⊢
 rw [Dn vs c x hc,List.length_set]
 exact AV (AV (AV h hv) hv) hv
theorem kO.fz {base:Nat} {w:World} {v:Value} {vs:List Sv.Val} {g:Nat} (h:kO base w v vs) (hv:v.ownBlock=some g) (o:Nat):w.frozen? ⟨g,o,none⟩=false:=by
 obtain ⟨hl,⟨h1,h2⟩ | ⟨g',cap,cur,hv',h0,hc,r⟩⟩:=h
 ·subst h1;cases hv
 ·subst hv'
  obtain rfl:g'=g:=by simpa [Value.ownBlock] using hv
  simp [World.frozen?,hc]
theorem Do {w:World} {q b o a1 a2 a3:Nat} {x y z v:Value} (h:b≠q) (hc:w.cell? ⟨b,o,none⟩=some v):(((w.setCell ⟨q,a1,none⟩ x).setCell ⟨q,a2,none⟩ y).setCell ⟨q,a3,none⟩ z).cell? ⟨b,o,none⟩=some v:=
 (dV (w:=w) (a:=⟨b,o,none⟩) (((c6 _ _ _ _ h).trans (c6 _ _ _ _ h)).trans (c6 _ _ _ _ h))).trans hc
theorem kO.WP {base:Nat} {w w' : World} {v:Value} {vs:List Sv.Val} (h:kO base w v vs) (g:Gr w w'):kO base w' v vs:=aJ h g.below
theorem kO.cells3 {base:Nat} {w:World} {g n cap c:Nat} {vs:List Sv.Val} (h:kO base w (.slice (some ⟨g,0,none⟩) n cap) vs) (hc:c<vs.length) :
  w.cell? ⟨g,c*3,none⟩=some (.int .i64 vs[c].k)/\w.cell? ⟨g,c*3+1,none⟩=some (.int .i64 vs[c].n)/\w.cell? ⟨g,c*3+2,none⟩=some (.string vs[c].s):=by
 obtain ⟨b,c',e,_,hv⟩:=h.hv (λe=>by rw [e] at hc;simp at hc)
 injection e with e1 e2 e3
 injection e1 with e1
 injection e1 with e1
 subst e1
 exact ⟨by simpa using hv.k c hc,by simpa using hv.n c hc,by simpa using hv.s c hc⟩
theorem AW {tt:TV} {g kc:Nat} {ks:List (Nat×Sv.Val)} {tv iv:Value} {env:List (List Row)} {r:Row} {w:World} (hkl:ks.length<=1000) (ha:oL w tv ([r]::env) iv) (hrl:r.length<=100000) (hk:∀ x∈ks,x.1<r.length) (hg:g<w.heap.size)
  (hE:∀ j (hj:j<ks.length),∃ (nm:ByteArray) (a1 a2:Int) (t:TypeId) (p:Value),w.cell? ⟨g,j*4,none⟩=some (.string nm)/\w.cell? ⟨g,j*4+1,none⟩=some (.int .i64 a1)/\w.cell? ⟨g,j*4+2,none⟩=some (.int .i64 a2)/\w.cell? ⟨g,j*4+3,none⟩=some (.iface t p)/\
   (∀ W,RowKit.Below w.heap.size w W->Calls prog 178 #[oW tt, .string nm] W λe W'=>e = .returned (.int .i64 (ks[j].1:Nat))/\Gr W W')/\(∀ W,RowKit.Below w.heap.size w W->Calls prog 194 #[.iface t p,iv] W λe W'=>e = .returned (dF ks[j].2)/\Gr W W')) :
  Calls prog 152 #[oW tt, .slice (some ⟨g,0,none⟩) ks.length kc,iv] w λe w'=>∃ u,e = .returned u/\kO w.heap.size w' u (rZ ks r)/\RowKit.Below w.heap.size w w':=by
 obtain ⟨ib,sv,ov,rfl,hib,c0,c1,c2,ht,hr⟩:=ha
 have HK:=hid hk
 have HE:=hid hE
 obtain ⟨n,hN⟩:∃ n,n=ks.length:=⟨_,rfl⟩
 have HN:=hid hN
 rw [<- hN] at hkl ⊢
 obtain ⟨tn,ca,cl,cc,ra,rl,rc⟩:=tt
 rw [show oW ⟨tn,ca,cl,cc,ra,rl,rc⟩ = .agg #[.string tn, .slice ca cl cc, .slice ra rl rc] from rfl]
 obtain ⟨va,vc,rfl⟩:=ht.sl
 obtain ⟨w0,hw0⟩:∃ w0,w0=w.alloc (.cells #[.string tn, .slice ca cl cc, .slice ra rl rc] 187):=⟨_,rfl⟩
 have G0:Hid (Gr w w0):=by show Gr _ _;rw [hw0];exact (Gr.refl w).alloc _
 have hz0:w0.heap.size=w.heap.size+1:=by rw [hw0];simp
 have HB0:Hid (B3 w0 w.heap.size (.string tn) (.slice ca cl cc) (.slice ra rl rc)):=by show B3 _ _ _ _ _;rw [hw0];exact B3.new w _ _ _ _
 have HT:=hid (ht.gr G0.out)
 have HC:=hid (sP (.slice va 1 vc) ⟨_,_,_,rfl⟩ w0)
 have HR:=hid (yW HT.out (by simp) (by simp) (by simpa using hrl))
 unfold IJ at HR
 rw [hz0] at HR
 have d1:=(G0.out.cell (p:=⟨ib,1,none⟩) hib).trans c1
 clear ht hr hk hE hN
 go_enter func152,ntmps152
 go_wp2_with fail
 rw [<- hw0]
 clear hw0
 refine HC.out.mono ?_
 rintro e w1 ⟨rfl,rfl⟩
 go_wp2_with fail
 refine HR.out.mono ?_
 rintro e w2 ⟨u,rfl,o2,b2⟩
 have fW:Hid (kO (w.heap.size+1) w2 u r):=by show kO _ _ _ _;simpa using o2
 have HB2:=hid b2
 obtain ⟨ua,uc,rfl⟩:=o2.sl
 have hzz:([r].flatten).length=r.length:=by simp
 rw [hzz] at fW ⊢
 obtain ⟨Ob,QP⟩:∃ z,z=r.length:=⟨_,rfl⟩
 have UR:=hid QP
 rw [<- QP] at fW hrl ⊢
 clear o2 b2 HC HR hzz QP
 go_wp2_with fail
 go_loopw [18] (λi wr=>∃ j:Nat,j<=n/\i = .int .i64 (j:Nat)/\Hid (kO (w.heap.size+1) wr (.slice ua Ob uc) (rZ (ks.take j) r))/\Hid (RowKit.Below (w.heap.size+1) w0 wr)) (λi _=>n - (intOf i).toNat)
 case atStart=>exact ⟨0,eX _,rfl,fW.out,HB2.out⟩
 case round=>
  obtain ⟨j,hj,rfl,HO,HB⟩:=hrel
  have Mi:Hid (RowKit.Below w.heap.size w wr):=G0.out.below.trans (HB.out.mono (by omega))
  have hwr:=HB.out.size
  by_cases hlt:j<n
  ·have hjz:j<ks.length:=by have:=HN.out;omega
   obtain ⟨nm,a1,a2,t1,p1,e0,e1,e2,e3,rF,Pt⟩:=HE.out j hjz
   have f0:=(Mi.out.cell (p:=⟨g,_,none⟩) hg).trans e0
   have f1:=(Mi.out.cell (p:=⟨g,_,none⟩) hg).trans e1
   have f2:=(Mi.out.cell (p:=⟨g,_,none⟩) hg).trans e2
   have f3:=(Mi.out.cell (p:=⟨g,_,none⟩) hg).trans e3
   have hcj:=HK.out _ (hU hjz)
   have hne:rZ (ks.take j) r ≠ []:=λe=>by have:=vU (ks.take j) r;rw [e] at this;simp at this;omega
   have hln:(rZ (ks.take j) r).length=Ob:=(vU _ _).trans UR.out.symm
   obtain ⟨gb,gc,he,hgb,hgv⟩:=HO.out.hv hne
   rw [hln] at he
   injection he with he1 he2 he3
   subst he1 he3
   have s0:=(HB.out.cell (p:=⟨w.heap.size,0,none⟩) (by show w.heap.size<_;omega)).trans HB0.out.c0
   have s1:=(HB.out.cell (p:=⟨w.heap.size,1,none⟩) (by show w.heap.size<_;omega)).trans HB0.out.c1
   have s2:=(HB.out.cell (p:=⟨w.heap.size,2,none⟩) (by show w.heap.size<_;omega)).trans HB0.out.c2
   obtain ⟨W1,hW1⟩:∃ W1,W1=wr.alloc (.cells #[.string nm, .int .i64 a1, .int .i64 a2, .iface t1 p1] 249):=⟨_,rfl⟩
   have G1:Hid (Gr wr W1):=by show Gr _ _;rw [hW1];exact (Gr.refl wr).alloc _
   have hz1:W1.heap.size=wr.heap.size+1:=by rw [hW1];simp
   have u0:W1.cell? ⟨wr.heap.size,0,none⟩=some (.string nm):=by rw [hW1];simp
   have u3:W1.cell? ⟨wr.heap.size,3,none⟩=some (.iface t1 p1):=by rw [hW1];simp
   have x0:=(G1.out.cell (p:=⟨w.heap.size,0,none⟩) (by show w.heap.size<_;omega)).trans s0
   have x1:=(G1.out.cell (p:=⟨w.heap.size,1,none⟩) (by show w.heap.size<_;omega)).trans s1
   have x2:=(G1.out.cell (p:=⟨w.heap.size,2,none⟩) (by show w.heap.size<_;omega)).trans s2
   have GD:=hid ((Gr.refl W1).drew)
   have Lo:=(GD.out.cell (p:=⟨w.heap.size,0,none⟩) (by show w.heap.size<_;omega)).trans x0
   have Lp:=(GD.out.cell (p:=⟨w.heap.size,1,none⟩) (by show w.heap.size<_;omega)).trans x1
   have Yz:=(GD.out.cell (p:=⟨w.heap.size,2,none⟩) (by show w.heap.size<_;omega)).trans x2
   have YA:=(GD.out.cell (p:=⟨wr.heap.size,0,none⟩) (by show wr.heap.size<_;omega)).trans u0
   have YB:=(GD.out.cell (p:=⟨wr.heap.size,3,none⟩) (by show wr.heap.size<_;omega)).trans u3
   have GW:=hid (G1.out.trans GD.out)
   have hzd:wr.heap.size+1<=W1.drew.heap.size:=by show _<=W1.heap.size;omega
   have BW:Hid (RowKit.Below w.heap.size w W1.drew):=Mi.out.trans (GW.out.below.mono (by omega))
   have P0:=hid (rF _ BW.out)
   have Pt:=hid Pt
   generalize hcv:ks[j].2=cv at *
   generalize hci:ks[j].1=ci at *
   have hcr:ci<Ob:=by have:=UR.out;omega
   have aAd : (ci:Int)<(Ob:Int):=by omega
   have hb1:w.heap.size≠gb:=by omega
   have hb2:wr.heap.size≠gb:=by have:=hgv.lb;omega
   obtain ⟨ck,cn,cs⟩:=cv
   clear rF e0 e1 e2 e3 s0 s1 s2
   go_wp2_with fail
   rw [<- hW1]
   clear hW1 f0 f1 f2 f3
   go_region_held3 (λw'=>w'.cell? ⟨w.heap.size,0,none⟩=some (.string tn)/\w'.cell? ⟨w.heap.size,1,none⟩=some (.slice ca cl cc)/\w'.cell? ⟨w.heap.size,2,none⟩=some (.slice ra rl rc)/\w'.cell? ⟨wr.heap.size,0,none⟩=some (.string nm)/\w'.cell? ⟨wr.heap.size,3,none⟩=some (.iface t1 p1))
    (first | (with_reducible exact ⟨Lo,Lp,Yz,YA,YB⟩) | (with_reducible exact ⟨x0,x1,x2,u0,u3⟩) | (with_reducible exact ⟨y0,y1,y2,y3,y4⟩) | (with_reducible exact ⟨z0,z1,z2,z3,z4⟩) | (with_reducible exact ⟨Do hb1 z0,Do hb1 z1,Do hb1 z2,Do hb2 z3,Do hb2 z4⟩) | go_keep)
    (first | (go_at_call 178;refine P0.out.mono ?_;rintro e4 w4 ⟨rfl,g4⟩;have y0:=(g4.cell (p:=⟨w.heap.size,0,none⟩) (by show w.heap.size<_;omega)).trans Lo;have y1:=(g4.cell (p:=⟨w.heap.size,1,none⟩) (by show w.heap.size<_;omega)).trans Lp;have y2:=(g4.cell (p:=⟨w.heap.size,2,none⟩) (by show w.heap.size<_;omega)).trans Yz;have y3:=(g4.cell (p:=⟨wr.heap.size,0,none⟩) (by show wr.heap.size<_;omega)).trans YA;have y4:=(g4.cell (p:=⟨wr.heap.size,3,none⟩) (by show wr.heap.size<_;omega)).trans YB;have Ik:=hid g4;have tH:=g4.size;have BW4:=hid (BW.out.trans (g4.below.mono (by omega)));clear g4) | (go_at_call 194;refine (Pt.out _ BW4.out).mono ?_;rintro e5 w5 ⟨rfl,g5⟩;have z0:=(g5.cell (p:=⟨w.heap.size,0,none⟩) (by show w.heap.size<_;omega)).trans y0;have z1:=(g5.cell (p:=⟨w.heap.size,1,none⟩) (by show w.heap.size<_;omega)).trans y1;have z2:=(g5.cell (p:=⟨w.heap.size,2,none⟩) (by show w.heap.size<_;omega)).trans y2;have z3:=(g5.cell (p:=⟨wr.heap.size,0,none⟩) (by show wr.heap.size<_;omega)).trans y3;have z4:=(g5.cell (p:=⟨wr.heap.size,3,none⟩) (by show wr.heap.size<_;omega)).trans y4;have rK:=hid (Ik.out.trans g5);have wB:=hid (HO.out.WP (GW.out.trans rK.out));obtain ⟨v0,v1,v2⟩:=wB.out.cells3 (hln.symm ▸ hcr);have q0:=wB.out.fz rfl (ci*3);have q1:=wB.out.fz rfl (ci*3+1);have q2:=wB.out.fz rfl (ci*3+2);have hg5:=(GW.out.trans rK.out).size;clear g5))
   have UI:Hid (kO (w.heap.size+1) (((w5.setCell ⟨gb,ci*3,none⟩ (.int .i64 ck)).setCell ⟨gb,ci*3+1,none⟩ (.int .i64 cn)).setCell ⟨gb,ci*3+2,none⟩ (.string cs)) (.slice (some ⟨gb,0,none⟩) Ob uc) (rZ (ks.take (j+1)) r)):=by
    have h:=wB.out.put (c:=ci) (x:=⟨ck,cn,cs⟩) (hln.symm ▸ hcr) rfl
    show kO _ _ _ _
    rw [sA hjz,Dm]
    simp only [rZ]
    rw [hci,hcv]
    exact h
   have Bd:Hid (RowKit.Below (w.heap.size+1) w0 (((w5.setCell ⟨gb,ci*3,none⟩ (.int .i64 ck)).setCell ⟨gb,ci*3+1,none⟩ (.int .i64 cn)).setCell ⟨gb,ci*3+2,none⟩ (.string cs))):=
    (((HB.out.trans ((GW.out.trans rK.out).below.mono (by omega))).setCell (p:=⟨gb,_,none⟩) hgb _).setCell (p:=⟨gb,_,none⟩) hgb _).setCell (p:=⟨gb,_,none⟩) hgb _
   generalize ((w5.setCell ⟨gb,ci*3,none⟩ (.int .i64 ck)).setCell ⟨gb,ci*3+1,none⟩ (.int .i64 cn)).setCell ⟨gb,ci*3+2,none⟩ (.string cs)=w6 at *
   go_wp2_with fail
   go_roundw
   case rel=>exact ⟨j+1,by omega,by go_num,UI,Bd⟩
   case measure=>simp [intOf];omega
  ·have hje:ks.take j=ks:=tD (by have:=HN.out;omega)
   rw [hje] at HO
   go_wp2_with fail
   go_ret
   exact ⟨_,rfl,HO.out.lower (by omega),Mi.out⟩
end Go.Proofs.YtgnncnhkgmhngaaGreatDoor
