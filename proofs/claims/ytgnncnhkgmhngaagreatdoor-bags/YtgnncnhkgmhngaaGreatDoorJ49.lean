import Derived.Test.YtgnncnhkgmhngaaGreatDoorJ48
set_option maxHeartbeats 2000000
set_option maxRecDepth 100000
namespace Go.Proofs.YtgnncnhkgmhngaaGreatDoor
open Go.RowKit Go.Sort
def fD (n:Int):ByteArray:=if n=0 then ⟨#[]⟩ else if n=1 then ⟨#[120]⟩ else if n=2 then ⟨#[105,116,39,115]⟩ else ⟨#[120,32,121]⟩
def kW (a b:Int):List Sv.Val := [if pk a 6<5 then Sv.int (pk a 6) else Sv.null,if pk b 5<4 then Sv.text (fD (pk b 5)) else Sv.null]
def Rz (w:World) (v:Value) (vs:List Sv.Val):Prop:=∃ b c,v = .slice (some ⟨b,0,none⟩) vs.length c/\Hv w b 0 vs
theorem Rz.rn {w:World} {v:Value} {vs:List Sv.Val} (h:Rz w v vs):Rn w v vs:=by obtain ⟨b,c,e,hv⟩:=h;exact ⟨b,0,c,e,hv⟩
theorem jJ (w0:World) (u v:Sv.Val) (t:TypeId) (o:Obj) (n:Nat) (hn:n=w0.heap.size) :
  Rz ((w0.alloc (.cells #[.int .i64 u.k, .int .i64 u.n, .string u.s, .int .i64 v.k, .int .i64 v.n, .string v.s] t)).alloc o) (.slice (some ⟨n,0,none⟩) 2 2) [u,v]:=by
 subst hn
 have g:Gr (w0.alloc (.cells #[.int .i64 u.k, .int .i64 u.n, .string u.s, .int .i64 v.k, .int .i64 v.n, .string v.s] t)) ((w0.alloc (.cells #[.int .i64 u.k, .int .i64 u.n, .string u.s, .int .i64 v.k, .int .i64 v.n, .string v.s] t)).alloc o):=(Gr.refl _).alloc o
 refine ⟨w0.heap.size,2,rfl,Hv.gr ?_ g⟩
 refine ⟨by simp,?_,?_,?_⟩
 all_goals
  intro j hj
  have:j=0\/j=1:=by simp at hj;omega
  rcases this with rfl | rfl <;> simp
theorem sB (a b:Int) (w:World) (ha:-9223372036854775808<=a) (ha2:a<=9223372036854775807) (hb:-9223372036854775808<=b) (hb2:b<=9223372036854775807) :
  Calls Tryz.prog 35 #[.agg #[.int .i64 a, .int .i64 b]] w λe w'=>∃ v,e = .returned v/\Rz w' v (kW a b)/\Gr w w':=by
 have PA:Hid (∀ w,Calls Tryz.prog 22 #[.int .i64 a, .int .i64 6] w λe w'=>e = .returned (.int .i64 (pk a 6))/\w'=w):=λw=>pick_any a 6 w ha ha2 (by omega) (by omega)
 have PB:Hid (∀ w,Calls Tryz.prog 22 #[.int .i64 b, .int .i64 5] w λe w'=>e = .returned (.int .i64 (pk b 5))/\w'=w):=λw=>pick_any b 5 w hb hb2 (by omega) (by omega)
 have LA:=CC a 6 (by omega)
 have LB:=CC b 5 (by omega)
 unfold kW
 generalize pk a 6=x at PA LA ⊢
 generalize pk b 5=y at PB LB ⊢
 have PC:Hid (∀ (p q r:Int) (w:World),(p=a/\q=6/\r=x)\/(p=b/\q=5/\r=y)->Calls Tryz.prog 22 #[.int .i64 p, .int .i64 q] w λe w'=>e = .returned (.int .i64 r)/\w'=w):=by
  rintro p q r w (⟨rfl,rfl,rfl⟩ | ⟨rfl,rfl,rfl⟩)
  ·exact PA.out w
  ·exact PB.out w
 clear PA PB
 have WH:y=0\/y=1\/y=2\/y=3\/y=4:=by omega
 by_cases hx:x<5
 ·rw [if_pos hx]
  rcases WH with rfl | rfl | rfl | rfl | rfl
  ·rw [if_pos (by decide)]
   go_enter Tryz.func35,Tryz.ntmps35
   go_wp2_with (go_at_call 22;refine (PC.out _ _ _ _ (by first | exact .inl ⟨rfl,rfl,rfl⟩ | exact .inr ⟨rfl,rfl,rfl⟩)).mono ?_;rintro e w' ⟨rfl,rfl⟩)
   go_ret
   exact ⟨_,rfl,jJ _ (Sv.int x) (Sv.text (fD 0)) _ _ _ (by simp),(((Gr.refl w).alloc _).alloc _).alloc _⟩
  ·rw [if_pos (by decide)]
   go_enter Tryz.func35,Tryz.ntmps35
   go_wp2_with (go_at_call 22;refine (PC.out _ _ _ _ (by first | exact .inl ⟨rfl,rfl,rfl⟩ | exact .inr ⟨rfl,rfl,rfl⟩)).mono ?_;rintro e w' ⟨rfl,rfl⟩)
   go_ret
   exact ⟨_,rfl,jJ _ (Sv.int x) (Sv.text (fD 1)) _ _ _ (by simp),(((Gr.refl w).alloc _).alloc _).alloc _⟩
  ·rw [if_pos (by decide)]
   go_enter Tryz.func35,Tryz.ntmps35
   go_wp2_with (go_at_call 22;refine (PC.out _ _ _ _ (by first | exact .inl ⟨rfl,rfl,rfl⟩ | exact .inr ⟨rfl,rfl,rfl⟩)).mono ?_;rintro e w' ⟨rfl,rfl⟩)
   go_ret
   exact ⟨_,rfl,jJ _ (Sv.int x) (Sv.text (fD 2)) _ _ _ (by simp),(((Gr.refl w).alloc _).alloc _).alloc _⟩
  ·rw [if_pos (by decide)]
   go_enter Tryz.func35,Tryz.ntmps35
   go_wp2_with (go_at_call 22;refine (PC.out _ _ _ _ (by first | exact .inl ⟨rfl,rfl,rfl⟩ | exact .inr ⟨rfl,rfl,rfl⟩)).mono ?_;rintro e w' ⟨rfl,rfl⟩)
   go_ret
   exact ⟨_,rfl,jJ _ (Sv.int x) (Sv.text (fD 3)) _ _ _ (by simp),(((Gr.refl w).alloc _).alloc _).alloc _⟩
  ·rw [if_neg (by decide)]
   go_enter Tryz.func35,Tryz.ntmps35
   go_wp2_with (go_at_call 22;refine (PC.out _ _ _ _ (by first | exact .inl ⟨rfl,rfl,rfl⟩ | exact .inr ⟨rfl,rfl,rfl⟩)).mono ?_;rintro e w' ⟨rfl,rfl⟩)
   go_ret
   exact ⟨_,rfl,jJ _ (Sv.int x) Sv.null _ _ _ (by simp),(((Gr.refl w).alloc _).alloc _).alloc _⟩
 ·rw [if_neg hx]
  rcases WH with rfl | rfl | rfl | rfl | rfl
  ·rw [if_pos (by decide)]
   go_enter Tryz.func35,Tryz.ntmps35
   go_wp2_with (go_at_call 22;refine (PC.out _ _ _ _ (by first | exact .inl ⟨rfl,rfl,rfl⟩ | exact .inr ⟨rfl,rfl,rfl⟩)).mono ?_;rintro e w' ⟨rfl,rfl⟩)
   go_ret
   exact ⟨_,rfl,jJ _ Sv.null (Sv.text (fD 0)) _ _ _ (by simp),(((Gr.refl w).alloc _).alloc _).alloc _⟩
  ·rw [if_pos (by decide)]
   go_enter Tryz.func35,Tryz.ntmps35
   go_wp2_with (go_at_call 22;refine (PC.out _ _ _ _ (by first | exact .inl ⟨rfl,rfl,rfl⟩ | exact .inr ⟨rfl,rfl,rfl⟩)).mono ?_;rintro e w' ⟨rfl,rfl⟩)
   go_ret
   exact ⟨_,rfl,jJ _ Sv.null (Sv.text (fD 1)) _ _ _ (by simp),(((Gr.refl w).alloc _).alloc _).alloc _⟩
  ·rw [if_pos (by decide)]
   go_enter Tryz.func35,Tryz.ntmps35
   go_wp2_with (go_at_call 22;refine (PC.out _ _ _ _ (by first | exact .inl ⟨rfl,rfl,rfl⟩ | exact .inr ⟨rfl,rfl,rfl⟩)).mono ?_;rintro e w' ⟨rfl,rfl⟩)
   go_ret
   exact ⟨_,rfl,jJ _ Sv.null (Sv.text (fD 2)) _ _ _ (by simp),(((Gr.refl w).alloc _).alloc _).alloc _⟩
  ·rw [if_pos (by decide)]
   go_enter Tryz.func35,Tryz.ntmps35
   go_wp2_with (go_at_call 22;refine (PC.out _ _ _ _ (by first | exact .inl ⟨rfl,rfl,rfl⟩ | exact .inr ⟨rfl,rfl,rfl⟩)).mono ?_;rintro e w' ⟨rfl,rfl⟩)
   go_ret
   exact ⟨_,rfl,jJ _ Sv.null (Sv.text (fD 3)) _ _ _ (by simp),(((Gr.refl w).alloc _).alloc _).alloc _⟩
  ·rw [if_neg (by decide)]
   go_enter Tryz.func35,Tryz.ntmps35
   go_wp2_with (go_at_call 22;refine (PC.out _ _ _ _ (by first | exact .inl ⟨rfl,rfl,rfl⟩ | exact .inr ⟨rfl,rfl,rfl⟩)).mono ?_;rintro e w' ⟨rfl,rfl⟩)
   go_ret
   exact ⟨_,rfl,jJ _ Sv.null Sv.null _ _ _ (by simp),(((Gr.refl w).alloc _).alloc _).alloc _⟩
def EB (x:Int):List UInt8:=if x<5 then [UInt8.ofNat (48+x.toNat)] else [110,117,108,108]
def EC (y:Int):List UInt8:=if y<4 then 39::vV (fD y).toList ++ [39] else [110,117,108,108]
def iL (a b:Int):List UInt8 := [40]++EB (pk a 6) ++ [44,32]++EC (pk b 5) ++ [41]
theorem nP (y:Int):(fD y).size<=4:=by
 unfold fD;split
 ·decide
 ·split
  ·decide
  ·split <;> decide
theorem Fz (c:UInt8):(⟨#[c]⟩:ByteArray).toList = [c]:=by rw [pD]
theorem L8 (c d:UInt8):(⟨#[c,d]⟩:ByteArray).toList = [c,d]:=by rw [pD]
theorem OO (c d e f:UInt8):(⟨#[c,d,e,f]⟩:ByteArray).toList = [c,d,e,f]:=by rw [pD]
structure Two (w:World) (bv ov:Nat) (u v:Sv.Val):Prop where
 lb:bv<w.heap.size
 k0:w.cell? ⟨bv,ov,none⟩=some (.int .i64 u.k)
 n0:w.cell? ⟨bv,ov+1,none⟩=some (.int .i64 u.n)
 k1:w.cell? ⟨bv,ov+3,none⟩=some (.int .i64 v.k)
 s1:w.cell? ⟨bv,ov+3+2,none⟩=some (.string v.s)
theorem Two.of {w:World} {bv ov:Nat} {u v:Sv.Val} (h:Hv w bv ov [u,v]):Two w bv ov u v:=
 ⟨h.lb,by have:=h.k 0 (by simp);simpa using this,by have:=h.n 0 (by simp);simpa using this,by have:=h.k 1 (by simp);simpa using this,by have:=h.s 1 (by simp);simpa using this⟩
theorem Two.gr {w w' : World} {bv ov:Nat} {u v:Sv.Val} (h:Two w bv ov u v) (g:Gr w w'):Two w' bv ov u v:=
 ⟨bY h.lb g.size,(g.cell (p:=⟨bv,_,none⟩) h.lb).trans h.k0,(g.cell (p:=⟨bv,_,none⟩) h.lb).trans h.n0,(g.cell (p:=⟨bv,_,none⟩) h.lb).trans h.k1,(g.cell (p:=⟨bv,_,none⟩) h.lb).trans h.s1⟩
theorem yB (a b:Int) (w:World) (ha:-9223372036854775808<=a) (ha2:a<=9223372036854775807) (hb:-9223372036854775808<=b) (hb2:b<=9223372036854775807) :
  Calls Tryz.prog 33 #[.agg #[.int .i64 a, .int .i64 b]] w λe w'=>∃ r:ByteArray,e = .returned (.string r)/\r.toList=iL a b/\Gr w w':=by
 have LA:=CC a 6 (by omega)
 have PV:Hid (∀ u v,u=(if pk a 6<5 then Sv.int (pk a 6) else Sv.null)->v=(if pk b 5<4 then Sv.text (fD (pk b 5)) else Sv.null)->∀ w,Calls Tryz.prog 35 #[.agg #[.int .i64 a, .int .i64 b]] w λe w'=>∃ bv ov cv,e = .returned (.slice (some ⟨bv,ov,none⟩) 2 cv)/\w'.cell? ⟨bv,ov,none⟩=some (.int .i64 u.k)/\w'.cell? ⟨bv,ov+1,none⟩=some (.int .i64 u.n)/\w'.cell? ⟨bv,ov+3,none⟩=some (.int .i64 v.k)/\w'.cell? ⟨bv,ov+3+2,none⟩=some (.string v.s)/\Hid (bv<w'.heap.size)/\Hid (Gr w w')):=by
  rintro _ _ rfl rfl w
  refine (sB a b w ha ha2 hb hb2).mono ?_
  rintro e w' ⟨v,rfl,⟨bv,cv,rfl,hv⟩,hg⟩
  have t:=Two.of hv
  exact ⟨bv,0,cv,rfl,t.k0,t.n0,t.k1,t.s1,t.lb,hg⟩
 have HR:Hid (iL a b = [40]++EB (pk a 6) ++ [44,32]++EC (pk b 5) ++ [41]):=rfl
 generalize iL a b=Rt at HR ⊢
 clear ha ha2 hb hb2
 generalize pk a 6=x at PV HR LA
 generalize pk b 5=y at PV HR
 by_cases hx:x<5
 ·by_cases hy:y<4
  ·have Hr:=PV.out (Sv.int x) (Sv.text (fD y)) (if_pos hx).symm (if_pos hy).symm
   have ES:Hid (EC y=_):=if_pos hy
   have EN:Hid (EB x=_):=if_pos hx
   have DG:Hid (∀ w,Calls Tryz.prog 23 #[.int .i64 x] w λe w'=>e = .returned (.string ⟨#[UInt8.ofNat (48+x.toNat)]⟩)/\Gr w w'):=λw=>uO x w LA.1 (by omega)
   have QT:Hid (∀ w,Calls Tryz.prog 20 #[.string (fD y)] w λe w'=>(∃ r:ByteArray,e = .returned (.string r)/\r.toList=39::vV (fD y).toList ++ [39])/\w'=w):=λw=>uP (fD y) w (cE (nP y) (by omega))
   have Kl:∀ {r:ByteArray},r.toList=39::vV (fD y).toList ++ [39]->r.size<=10:=λ{r} h=>by
    have:=Aq (fD y).toList
    have e4:=size_of_list (r:=fD y) rfl
    have e5:=nP y
    rw [size_of_list h];simp;omega
   simp only [Sv.int,Sv.text] at Hr
   generalize UInt8.ofNat (48+x.toNat)=Zi at DG EN
   generalize fD y=s at Hr QT ES Kl
   clear PV LA hx hy
   go_enter Tryz.func33,Tryz.ntmps33
   go_wp2_with (first | (go_at_call 35;refine (Hr _).mono ?_;rintro e w1 ⟨bv,ov,cv,rfl,c0,c1,c2,c3,HL,Ic⟩) | (go_at_call 23;refine (DG.out _).mono ?_;rintro e w2 ⟨rfl,hg2⟩;have d2:=(hg2.cell (p:=⟨bv,_,none⟩) HL.out).trans c2;have d3:=(hg2.cell (p:=⟨bv,_,none⟩) HL.out).trans c3;have HG2:=hid (Ic.out.trans hg2);clear hg2) | (go_at_call 20;refine (QT.out _).mono ?_;rintro e w3 ⟨⟨r,rfl,hr⟩,rfl⟩;have hrs:r.size<=10:=Kl hr;have HQ:=hid hr;clear hr))
   go_ret
   refine ⟨_,rfl,?_,(Gr.refl w).alloc _ |>.trans HG2.out⟩
   rw [HR.out,ES.out,EN.out]
   simp only [gQ,Fz,L8,HQ.out]
  ·have Hr:=PV.out (Sv.int x) Sv.null (if_pos hx).symm (if_neg hy).symm
   have ES:Hid (EC y=_):=if_neg hy
   have EN:Hid (EB x=_):=if_pos hx
   have DG:Hid (∀ w,Calls Tryz.prog 23 #[.int .i64 x] w λe w'=>e = .returned (.string ⟨#[UInt8.ofNat (48+x.toNat)]⟩)/\Gr w w'):=λw=>uO x w LA.1 (by omega)
   simp only [Sv.int,Sv.null] at Hr
   generalize UInt8.ofNat (48+x.toNat)=Zi at DG EN
   clear PV LA hx hy
   go_enter Tryz.func33,Tryz.ntmps33
   go_wp2_with (first | (go_at_call 35;refine (Hr _).mono ?_;rintro e w1 ⟨bv,ov,cv,rfl,c0,c1,c2,c3,HL,Ic⟩) | (go_at_call 23;refine (DG.out _).mono ?_;rintro e w2 ⟨rfl,hg2⟩;have d2:=(hg2.cell (p:=⟨bv,_,none⟩) HL.out).trans c2;have d3:=(hg2.cell (p:=⟨bv,_,none⟩) HL.out).trans c3;have HG2:=hid (Ic.out.trans hg2);clear hg2))
   go_ret
   refine ⟨_,rfl,?_,(Gr.refl w).alloc _ |>.trans HG2.out⟩
   rw [HR.out,ES.out,EN.out]
   simp only [gQ,Fz,L8,OO]
   try simp
 ·by_cases hy:y<4
  ·have Hr:=PV.out Sv.null (Sv.text (fD y)) (if_neg hx).symm (if_pos hy).symm
   have ES:Hid (EC y=_):=if_pos hy
   have EN:Hid (EB x=_):=if_neg hx
   have QT:Hid (∀ w,Calls Tryz.prog 20 #[.string (fD y)] w λe w'=>(∃ r:ByteArray,e = .returned (.string r)/\r.toList=39::vV (fD y).toList ++ [39])/\w'=w):=λw=>uP (fD y) w (cE (nP y) (by omega))
   have Kl:∀ {r:ByteArray},r.toList=39::vV (fD y).toList ++ [39]->r.size<=10:=λ{r} h=>by
    have:=Aq (fD y).toList
    have e4:=size_of_list (r:=fD y) rfl
    have e5:=nP y
    rw [size_of_list h];simp;omega
   simp only [Sv.null,Sv.text] at Hr
   generalize fD y=s at Hr QT ES Kl
   clear PV LA hx hy
   go_enter Tryz.func33,Tryz.ntmps33
   go_wp2_with (first | (go_at_call 35;refine (Hr _).mono ?_;rintro e w1 ⟨bv,ov,cv,rfl,c0,c1,c2,c3,HL,Ic⟩) | (go_at_call 20;refine (QT.out _).mono ?_;rintro e w3 ⟨⟨r,rfl,hr⟩,rfl⟩;have hrs:r.size<=10:=Kl hr;have HQ:=hid hr;clear hr))
   go_ret
   refine ⟨_,rfl,?_,(Gr.refl w).alloc _ |>.trans Ic.out⟩
   rw [HR.out,ES.out,EN.out]
   simp only [gQ,Fz,L8,OO,HQ.out]
   try simp
  ·have Hr:=PV.out Sv.null Sv.null (if_neg hx).symm (if_neg hy).symm
   have ES:Hid (EC y=_):=if_neg hy
   have EN:Hid (EB x=_):=if_neg hx
   simp only [Sv.null] at Hr
   clear PV LA hx hy
   go_enter Tryz.func33,Tryz.ntmps33
   go_wp2_with (first | (go_at_call 35;refine (Hr _).mono ?_;rintro e w1 ⟨bv,ov,cv,rfl,c0,c1,c2,c3,HL,Ic⟩))
   go_ret
   refine ⟨_,rfl,?_,(Gr.refl w).alloc _ |>.trans Ic.out⟩
   rw [HR.out,ES.out,EN.out]
   simp only [gQ,Fz,L8,OO]
   try simp
theorem own_ne {w:World} {base:Nat} {e:TypeId} {v:Value} {n:Nat} {xs:List Value} (h:w.ownsRow base e 1 v n xs) (hx:∀ u∈xs,∃ a l c,u = .slice a l c) {b:Nat} {vs:List Sv.Val} (hv:Hv w b 0 vs) (hvs:0<vs.length) (hn:0<n):v.ownBlock≠some b:=by
 intro hb
 have hl:0<xs.length:=by have:=h.1;omega
 have h1:=wK h hb 0 hl
 have h2:=hv.k 0 hvs
 simp only [Nat.zero_mul,Nat.add_zero] at h2
 rw [h1] at h2
 obtain ⟨a,l,c,e⟩:=hx _ (jD hl)
 rw [e] at h2
 simp at h2
structure Rs (w:World) (xs:List Value) (rs:List (List Sv.Val)):Prop where
 len:xs.length=rs.length
 at_:∀ i,(h:i<xs.length)->(h' : i<rs.length)->Rz w xs[i] rs[i]/\0<rs[i].length
theorem Rs.sl {w:World} {xs:List Value} {rs:List (List Sv.Val)} (h:Rs w xs rs):∀ u∈xs,∃ a l c,u = .slice a l c:=by
 intro u hu
 obtain ⟨i,hi,rfl⟩:=List.getElem_of_mem hu
 obtain ⟨⟨b,c,e,_⟩,_⟩:=h.at_ i hi (h.len ▸ hi)
 exact ⟨_,_,_,e⟩
theorem Hv.same {w w' : World} {b off:Nat} {vs:List Sv.Val} (h:Hv w b off vs) (hs:w.heap.size<=w'.heap.size) (hb:w'.heap[b]?=w.heap[b]?):Hv w' b off vs:=
 ⟨bY h.lb hs,λj hj=>(fB (a:=⟨b,_,none⟩) hb).trans (h.k j hj),λj hj=>(fB (a:=⟨b,_,none⟩) hb).trans (h.n j hj),λj hj=>(fB (a:=⟨b,_,none⟩) hb).trans (h.s j hj)⟩
theorem Rz.gr {w w' : World} {v:Value} {vs:List Sv.Val} (h:Rz w v vs) (g:Gr w w'):Rz w' v vs:=by obtain ⟨b,c,e,hv⟩:=h;exact ⟨b,c,e,hv.gr g⟩
theorem Rs.gr {w w' : World} {xs:List Value} {rs:List (List Sv.Val)} (h:Rs w xs rs) (g:Gr w w'):Rs w' xs rs:=
 ⟨h.len,λi hi hi'=>⟨(h.at_ i hi hi').1.gr g,(h.at_ i hi hi').2⟩⟩
theorem Rs.snoc {w:World} {xs:List Value} {rs:List (List Sv.Val)} (h:Rs w xs rs) {v:Value} {r:List Sv.Val} (hv:Rz w v r) (hr:0<r.length):Rs w (xs ++ [v]) (rs ++ [r]):=by
 refine ⟨by simp [h.len],λi hi hi'=>?_⟩
 by_cases e:i<xs.length
 ·rw [List.getElem_append_left e,List.getElem_append_left (h.len ▸ e)];exact h.at_ i e _
 ·have e1:i=xs.length:=by simp at hi;omega
  subst e1
  have e2:=h.len
  simp only [List.getElem_append_right (aF _),Nat.sub_self,List.getElem_cons_zero]
  rw [List.getElem_append_right (by omega)]
  simp only [e2,Nat.sub_self,List.getElem_cons_zero]
  exact ⟨hv,hr⟩
theorem Rs.grown {w w' : World} {base:Nat} {e:TypeId} {v:Value} {n:Nat} {xs ys:List Value} {rs:List (List Sv.Val)} (h:Rs w ys rs) (ho:w.ownsRow base e 1 v n xs) (hx:∀ u∈xs,∃ a l c,u = .slice a l c) (hz:n=0->v = .slice none 0 0) (hg:w.grownBy w' v.ownBlock):Rs w' ys rs:=by
 refine ⟨h.len,λi hi hi'=>?_⟩
 obtain ⟨⟨b,c,ee,hv⟩,hr⟩:=h.at_ i hi hi'
 refine ⟨⟨b,c,ee,hv.same hg.size (hg.block b hv.lb ?_)⟩,hr⟩
 by_cases hn:0<n
 ·exact λe1=>own_ne ho hx hv hr hn e1.symm
 ·rw [hz (by omega)]
  intro e1;cases e1
structure Raw (w:World) (b off:Nat) (l:List (Int×Int)):Prop where
 lb:b<w.heap.size
 at_:∀ i,(h:i<l.length)->w.cell? ⟨b,off+i*2,none⟩=some (.int .i64 l[i].1)/\w.cell? ⟨b,off+i*2+1,none⟩=some (.int .i64 l[i].2)
 rng:∀ i,(h:i<l.length)->(-9223372036854775808<=l[i].1/\l[i].1<=9223372036854775807)/\(-9223372036854775808<=l[i].2/\l[i].2<=9223372036854775807)
def nQ (l:List (Int×Int)):List (List Sv.Val):=l.map λx=>kW x.1 x.2
theorem CD:(Tryz.prog.info? 41).map (λi=>(i.zero,i.size,i.bytes))=some (some (.slice none 0 0),1,24):=by kernel_rfl
theorem CE (l:List (Int×Int)) (b off n c:Nat) (w:World) (hn:n=l.length) (hbig:n<=9223372036854775807) (hr:Raw w b off l) :
  Calls Tryz.prog 19 #[.slice (some ⟨b,off,none⟩) n c] w λe w'=>(∃ v xs m,e = .returned v/\w'.ownsRow w.heap.size 41 1 v m xs/\Rs w' xs (nQ (l.take 20)))/\Below w.heap.size w w':=by
 obtain ⟨i0,hi,hz0,hz1,hz2⟩:=info_parts CD
 have HR:=hid hr
 have HN:=hid hn
 clear hr hn
 go_enter Tryz.func19,Tryz.ntmps19
 go_wp2
 go_loopw [3,4] (λv i wr=>∃ (k:Nat) (xs:List Value),k<=n/\k<=20/\i = .int .i64 k/\Hid (wr.ownsRow w.heap.size 41 1 v k xs)/\Hid (k=0->v = .slice none 0 0)/\Hid (Rs wr xs (nQ (l.take k)))/\Hid (Below w.heap.size w wr)) (λ_ i _=>n - (intOf i).toNat)
 case atStart=>exact ⟨0, [],fO _,fO _,rfl,World.ownsRow_nil _ _ _ _,λ_=>rfl,⟨rfl,λi hi=>absurd hi (Nat.not_lt_zero _)⟩,Below.refl _ _⟩
 case round=>
  obtain ⟨k,xs,hk,iT,rfl,HO,HZ,HS,HB⟩:=hrel
  by_cases hlt:k<n
  ·by_cases WI:k<20
   ·have hkz:k<l.length:=by have:=HN.out;omega
    obtain ⟨c0,c1⟩:=HR.out.at_ k hkz
    have d0:=(HB.out.cell (p:=⟨b,_,none⟩) HR.out.lb).trans c0
    have d1:=(HB.out.cell (p:=⟨b,_,none⟩) HR.out.lb).trans c1
    have PV:Hid (∀ w,Calls Tryz.prog 35 #[.agg #[.int .i64 l[k].1, .int .i64 l[k].2]] w λe w'=>∃ b' m' c',e = .returned (.slice (some ⟨b',0,none⟩) m' c')/\Hid (Rz w' (.slice (some ⟨b',0,none⟩) m' c') (kW l[k].1 l[k].2))/\Hid (Gr w w')):=λw=>by
     refine (sB _ _ w (HR.out.rng k hkz).1.1 (HR.out.rng k hkz).1.2 (HR.out.rng k hkz).2.1 (HR.out.rng k hkz).2.2).mono ?_
     rintro e w' ⟨v,rfl,hv,hg⟩
     obtain ⟨b',c',rfl,_⟩:=id hv
     exact ⟨b',_,c',rfl,hv,hg⟩
    have HT:Hid (nQ (l.take (k+1))=nQ (l.take k) ++ [kW l[k].1 l[k].2]):=by
     show _=_
     rw [uV hkz];unfold nQ;rw [List.map_append];rfl
    have Le:0<(kW l[k].1 l[k].2).length:=by simp [kW]
    generalize kW l[k].1 l[k].2=rv at PV HT Le
    generalize l[k].1=ra at d0 PV
    generalize l[k].2=rb at d1 PV
    clear c0 c1
    have HL2:=hid Le
    clear Le
    go_wp2_with fail
    refine (PV.out _).mono ?_
    rintro e w2 ⟨b',m',c',rfl,HV,HG⟩
    have fN:Hid (w2.ownsRow w.heap.size 41 1 u3 k xs):=aH HO.out HG.out.below
    have HB2:Hid (Below w.heap.size w w2):=HB.out.trans (HG.out.below.mono HB.out.size)
    have HS2:Hid (Rs w2 (xs ++ [(.slice (some ⟨b',0,none⟩) m' c')]) (nQ (l.take (k+1)))):=by
     show Rs _ _ _
     rw [HT.out];exact (HS.out.gr HG.out).snoc HV.out HL2.out
    have HX:Hid (∀ u∈xs,∃ a l c,u = .slice a l c):=HS.out.sl
    have H1:Hid (∀ u∈([(.slice (some ⟨b',0,none⟩) m' c')]:List Value),u.oneCell'=true):=λu hu=>by simp at hu;subst hu;rfl
    have H3:Hid (k+1<=maxLen):=by show _<=_;unfold maxLen;omega
    have H4:Hid ((k+1)*24<=140737488355328):=by show _<=_;omega
    have H5:Hid (w.heap.size<=(w2.alloc (.cells #[(.slice (some ⟨b',0,none⟩) m' c')] 41)).heap.size):=by have:=HB2.out.size;show _<=_;simp;omega
    go_wp2_with (at_builtin;refine wpList_append_own _ rfl (.tmp 21) (.tmp 23) 32 rfl w.heap.size 41 i0 (.slice none 0 0) 1 24 Tryz.underlying32 hi hz0 hz1 hz2 rfl (by decide) _ _ _ rfl (fN.out.alloc _) ⟨w2.heap.size,0,none⟩ 1 1 [(.slice (some ⟨b',0,none⟩) m' c')] rfl rfl (new1 _ _ _) H1.out H3.out H4.out H5.out ?_)
    intro v' w3 hown' hgrow hnil
    have HB3:Hid (Below w.heap.size w w3):=(HB2.out.alloc HB2.out.size _).grown hgrow (by have:=HB2.out.size;simp;omega) (λq e=>(aB fN.out q e).1)
    have jG:=hid hown'
    have Sj:Hid (Rs w3 (xs ++ [(.slice (some ⟨b',0,none⟩) m' c')]) (nQ (l.take (k+1)))):=(HS2.out.gr ((Gr.refl _).alloc _)).grown (fN.out.alloc _) HX.out HZ.out hgrow
    clear hown' hgrow hnil
    go_wp2_with fail
    go_roundw
    case rel=>exact ⟨k+1,_,by omega,by omega,by go_num,jG,λe=>absurd e (by omega),Sj,HB3⟩
    case measure=>simp [intOf];omega
   ·have hk:k=20:=by omega
    subst hk
    go_wp2_with fail
    go_ret
    exact ⟨⟨_,_,_,rfl,HO.out,HS.out⟩,HB.out⟩
  ·have HE:Hid (Rs wr xs (nQ (l.take 20))):=by
    show Rs _ _ _
    have e1:l.take 20=l.take k:=by
     rw [sD (by have:=HN.out;omega),sD (by have:=HN.out;omega)]
    rw [e1];exact HS.out
   go_wp2_with fail
   go_ret
   exact ⟨⟨_,_,_,rfl,HO.out,HE.out⟩,HB.out⟩
theorem No {w:World} {base m:Nat} {e:TypeId} {v:Value} {xs:List Value} {rs:List (List Sv.Val)} (h:w.ownsRow base e 1 v m xs) (hr:Rs w xs rs):Lv w v rs:=by
 have hl:=h.1
 have hl2:=hr.len
 have hm:m=rs.length:=by omega
 rcases id h.2 with ⟨rfl,rfl⟩ | ⟨g,cap,cur,rfl,_,hc,_⟩
 ·exact .inl ⟨rfl,Av hm.symm⟩
 ·refine .inr ⟨g,0,cap,by rw [hm],⟨?_,λi hi=>?_⟩⟩
  ·rcases Nat.lt_or_ge g w.heap.size with x | x
   ·exact x
   ·rw [Array.getElem?_eq_none x] at hc;cases hc
  ·have hi' : i<xs.length:=by omega
   refine ⟨xs[i],?_,(hr.at_ i hi' hi).1.rn⟩
   rw [Nat.zero_add]
   exact wK h rfl i hi'
end Go.Proofs.YtgnncnhkgmhngaaGreatDoor
