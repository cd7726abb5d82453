import Derived.Test.YtgnncnhkgmhngaaGreatDoorJ52
set_option maxHeartbeats 4000000
set_option maxRecDepth 100000
namespace Go.Proofs.YtgnncnhkgmhngaaGreatDoor
open Sp
open Tryz
open Go.RowKit Go.Sort
theorem L2 {R:List Row} (h:NZ R) (r:Row) (hr:r∈R):∃ y0 y1:Sv.Val,r = [y0,y1]/\((∃ i:Int,0<=i/\i<5/\y0=Sv.int i)\/y0=Sv.null):=by
 obtain ⟨a,b,rfl⟩:=h r hr
 have:=vS a 6 (by omega)
 refine ⟨_,_,rfl,?_⟩
 by_cases h5:pk a 6<5
 ·rw [if_pos h5];exact .inl ⟨_,this.1,h5,rfl⟩
 ·rw [if_neg h5];exact .inr rfl
theorem Ja {k:Int} {R:List Row} {j:Nat} (hj:j<R.length):gV k (R.take (j+1))=gV k (R.take j) ++ [if Sp.hb k R[j] then Pj R[j] else R[j]]:=by
 rw [sA hj];unfold gV;rw [List.map_append];rfl
theorem FF {k:Int} {R:List Row} {j:Nat} (hj:j<R.length):f8 k (R.take (j+1))=f8 k (R.take j)++(if Sp.hb k R[j] then [] else [R[j]]):=by
 rw [sA hj]
 simp only [f8,List.filter_append,List.filter_cons,List.filter_nil]
 cases Sp.hb k R[j] <;> rfl
theorem N5 {k:Int} {R:List Row} {j:Nat} (hj:j<R.length):((R.take (j+1)).filter (Sp.hb k)).length=((R.take j).filter (Sp.hb k)).length+if Sp.hb k R[j] then 1 else 0:=by
 rw [sA hj]
 simp only [List.filter_append,List.filter_cons,List.filter_nil,List.length_append]
 cases Sp.hb k R[j] <;> rfl
structure Li (base:Nat) (w:World) (v:Value) (n:Nat) (xs:List Value) (rs:List (List Sv.Val)):Prop where
 ow:w.ownsRow base 41 1 v n xs
 z:n=0->v = .slice none 0 0
 N6:Rs w xs rs
theorem Rz.bel {w w' : World} {v:Value} {vs:List Sv.Val} (h:Rz w v vs) (g:RowKit.Below w.heap.size w w'):Rz w' v vs:=by
 obtain ⟨b,c,e,hv⟩:=h
 exact ⟨b,c,e,hv.same g.size (g.block b hv.lb)⟩
theorem Rs.bel {w w' : World} {xs:List Value} {rs:List (List Sv.Val)} (h:Rs w xs rs) (g:RowKit.Below w.heap.size w w'):Rs w' xs rs:=
 ⟨h.len,λi hi hi'=>⟨(h.at_ i hi hi').1.bel g,(h.at_ i hi hi').2⟩⟩
theorem Li.bel {base:Nat} {w w' : World} {v:Value} {n:Nat} {xs:List Value} {rs:List (List Sv.Val)} (h:Li base w v n xs rs) (g:RowKit.Below w.heap.size w w'):Li base w' v n xs rs:=
 ⟨aJ h.ow g,h.z,h.N6.bel g⟩
theorem tS {base:Nat} {X w' : World} {v u Dx:Value} {n p g cap:Nat} {xs ys:List Value} {rs qs:List (List Sv.Val)} {r:List Sv.Val} (hv:Li base X v n xs rs) (hu:Li base X u p ys qs) (hd:∀ g,v.ownBlock=some g->u.ownBlock≠some g) (hz:Rz X Dx r) (hr:0<r.length)
  (hown:w'.ownsRow base 41 1 (.slice (some ⟨g,0,none⟩) (n+1) cap) (n+1) (xs ++ [Dx])) (hg:(X.alloc (.cells #[Dx] 41)).grownBy w' v.ownBlock) (hat:v.ownBlock=some g\/g=X.heap.size+1) :
  Li base w' (.slice (some ⟨g,0,none⟩) (n+1) cap) (n+1) (xs ++ [Dx]) (rs ++ [r])/\Li base w' u p ys qs/\(∀ g',(Value.slice (some ⟨g,0,none⟩) (n+1) cap).ownBlock=some g'->u.ownBlock≠some g')/\Rz w' Dx r/\(∀ (q0:Nat) (w0:World),q0<=base->q0<=X.heap.size->RowKit.Below q0 w0 X->RowKit.Below q0 w0 w'):=by
 have ga:RowKit.Below X.heap.size X (X.alloc (.cells #[Dx] 41)):=((Gr.refl X).alloc _).below
 have hva:=hv.bel ga
 have W7:=hu.bel ga
 have hza:=hz.bel ga
 have hsa:(X.alloc (.cells #[Dx] 41)).heap.size=X.heap.size+1:=by simp
 have hzw:Rz w' Dx r:=by
  obtain ⟨b,c,e,h⟩:=hza
  refine ⟨b,c,e,h.same hg.size (hg.block b h.lb λe1=>?_)⟩
  by_cases hn:0<n
  ·exact own_ne hva.ow hva.N6.sl h hr hn e1.symm
  ·rw [hv.z (by omega)] at e1;cases e1
 refine ⟨⟨hown,λe=>by omega,(hva.N6.grown hva.ow hva.N6.sl hva.z hg).snoc hzw hr⟩,⟨?_,hu.z,W7.N6.grown hva.ow hva.N6.sl hva.z hg⟩,?_,hzw,?_⟩
 ·have hblk:=aB W7.ow
  obtain ⟨hl,h | ⟨g',cap',cur,he,h0,hc,rr⟩⟩:=W7.ow
  ·exact ⟨hl, .inl h⟩
  ·subst he
   exact ⟨hl, .inr ⟨g',cap',cur,rfl,h0,(hg.block g' (hblk g' rfl).2 (λe=>hd g' e.symm rfl)).trans hc,rr⟩⟩
 ·intro g' e1 e2
  have e1:g=g':=by simpa [Value.ownBlock] using e1
  subst e1
  rcases hat with h | h
  ·exact hd g h e2
  ·have:=(aB hu.ow g e2).2;omega
 ·intro q0 w0 h1 h2 h3
  exact (h3.trans (ga.mono h2)).grown hg (by omega) (λq e=>cF h1 (aB hv.ow q e).1)
theorem L3 {W:World} {b:Nat} {k0 n0 k1 n1:Int} {s0 s1:ByteArray} (h:Bk W b [.int .i64 k0, .int .i64 n0, .string s0, .int .i64 k1, .int .i64 n1, .string s1]):Hv W b 0 [⟨k0,n0,s0⟩,⟨k1,n1,s1⟩]:=by
 refine ⟨h.lt,λj hj=>?_,λj hj=>?_,λj hj=>?_⟩
 ·match j,hj with
  | 0,_=>exact h.k0
  | 1,_=>exact h.k3
 ·match j,hj with
  | 0,_=>exact h.k1
  | 1,_=>exact h.k4
 ·match j,hj with
  | 0,_=>exact h.k2
  | 1,_=>exact h.k5
theorem Li.kept {bb base:Nat} {w0 w w' : World} {P S:List Row} {v:Value} {n:Nat} {xs:List Value} {rs:List (List Sv.Val)} (h:Li base w v n xs rs) (hf:qZ bb w0 P S w) (hb:bb<base) (k:Kept bb w w'):Li base w' v n xs rs:=by
 obtain ⟨T,_,tv,h1,h2,_,_⟩:=hf
 obtain ⟨ta,tn,tc,rfl⟩:=h2.sl
 have hc:w.cell? ⟨bb,0,none⟩=some (.slice ta tn tc):=by simp [World.cell?,show w.heap[bb]?=_ from h1]
 refine ⟨?_,h.z,h.N6.len,λi hi hi'=>?_⟩
 ·have hblk:=aB h.ow
  obtain ⟨hl,h' | ⟨g',cap',cur,he,h0,hcc,rr⟩⟩:=h.ow
  ·exact ⟨hl, .inl h'⟩
  ·subst he
   exact ⟨hl, .inr ⟨g',cap',cur,rfl,h0,(k.block g' (hblk g' rfl).2 (by omega)).trans hcc,rr⟩⟩
 ·obtain ⟨⟨b,c,e,hv⟩,hr⟩:=h.N6.at_ i hi hi'
  refine ⟨⟨b,c,e,hv.same k.size (k.block b hv.lb λe1=>?_)⟩,hr⟩
  subst e1
  have:=hv.k 0 hr
  simp only [Nat.zero_mul,Nat.add_zero] at this
  rw [hc] at this
  cases this
theorem Li.lv {base:Nat} {w:World} {v:Value} {n:Nat} {xs:List Value} {rs:List (List Sv.Val)} (h:Li base w v n xs rs):Lv w v rs:=Pe h.ow h.N6
theorem qW {k:Int} {R:List Row} (hR:NZ R):∀ r∈f8 k R,r.length=2:=by
 intro r hr
 obtain ⟨a,b,rfl⟩:=hR r (List.mem_filter.1 hr).1
 rfl
theorem L4 {ta:Option Addr} {n tc:Nat} {lt:List (Int×Int)} {nn:Int} {w:World} (hr:DM w) (ht:xH w (.slice ta n tc) lt) (hn:n=lt.length) (hlt:n<=9223372036854775807) (h1:-9223372036854775808<=nn) (h2:nn<=9223372036854775807) :
  Calls prog 6 #[.slice ta n tc, .int .i64 nn] w λr w'=>r = .returned (.bool true)/\RowKit.Below w.heap.size w w':=by
 obtain ⟨i0,ji,fU,jz1,fV⟩:=info_parts Dk
 have HR:=hid hr
 have HT:=hid ht
 have HN:=hid hn
 have YG:=hid (NR hr ht (.inl ⟨none,0,rfl,rfl⟩) (by omega) (by simp))
 clear hr ht hn
 go_enter func6,ntmps6
 go_wp2_with fail
 refine YG.out.mono ?_
 rintro e w1 ⟨bb,rfl,h1'⟩
 have Jm:Hid (qZ bb w (pO (lt.take 20)) [] w1):=hid h1'
 clear h1' YG
 go_wp2_with fail
 refine (pick_any nn 6 w1 h1 h2 (by omega) (by omega)).mono ?_
 rintro e w1' ⟨rfl,rfl⟩
 have iS:=hid (UZ nn)
 have hk6:=vS nn 6 (by omega)
 generalize pk nn 6=kk at *
 have YH:=hid (N4 (HT.out.bel Jm.out.below) (by have:=HN.out;omega))
 go_wp2_with fail
 refine YH.out.mono ?_
 rintro e w2 ⟨xv,rfl,hl2,g2⟩
 have HL2:=hid hl2
 have HF2:=hid (Jm.out.bel g2.below)
 obtain ⟨xa,xc,rfl⟩:=hl2.sl
 have Jn:=hid (TO (lt.take 20))
 have YI:(pO (lt.take 20)).length<=20:=by simp [pO];omega
 obtain ⟨R,hR⟩:∃ R,R=pO (lt.take 20):=⟨_,rfl⟩
 rw [<- hR] at HL2 HF2 Jn YI ⊢
 obtain ⟨m,hm⟩:∃ m,m=R.length:=⟨_,rfl⟩
 have HM:=hid hm
 rw [<- hm] at YI ⊢
 clear g2 hl2 YH Jm hm hR
 go_wp2_with fail
 go_loopw [8,9,10,11] (λvw vl vm vi wr=>∃ (j p:Nat) (xs ys:List Value),j<=m/\p<=j/\vi = .int .i64 (j:Nat)/\(∃ cn:Nat,cn<=j/\vm = .int .i64 (cn:Nat)/\Hid (cn=((R.take j).filter (Sp.hb kk)).length))/\Hid (Li w2.heap.size wr vw j xs (gV kk (R.take j)))/\Hid (Li w2.heap.size wr vl p ys (f8 kk (R.take j)))/\Hid (∀ g,vw.ownBlock=some g->vl.ownBlock≠some g)/\Hid (RowKit.Below w2.heap.size w2 wr)) (λ_ _ _ i _=>m - (intOf i).toNat)
 case atStart=>exact ⟨0,0, [], [],eX _,eX _,rfl,⟨0,eX _,rfl,rfl⟩,⟨World.ownsRow_nil _ _ _ _,λ_=>rfl,⟨rfl,λi hi=>absurd hi (Nat.not_lt_zero _)⟩⟩,⟨World.ownsRow_nil _ _ _ _,λ_=>rfl,⟨rfl,λi hi=>absurd hi (Nat.not_lt_zero _)⟩⟩,(λg e=>by cases e),Below.refl _ _⟩
 case round=>
  obtain ⟨j,p,xs,ys,hj,hp,rfl,⟨cn,hcn,rfl,Pi⟩,O7,Nj,MY,HB⟩:=hrel
  by_cases hjm:j<m
  ·have hjz:j<R.length:=by have:=HM.out;omega
   obtain ⟨xb,xo,rfl,hln⟩:∃ b o,xa=some ⟨b,o,none⟩/\Ln w2 b o R:=by
    rcases HL2.out with ⟨_,e⟩ | ⟨b,o,c,e,h⟩
    ·rw [e] at hjz;simp at hjz
    ·injection e with e1;exact ⟨b,o,e1,h⟩
   obtain ⟨xr,hxr,rb,ro,rc,rfl,N7⟩:=hln.at_ j hjz
   obtain ⟨y0,y1,hy,hy0⟩:=L2 Jn.out R[j] (hU hjz)
   have HU:=hid (Ja (k:=kk) hjz)
   have TQ:=hid (FF (k:=kk) hjz)
   have TR:=hid (N5 (k:=kk) hjz)
   rw [hy] at N7 HU TQ TR hxr
   have hlb:=hln.lb
   have RD:=N7.lb
   have a0:=(HB.out.cell (p:=⟨xb,xo+j,none⟩) hlb).trans hxr
   have r0:=(HB.out.cell (p:=⟨rb,_,none⟩) RD).trans (N7.k 0 (by simp))
   have r1:=(HB.out.cell (p:=⟨rb,_,none⟩) RD).trans (N7.n 0 (by simp))
   have r2:=(HB.out.cell (p:=⟨rb,_,none⟩) RD).trans (N7.s 0 (by simp))
   have r3:=(HB.out.cell (p:=⟨rb,_,none⟩) RD).trans (N7.k 1 (by simp))
   have r4:=(HB.out.cell (p:=⟨rb,_,none⟩) RD).trans (N7.n 1 (by simp))
   have r5:=(HB.out.cell (p:=⟨rb,_,none⟩) RD).trans (N7.s 1 (by simp))
   simp only [List.getElem_cons_zero,List.getElem_cons_succ,Nat.zero_mul,Nat.add_zero,Nat.one_mul] at r0 r1 r2 r3 r4 r5
   simp only [List.length_cons,List.length_nil,Nat.zero_add,Nat.reduceAdd] at a0
   obtain ⟨k0,n0,s0⟩:=y0
   obtain ⟨k1,n1,s1⟩:=y1
   simp only [] at r0 r1 r2 r3 r4 r5
   have hwr:=HB.out.size
   clear hxr N7 hln
   have hGD:=hid ((Gr.refl wr).drew)
   have a0' : wr.drew.cell? ⟨xb,xo+j,none⟩=some (.slice (some ⟨rb,ro,none⟩) 2 rc):=a0
   have r0' : wr.drew.cell? ⟨rb,ro,none⟩=some (.int .i64 k0):=r0
   have r1' : wr.drew.cell? ⟨rb,ro+1,none⟩=some (.int .i64 n0):=r1
   have r2' : wr.drew.cell? ⟨rb,ro+2,none⟩=some (.string s0):=r2
   have r3' : wr.drew.cell? ⟨rb,ro+3,none⟩=some (.int .i64 k1):=r3
   have W8 : wr.drew.cell? ⟨rb,ro+3+1,none⟩=some (.int .i64 n1):=r4
   have W9 : wr.drew.cell? ⟨rb,ro+3+2,none⟩=some (.string s1):=r5
   go_wp2_with fail
   go_region_held3 (λw'=>w'.cell? ⟨xb,xo+j,none⟩=some (.slice (some ⟨rb,ro,none⟩) 2 rc)/\w'.cell? ⟨rb,ro,none⟩=some (.int .i64 k0)/\w'.cell? ⟨rb,ro+1,none⟩=some (.int .i64 n0)/\w'.cell? ⟨rb,ro+2,none⟩=some (.string s0)/\w'.cell? ⟨rb,ro+3,none⟩=some (.int .i64 k1)/\w'.cell? ⟨rb,ro+3+1,none⟩=some (.int .i64 n1)/\w'.cell? ⟨rb,ro+3+2,none⟩=some (.string s1))
    (first | (with_reducible exact ⟨a0',r0',r1',r2',r3',W8,W9⟩) | (with_reducible exact ⟨a0,r0,r1,r2,r3,r4,r5⟩) | (with_reducible exact ⟨aH a0',aH r0',aH r1',aH r2',aH r3',aH W8,aH W9⟩) | go_keep) (fail)
   have G3:=hid (((Gr.refl wr).alloc (.cells #[.int .i64 k0, .int .i64 n0, .string s0, .int .i64 k1, .int .i64 n1, .string s1] 40)).drew)
   have qF:=hid ((Bk.new wr #[.int .i64 k0, .int .i64 n0, .string s0, .int .i64 k1, .int .i64 n1, .string s1] 40).below (Gr.refl _).drew.below)
   have z1:=(G3.out.cell (p:=⟨xb,xo+j,none⟩) (by show xb<_;omega)).trans a0
   have z2:=(G3.out.cell (p:=⟨rb,ro+1,none⟩) (by show rb<_;omega)).trans r1
   have hz3:wr.heap.size+1<=((wr.alloc (.cells #[.int .i64 k0, .int .i64 n0, .string s0, .int .i64 k1, .int .i64 n1, .string s1] 40)).drew).heap.size:=by show _<=(wr.alloc _).heap.size;simp
   generalize (wr.alloc (.cells #[.int .i64 k0, .int .i64 n0, .string s0, .int .i64 k1, .int .i64 n1, .string s1] 40)).drew=W3 at *
   have c0:=qF.out.k0
   have c1:=qF.out.k1
   clear a0 r0 r1 r2 r3 r4 r5 a0' r0' r1' r2' r3' W8 W9
   cases hh:Sp.hb kk [⟨k0,n0,s0⟩,⟨k1,n1,s1⟩]
   ·have hcond:k0=2->¬ n0<kk:=λh h'=>by simp [Sp.hb,h,h'] at hh
    have FG:=hid (O7.out.bel G3.out.below)
    have Jb:=hid (Nj.out.bel G3.out.below)
    have L5:Hid (Rz W3 (.slice (some ⟨wr.heap.size,0,none⟩) 2 2) [⟨k0,n0,s0⟩,⟨k1,n1,s1⟩]):=⟨wr.heap.size,2,rfl,L3 qF.out⟩
    have TS:Hid ((W3.alloc (.cells #[.slice (some ⟨wr.heap.size,0,none⟩) 2 2] 41)).ownsRow w2.heap.size 41 1 u9 p ys):=Jb.out.ow.alloc _
    have H1:Hid (∀ u∈([(.slice (some ⟨wr.heap.size,0,none⟩) 2 2)]:List Value),u.oneCell'=true):=λu hu=>by simp at hu;subst hu;rfl
    have H3:Hid (p+1<=maxLen):=by show _<=_;unfold maxLen;omega
    have H4:Hid ((p+1)*24<=140737488355328):=by show _<=_;omega
    have H3' : Hid (j+1<=maxLen):=by show _<=_;unfold maxLen;omega
    have H4' : Hid ((j+1)*24<=140737488355328):=by show _<=_;omega
    have H5:Hid (w2.heap.size<=(W3.alloc (.cells #[.slice (some ⟨wr.heap.size,0,none⟩) 2 2] 41)).heap.size):=by show _<=_;simp;omega
    have HU' : Hid (gV kk (R.take (j+1))=gV kk (R.take j) ++ [[⟨k0,n0,s0⟩,⟨k1,n1,s1⟩]]):=by show _=_;rw [HU.out,hh];rfl
    have Xa : Hid (f8 kk (R.take (j+1))=f8 kk (R.take j) ++ [[⟨k0,n0,s0⟩,⟨k1,n1,s1⟩]]):=by show _=_;rw [TQ.out,hh];rfl
    have L6 : Hid (cn=((R.take (j+1)).filter (Sp.hb kk)).length):=by show _=_;rw [TR.out,hh,Pi.out];rfl
    clear hh hy HU TQ TR hy0
    by_cases hk2:k0=2
    case' pos=>
     have hnk:=hcond hk2
     subst hk2
    all_goals
     clear hcond
     go_wp2_with (at_builtin;refine wpList_append_lies _ rfl (.tmp 83) (.tmp 85) 32 rfl w2.heap.size 41 i0 (.slice none 0 0) 1 24 underlying32 ji fU jz1 fV rfl (by decide) _ _ _ rfl TS.out ⟨W3.heap.size,0,none⟩ 1 1 [.slice (some ⟨wr.heap.size,0,none⟩) 2 2] rfl rfl (new1 _ _ _) H1.out (by omega) H3.out H4.out H5.out (W3.heap.size+1) (by simp) ?_)
     intro g1 cap1 w4 hown1 hgrow1 TT hlt1
     obtain ⟨q1,q2,q3,q4,q5⟩:=tS Jb.out FG.out (λg e1 e2=>MY.out g e2 e1) L5.out (by simp) hown1 hgrow1 TT
     have Ky:=hid q1
     have Gn:=hid q2
     have Gk:=hid q3
     have Vz:=hid q4
     have tH:W3.heap.size<=w4.heap.size:=by have:=hgrow1.size;simp at this;omega
     have TX:Hid (RowKit.Below w2.heap.size w2 w4):=q5 _ _ (aF _) (by omega) (HB.out.trans (G3.out.below.mono hwr))
     have HOY:Hid ((w4.alloc (.cells #[.slice (some ⟨wr.heap.size,0,none⟩) 2 2] 41)).ownsRow w2.heap.size 41 1 u8 j xs):=Gn.out.ow.alloc _
     have H6:Hid (w2.heap.size<=(w4.alloc (.cells #[.slice (some ⟨wr.heap.size,0,none⟩) 2 2] 41)).heap.size):=by show _<=_;simp;omega
     clear q1 q2 q3 q4 q5 hown1 hgrow1 TT c0 c1 z1 z2
     go_wp2_with (at_builtin;refine wpList_append_lies _ rfl (.tmp 87) (.tmp 89) 32 rfl w2.heap.size 41 i0 (.slice none 0 0) 1 24 underlying32 ji fU jz1 fV rfl (by decide) _ _ _ rfl HOY.out ⟨w4.heap.size,0,none⟩ 1 1 [.slice (some ⟨wr.heap.size,0,none⟩) 2 2] rfl rfl (new1 _ _ _) H1.out (by omega) H3'.out H4'.out H6.out (w4.heap.size+1) (by simp) ?_)
     intro g2 cap2 w5 hown2 hgrow2 TY hlt2
     obtain ⟨p1,p2,p3,_,p5⟩:=tS Gn.out Ky.out (λg e1 e2=>Gk.out g e2 e1) Vz.out (by simp) hown2 hgrow2 TY
     have bP:Hid (Li w2.heap.size w5 (.slice (some ⟨g2,0,none⟩) (j+1) cap2) (j+1) (xs ++ [.slice (some ⟨wr.heap.size,0,none⟩) 2 2]) (gV kk (R.take (j+1)))):=by show Li _ _ _ _ _ _;rw [HU'.out];exact p1
     have HP2:Hid (Li w2.heap.size w5 (.slice (some ⟨g1,0,none⟩) (p+1) cap1) (p+1) (ys ++ [.slice (some ⟨wr.heap.size,0,none⟩) 2 2]) (f8 kk (R.take (j+1)))):=by show Li _ _ _ _ _ _;rw [Xa.out];exact p2
     have dJ:=hid p3
     have i7:Hid (RowKit.Below w2.heap.size w2 w5):=p5 _ _ (aF _) (by omega) TX.out
     clear p1 p2 p3 p5 hown2 hgrow2 TY
     go_wp2_with fail
     go_roundw
     case rel=>exact ⟨j+1,p+1,_,_,by omega,by omega,by go_num,⟨cn,by omega,rfl,L6⟩,bP,HP2,dJ,i7⟩
     case measure=>simp [intOf];omega
   ·have hk2:k0=2/\n0<kk:=by simpa [Sp.hb] using hh
    obtain ⟨rfl,hnk⟩:=hk2
    obtain ⟨ii,hi0,hi5,hie⟩:∃ i:Int,0<=i/\i<5/\(⟨2,n0,s0⟩:Sv.Val)=Sv.int i:=by
     rcases hy0 with h | h
     ·exact h
     ·exact absurd (congrArg Sv.Val.k h) (show (2:Int)≠0 by decide)
    have hni:n0=ii:=congrArg Sv.Val.n hie
    have hs0:s0=ByteArray.empty:=congrArg Sv.Val.s hie
    subst hni hs0
    clear hie hy0
    have hwp:wrap64 (10 - n0)=10 - n0:=by unfold wrap64;omega
    by_cases hz0:n0=0
    ·subst hz0
     have O6:Hid ((if Sp.hb kk [⟨2,0,ByteArray.empty⟩,⟨k1,n1,s1⟩]=true then Pj [⟨2,0,ByteArray.empty⟩,⟨k1,n1,s1⟩] else [⟨2,0,ByteArray.empty⟩,⟨k1,n1,s1⟩]) = [⟨2,10,ByteArray.empty⟩,⟨3,0,⟨#[110,111,117,103,104,116]⟩⟩]):=by
      show _=_
      rw [hh,if_pos rfl];rfl
     have L5:Hid (Rz ((((W3.setCell ⟨wr.heap.size,1,none⟩ (.int .i64 10)).setCell ⟨wr.heap.size,3,none⟩ (.int .i64 3)).setCell ⟨wr.heap.size,4,none⟩ (.int .i64 0)).setCell ⟨wr.heap.size,5,none⟩ (.string ⟨#[110,111,117,103,104,116]⟩)) (.slice (some ⟨wr.heap.size,0,none⟩) 2 2) [⟨2,10,ByteArray.empty⟩,⟨3,0,⟨#[110,111,117,103,104,116]⟩⟩]):=⟨wr.heap.size,2,rfl,L3 ((((qF.out.put 1 (by simp) _).put 3 (by simp) _).put 4 (by simp) _).put 5 (by simp) _)⟩
     have c3:=qF.out.k3
     have c4:=qF.out.k4
     have c5:=qF.out.k5
     have f3:=qF.out.f 3
     have f4:=qF.out.f 4
     have f5:=qF.out.f 5
     have Ji:Hid (((((W3.setCell ⟨wr.heap.size,1,none⟩ (.int .i64 10)).setCell ⟨wr.heap.size,3,none⟩ (.int .i64 3)).setCell ⟨wr.heap.size,4,none⟩ (.int .i64 0)).setCell ⟨wr.heap.size,5,none⟩ (.string ⟨#[110,111,117,103,104,116]⟩)).heap.size=W3.heap.size):=by show _=_;simp [World.setCell]
     have Q0:Hid (RowKit.Below wr.heap.size wr ((((W3.setCell ⟨wr.heap.size,1,none⟩ (.int .i64 10)).setCell ⟨wr.heap.size,3,none⟩ (.int .i64 3)).setCell ⟨wr.heap.size,4,none⟩ (.int .i64 0)).setCell ⟨wr.heap.size,5,none⟩ (.string ⟨#[110,111,117,103,104,116]⟩))):=(((G3.out.below.setCell (p:=⟨wr.heap.size,1,none⟩) (aF _) _).setCell (p:=⟨wr.heap.size,3,none⟩) (aF _) _).setCell (p:=⟨wr.heap.size,4,none⟩) (aF _) _).setCell (p:=⟨wr.heap.size,5,none⟩) (aF _) _
     have FG:=hid (O7.out.bel Q0.out)
     have Jb:=hid (Nj.out.bel Q0.out)
     have TS:Hid ((World.alloc ((((W3.setCell ⟨wr.heap.size,1,none⟩ (.int .i64 10)).setCell ⟨wr.heap.size,3,none⟩ (.int .i64 3)).setCell ⟨wr.heap.size,4,none⟩ (.int .i64 0)).setCell ⟨wr.heap.size,5,none⟩ (.string ⟨#[110,111,117,103,104,116]⟩)) (.cells #[.slice (some ⟨wr.heap.size,0,none⟩) 2 2] 41)).ownsRow w2.heap.size 41 1 u8 j xs):=FG.out.ow.alloc _
     have If:Hid (∀ j u,([.slice (some ⟨wr.heap.size,0,none⟩) 2 2]:List Value)[j]?=some u->(World.alloc ((((W3.setCell ⟨wr.heap.size,1,none⟩ (.int .i64 10)).setCell ⟨wr.heap.size,3,none⟩ (.int .i64 3)).setCell ⟨wr.heap.size,4,none⟩ (.int .i64 0)).setCell ⟨wr.heap.size,5,none⟩ (.string ⟨#[110,111,117,103,104,116]⟩)) (.cells #[.slice (some ⟨wr.heap.size,0,none⟩) 2 2] 41)).cell? ((⟨W3.heap.size,0,none⟩:Addr).add j)=some u):=by have h:=new1 ((((W3.setCell ⟨wr.heap.size,1,none⟩ (.int .i64 10)).setCell ⟨wr.heap.size,3,none⟩ (.int .i64 3)).setCell ⟨wr.heap.size,4,none⟩ (.int .i64 0)).setCell ⟨wr.heap.size,5,none⟩ (.string ⟨#[110,111,117,103,104,116]⟩)) (.slice (some ⟨wr.heap.size,0,none⟩) 2 2) 41;rw [Ji.out] at h;exact h
     have TZ:Hid ((World.alloc ((((W3.setCell ⟨wr.heap.size,1,none⟩ (.int .i64 10)).setCell ⟨wr.heap.size,3,none⟩ (.int .i64 3)).setCell ⟨wr.heap.size,4,none⟩ (.int .i64 0)).setCell ⟨wr.heap.size,5,none⟩ (.string ⟨#[110,111,117,103,104,116]⟩)) (.cells #[.slice (some ⟨wr.heap.size,0,none⟩) 2 2] 41)).heap.size=W3.heap.size+1):=by show _=_;rw [World.size_alloc,Ji.out]
     have H1:Hid (∀ u∈([(.slice (some ⟨wr.heap.size,0,none⟩) 2 2)]:List Value),u.oneCell'=true):=λu hu=>by simp at hu;subst hu;rfl
     have H3:Hid (j+1<=maxLen):=by show _<=_;unfold maxLen;omega
     have H4:Hid ((j+1)*24<=140737488355328):=by show _<=_;omega
     have H5:Hid (w2.heap.size<=(World.alloc ((((W3.setCell ⟨wr.heap.size,1,none⟩ (.int .i64 10)).setCell ⟨wr.heap.size,3,none⟩ (.int .i64 3)).setCell ⟨wr.heap.size,4,none⟩ (.int .i64 0)).setCell ⟨wr.heap.size,5,none⟩ (.string ⟨#[110,111,117,103,104,116]⟩)) (.cells #[.slice (some ⟨wr.heap.size,0,none⟩) 2 2] 41)).heap.size):=by show _<=_;rw [TZ.out];omega
     have f1:=qF.out.f 1
     go_wp2_with (at_builtin;refine wpList_append_lies _ rfl (.tmp 87) (.tmp 89) 32 rfl w2.heap.size 41 i0 (.slice none 0 0) 1 24 underlying32 ji fU jz1 fV rfl (by decide) _ _ _ rfl TS.out ⟨W3.heap.size,0,none⟩ 1 1 [.slice (some ⟨wr.heap.size,0,none⟩) 2 2] rfl rfl If.out H1.out (by omega) H3.out H4.out H5.out (W3.heap.size+1) TZ.out ?_)
     intro g' cap' w5 hown' hgrow hat hlt'
     obtain ⟨q1,q2,q3,_,q5⟩:=tS FG.out Jb.out MY.out L5.out (by simp) hown' hgrow (by rw [Ji.out];exact hat)
     have Ky:Hid (Li w2.heap.size w5 (.slice (some ⟨g',0,none⟩) (j+1) cap') (j+1) (xs ++ [.slice (some ⟨wr.heap.size,0,none⟩) 2 2]) (gV kk (R.take (j+1)))):=by show Li _ _ _ _ _ _;rw [HU.out,O6.out];exact q1
     have Gn:Hid (Li w2.heap.size w5 u9 p ys (f8 kk (R.take (j+1)))):=by show Li _ _ _ _ _ _;rw [TQ.out,hh];simpa using q2
     have Gk:=hid q3
     have TX:Hid (RowKit.Below w2.heap.size w2 w5):=q5 _ _ (aF _) (by rw [Ji.out];omega) (HB.out.trans (Q0.out.mono hwr))
     have L6 : Hid (cn+1=((R.take (j+1)).filter (Sp.hb kk)).length):=by show _=_;rw [TR.out,hh,Pi.out];rfl
     clear q1 q2 q3 q5 hown' hgrow
     go_wp2_with fail
     go_roundw
     case rel=>exact ⟨j+1,p,_,ys,by omega,by omega,by go_num,⟨cn+1,by omega,by go_num,L6⟩,Ky,Gn,Gk,TX⟩
     case measure=>simp [intOf];omega
    ·have O6:Hid ((if Sp.hb kk [⟨2,n0,ByteArray.empty⟩,⟨k1,n1,s1⟩]=true then Pj [⟨2,n0,ByteArray.empty⟩,⟨k1,n1,s1⟩] else [⟨2,n0,ByteArray.empty⟩,⟨k1,n1,s1⟩]) = [⟨2,10 - n0,ByteArray.empty⟩,⟨k1,n1,s1⟩]):=by
      show _=_
      rw [hh,if_pos rfl]
      show [Sv.int (10 - n0),if n0=0 then _ else _]=_
      rw [if_neg hz0];rfl
     have L5:Hid (Rz (W3.setCell ⟨wr.heap.size,1,none⟩ (.int .i64 (10 - n0))) (.slice (some ⟨wr.heap.size,0,none⟩) 2 2) [⟨2,10 - n0,ByteArray.empty⟩,⟨k1,n1,s1⟩]):=⟨wr.heap.size,2,rfl,L3 (qF.out.put 1 (by simp) _)⟩
     have Ji:Hid ((W3.setCell ⟨wr.heap.size,1,none⟩ (.int .i64 (10 - n0))).heap.size=W3.heap.size):=by show _=_;simp [World.setCell]
     have Q0:Hid (RowKit.Below wr.heap.size wr (W3.setCell ⟨wr.heap.size,1,none⟩ (.int .i64 (10 - n0)))):=G3.out.below.setCell (p:=⟨wr.heap.size,1,none⟩) (aF _) _
     have FG:=hid (O7.out.bel Q0.out)
     have Jb:=hid (Nj.out.bel Q0.out)
     have TS:Hid ((World.alloc (W3.setCell ⟨wr.heap.size,1,none⟩ (.int .i64 (10 - n0))) (.cells #[.slice (some ⟨wr.heap.size,0,none⟩) 2 2] 41)).ownsRow w2.heap.size 41 1 u8 j xs):=FG.out.ow.alloc _
     have If:Hid (∀ j u,([.slice (some ⟨wr.heap.size,0,none⟩) 2 2]:List Value)[j]?=some u->(World.alloc (W3.setCell ⟨wr.heap.size,1,none⟩ (.int .i64 (10 - n0))) (.cells #[.slice (some ⟨wr.heap.size,0,none⟩) 2 2] 41)).cell? ((⟨W3.heap.size,0,none⟩:Addr).add j)=some u):=by have h:=new1 (W3.setCell ⟨wr.heap.size,1,none⟩ (.int .i64 (10 - n0))) (.slice (some ⟨wr.heap.size,0,none⟩) 2 2) 41;rw [Ji.out] at h;exact h
     have TZ:Hid ((World.alloc (W3.setCell ⟨wr.heap.size,1,none⟩ (.int .i64 (10 - n0))) (.cells #[.slice (some ⟨wr.heap.size,0,none⟩) 2 2] 41)).heap.size=W3.heap.size+1):=by show _=_;rw [World.size_alloc,Ji.out]
     have H1:Hid (∀ u∈([(.slice (some ⟨wr.heap.size,0,none⟩) 2 2)]:List Value),u.oneCell'=true):=λu hu=>by simp at hu;subst hu;rfl
     have H3:Hid (j+1<=maxLen):=by show _<=_;unfold maxLen;omega
     have H4:Hid ((j+1)*24<=140737488355328):=by show _<=_;omega
     have H5:Hid (w2.heap.size<=(World.alloc (W3.setCell ⟨wr.heap.size,1,none⟩ (.int .i64 (10 - n0))) (.cells #[.slice (some ⟨wr.heap.size,0,none⟩) 2 2] 41)).heap.size):=by show _<=_;rw [TZ.out];omega
     have f1:=qF.out.f 1
     go_wp2_with (at_builtin;refine wpList_append_lies _ rfl (.tmp 87) (.tmp 89) 32 rfl w2.heap.size 41 i0 (.slice none 0 0) 1 24 underlying32 ji fU jz1 fV rfl (by decide) _ _ _ rfl TS.out ⟨W3.heap.size,0,none⟩ 1 1 [.slice (some ⟨wr.heap.size,0,none⟩) 2 2] rfl rfl If.out H1.out (by omega) H3.out H4.out H5.out (W3.heap.size+1) TZ.out ?_)
     intro g' cap' w5 hown' hgrow hat hlt'
     obtain ⟨q1,q2,q3,_,q5⟩:=tS FG.out Jb.out MY.out L5.out (by simp) hown' hgrow (by rw [Ji.out];exact hat)
     have Ky:Hid (Li w2.heap.size w5 (.slice (some ⟨g',0,none⟩) (j+1) cap') (j+1) (xs ++ [.slice (some ⟨wr.heap.size,0,none⟩) 2 2]) (gV kk (R.take (j+1)))):=by show Li _ _ _ _ _ _;rw [HU.out,O6.out];exact q1
     have Gn:Hid (Li w2.heap.size w5 u9 p ys (f8 kk (R.take (j+1)))):=by show Li _ _ _ _ _ _;rw [TQ.out,hh];simpa using q2
     have Gk:=hid q3
     have TX:Hid (RowKit.Below w2.heap.size w2 w5):=q5 _ _ (aF _) (by rw [Ji.out];omega) (HB.out.trans (Q0.out.mono hwr))
     have L6 : Hid (cn+1=((R.take (j+1)).filter (Sp.hb kk)).length):=by show _=_;rw [TR.out,hh,Pi.out];rfl
     clear q1 q2 q3 q5 hown' hgrow
     go_wp2_with fail
     go_roundw
     case rel=>exact ⟨j+1,p,_,ys,by omega,by omega,by go_num,⟨cn+1,by omega,by go_num,L6⟩,Ky,Gn,Gk,TX⟩
     case measure=>simp [intOf];omega
  ·have hje:R.take j=R:=tD (by have:=HM.out;omega)
   rw [hje] at Pi O7 Nj
   have YJ:=hid (HF2.out.bel HB.out)
   have hbb:=HF2.out.lt
   clear hje HF2 MY
   go_wp2_with fail
   refine (pN kk wr hk6.1 (by omega)).mono ?_
   rintro e w4 ⟨rfl,g4⟩
   generalize hdg:(⟨#[UInt8.ofNat (48+kk.toNat)]⟩:ByteArray)=dg
   have YK:Hid (dg.data.toList = [UInt8.ofNat (48+kk.toNat)]):=by show _=_;rw [<- hdg]
   have hds:dg.size=1:=by rw [<- hdg];rfl
   clear hdg
   have Be:=hid (YJ.out.bel g4.below)
   have T3:=hid (O7.out.bel g4.below)
   have T4:=hid (Nj.out.bel g4.below)
   have tH:w2.heap.size<=w4.heap.size:=cF HB.out.size g4.size
   clear g4 YJ O7 Nj HB
   have Xb:=hid (L1 (s:=(⟨#[117,112,100,97,116,101,32,116,32,115,101,116,32,98,32,61,32,99,97,115,101,32,119,104,101,110,32,97,32,61,32,48,32,116,104,101,110,32,39,110,111,117,103,104,116,39,32,101,108,115,101,32,98,32,101,110,100,44,32,97,32,61,32,49,48,32,45,32,97,32,119,104,101,114,101,32,97,32,60,32]⟩:ByteArray)++dg) HR.out Be.out (by rw [kL,YK.out]) iS.out Jn.out)
   rw [<- Pi.out] at Xb
   go_wp2_with fail
   refine Xb.out.mono ?_
   rintro e w5 ⟨rfl,h5,k5⟩
   have NS:=hid h5
   have T5:=hid (T3.out.kept Be.out hbb k5)
   have T7:=hid (T4.out.kept Be.out hbb k5)
   clear h5 k5 Xb Be T3 T4
   have XV:(gV kk R).length<=1000:=by have:=HM.out;simp [gV];omega
   have hLl:(f8 kk R).length<=1000:=by have:=HM.out;have:=Dw kk R;omega
   go_wp2_with fail
   refine (vX HR.out NS.out rfl (qV Jn.out) (by simp) XV).mono ?_
   rintro e w6 ⟨rv,rfl,hro,h6,k6⟩
   have hb5:=NS.out.lt
   have YL:=hid hro
   have HF6:=hid h6
   have T8:=hid (T5.out.kept NS.out hbb k6)
   have T9:=hid (T7.out.kept NS.out hbb k6)
   obtain ⟨la,lc,rfl⟩:=hro.sl
   have HD1:=hid (I9 (s:=(⟨#[100,101,108,101,116,101,32,102,114,111,109,32,116,32,119,104,101,114,101,32,97,32,62,61,32,49,48,32,45,32]⟩:ByteArray)++dg++(⟨#[32,43,32,49]⟩:ByteArray)) HR.out HF6.out (by rw [kL,kL,YK.out]) iS.out Jn.out)
   rw [<- Pi.out] at HD1
   clear hro h6 k6 NS T5 T7
   go_wp2_with fail
   refine HD1.out.mono ?_
   rintro e w7 ⟨rfl,h7,k7⟩
   have Ua:=hid h7
   have YM:=hid (YL.out.kept HF6.out hb5 k7)
   have Ub:=hid (T8.out.kept HF6.out hbb k7)
   have Uc:=hid (T9.out.kept HF6.out hbb k7)
   clear h7 k7 HF6 YL T8 T9 HD1
   go_wp2_with fail
   refine (vX HR.out Ua.out rfl (qW Jn.out) (by simp) hLl).mono ?_
   rintro e w8 ⟨rv8,rfl,MB,h8,k8⟩
   have YN:=hid h8
   have HM8:=hid ((YM.out.kept Ua.out hb5 k8).lv (by omega))
   have HN8:=hid (MB.lv (by omega))
   have Xc:=hid (Ub.out.kept Ua.out hbb k8).lv
   have Xd:=hid (Uc.out.kept Ua.out hbb k8).lv
   obtain ⟨ma,mc,rfl⟩:=MB.sl
   have HB1:=hid (Dj _ _ _ _ w8 (by have:=(eL (gV kk R)).length_eq;omega) (λr hr=>by rw [qV Jn.out r ((eL _).mem_iff.1 hr)];omega) (λr hr=>by rw [qV Jn.out r hr];omega) HM8.out Xc.out (Dq (qV Jn.out)))
   clear MB h8 k8 Ua YM Ub Uc
   go_wp2_with fail
   refine HB1.out.mono ?_
   rintro e w9 ⟨rfl,g9⟩
   have YO:=hid (YN.out.bel g9.below)
   have HB2:=hid (Dj _ _ _ _ w9 (by have:=(eL (f8 kk R)).length_eq;omega) (λr hr=>by rw [qW Jn.out r ((eL _).mem_iff.1 hr)];omega) (λr hr=>by rw [qW Jn.out r hr];omega) (HN8.out.gr g9) (Xd.out.gr g9) (Dq (qW Jn.out)))
   clear g9 HB1 YN
   go_wp2_with fail
   refine HB2.out.mono ?_
   rintro e w10 ⟨rfl,g10⟩
   have Xe:=hid (YO.out.bel g10.below)
   clear g10 HB2 YO
   go_wp2_with fail
   exact cV (v := .bool true) (by simp [results,results6,go_sem]) rfl ⟨rfl,Xe.out.below⟩
end Go.Proofs.YtgnncnhkgmhngaaGreatDoor
