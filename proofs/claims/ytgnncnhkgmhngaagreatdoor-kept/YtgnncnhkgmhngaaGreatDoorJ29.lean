import Derived.Test.YtgnncnhkgmhngaaGreatDoorJ28
set_option maxHeartbeats 4000000
set_option maxRecDepth 100000
namespace Go.Proofs.YtgnncnhkgmhngaaGreatDoor
open Go.RowKit Go.Sort
def colD (cols:List (Sp.Nm×Int)) (j:Nat):List (Sp.Bs×Int):=(cols.take j).map fun c=>(c.1.1,c.2)
theorem colD_step (cols:List (Sp.Nm×Int)) (j:Nat) (h:j<cols.length):colD cols (j+1)=colD cols j ++ [(cols[j].1.1,cols[j].2)]:=by
 unfold colD;rw [List.take_succ_eq_append_getElem h,List.map_append];rfl
theorem colD_len (cols:List (Sp.Nm×Int)) (j:Nat):(colD cols j).length≤j:=by unfold colD;rw [List.length_map,List.length_take];omega
theorem colsC_step (cols:List (Sp.Nm×Int)) (c:Sp.CS) (j:Nat) (h:j<cols.length):Sp.colsC (cols.drop j) (colD cols j) c=Sp.colsC (cols.drop (j+1)) (colD cols j ++ [(cols[j].1.1,cols[j].2)]) (if 0≤Sp.cellOf cols[j].1.1 (colD cols j) then c.fail 4 cols[j].1.2 else c):=by
 rw [List.drop_eq_getElem_cons h];rfl
def enC (c:Sp.Bs×Int):List Value := [.string (bz c.1), .int .i64 c.2]
def enCs (l:List (Sp.Bs×Int)):List Value:=l.flatMap enC
def OwC (base:Nat) (w:World) (v:Value) (l:List (Sp.Bs×Int)):Prop:=w.ownsRow base 264 2 v l.length (enCs l)
theorem OwC.nil (base:Nat) (w:World):OwC base w (.slice none 0 0) []:=World.ownsRow_nil _ _ _ _
theorem OwC.sl {base:Nat} {w:World} {v:Value} {l:List (Sp.Bs×Int)} (h:OwC base w v l):∃ a c,v = .slice a l.length c:=by
 obtain ⟨hl,h | ⟨g',cap,cur,hv,_⟩⟩:=h
 ·exact ⟨none,0,by rw [h.1,h.2]⟩
 ·exact ⟨_,_,hv⟩
theorem OwC.below {base:Nat} {w w' : World} {v:Value} {l:List (Sp.Bs×Int)} (h:OwC base w v l) (g:Below w.heap.size w w'):OwC base w' v l:=ownsV_below h g
theorem OwC.gr {base:Nat} {w w' : World} {v:Value} {l:List (Sp.Bs×Int)} (h:OwC base w v l) (g:Gr w w'):OwC base w' v l:=h.below g.below
theorem OwC.alloc {base:Nat} {w:World} {v:Value} {l:List (Sp.Bs×Int)} (h:OwC base w v l) (o:Obj):OwC base (w.alloc o) v l:=h.gr ((Gr.refl w).alloc o)
theorem OwC.kept {base cb:Nat} {w w' : World} {v:Value} {l:List (Sp.Bs×Int)} (h:OwC base w v l) (k:Kept cb w w') (hb:cb<base):OwC base w' v l:=by
 have hblk:=ownsV_block h
 obtain ⟨hl,h | ⟨g',cap,cur,hv,h0,hc,r⟩⟩:=h
 ·exact ⟨hl, .inl h⟩
 ·subst hv;exact ⟨hl, .inr ⟨g',cap,cur,rfl,h0,(k.block g' (hblk g' rfl).2 (by omega)).trans hc,r⟩⟩
theorem new2 (w:World) (x y:Value) (t:TypeId):∀ j u, [x,y][j]?=some u→(w.alloc (.cells #[x,y] t)).cell? (Addr.add ⟨w.heap.size,0,none⟩ j)=some u:=by
 intro j u hj
 rw [Addr.add_lit,Nat.zero_add,World.cell?_alloc_new,← hj]
 match j with
 | 0=>rfl
 | 1=>rfl
 | j+2=>rfl
theorem two_one (x:ByteArray) (y:Int):∀ u∈([.string x, .int .i64 y]:List Value),u.oneCell'=true:=fun u hu=>by simp at hu;rcases hu with rfl | rfl <;> rfl
theorem enCs_snoc (l:List (Sp.Bs×Int)) (x:Sp.Bs×Int):enCs l ++ [.string (bz x.1), .int .i64 x.2]=enCs (l ++ [x]):=by simp [enCs,enC]
theorem enCs_at:∀ (l:List (Sp.Bs×Int)) (i d:Nat) (h:i<l.length) (_:d<2),(enCs l)[i*2+d]?=(enC l[i])[d]?
 | [],i,d,h,_=>by simp at h
 | p::l,0,d,_,hd=>by
  simp only [enCs,List.flatMap_cons,List.getElem_cons_zero,Nat.zero_mul,Nat.zero_add]
  rw [List.getElem?_append_left (by simp [enC];omega)]
 | p::l,i+1,d,h,hd=>by
  have ih:=enCs_at l i d (by simpa using h) hd
  simp only [enCs,List.flatMap_cons,List.getElem_cons_succ] at ih ⊢
  rw [List.getElem?_append_right (by simp [enC];omega),← ih]
  congr 1
  simp [enC];omega
theorem OwC.tb {base:Nat} {w w' : World} {va:Option Addr} {n vc:Nat} {l:List (Sp.Bs×Int)} (h:OwC base w (.slice va n vc) l) (g:Gr w w') (hl:l.length≤50):Tb1 w'.heap.size w' ⟨[],l, []⟩ ⟨⟨#[]⟩,va,n,vc,none,0,0⟩:=by
 have hb:=ownsV_block h
 refine ⟨rfl,?_,hl,rfl, .inl ⟨rfl,rfl,rfl⟩,by simp⟩
 obtain ⟨hn,h | ⟨g',cap,cur,hv,h0,hc,r1,r2,r3,r4⟩⟩:=h
 ·left
  have:l = []:=List.eq_nil_of_length_eq_zero h.2
  subst this
  have h1:=h.1
  injection h1 with e1 e2 e3
  exact ⟨rfl,e1,e2,e3⟩
 ·right
  injection hv with e1 e2 e3
  subst e1 e2 e3
  have hlt:=(hb g' rfl).2
  refine ⟨g',0,rfl,rfl,Nat.lt_of_lt_of_le hlt g.size,Nat.lt_of_lt_of_le hlt g.size,fun j hj=>?_,fun j hj=>?_⟩
  ·have hj' : j<l.length:=by simpa using hj
   have e:=enCs_at l j 0 hj' (by omega)
   rw [← r4,List.getElem?_take_of_lt (by omega)] at e
   rw [g.cell (p:=⟨g',_,none⟩) hlt]
   simp [World.cell?,hc]
   simpa [enC] using e
  ·have hj' : j<l.length:=by simpa using hj
   have e:=enCs_at l j 1 hj' (by omega)
   rw [← r4,List.getElem?_take_of_lt (by omega)] at e
   rw [g.cell (p:=⟨g',_,none⟩) hlt]
   simp [World.cell?,hc]
   simpa [enC] using e
theorem tfind_both {k:Nat} {w:World} {T:List Sp.Tb} {v:Value} (h:Tbs k w T v) (x:Sp.Bs) :
  ∃ (tn:ByteArray) (ca:Option Addr) (cl cc:Nat) (ra:Option Addr) (rl rc:Nat),∀ w1,Gr w w1→Calls Tryz.prog 146 #[v, .string (bz x)] w1 fun e w'=>e = .returned (.tuple #[.agg #[.string tn, .slice ca cl cc, .slice ra rl rc], .bool (Sp.findTb x T).isSome])∧Gr w1 w':=by
 rcases tfind_any h x with ⟨e,F⟩ | ⟨t,⟨tn,ca,cl,cc,ra,rl,rc⟩,e,_,F⟩
 ·exact ⟨⟨#[]⟩,none,0,0,none,0,0,fun w1 g=>by rw [e];exact F w1 g⟩
 ·exact ⟨tn,ca,cl,cc,ra,rl,rc,fun w1 g=>by rw [e];exact F w1 g⟩
theorem B3.set1 {w:World} {b:Nat} {x y z:Value} (h:B3 w b x y z) (y' : Value):B3 (w.setCell ⟨b,1,none⟩ y') b x y' z:=by
 obtain ⟨lt,c0,c1,c2,f0,f1,f2⟩:=h
 refine ⟨by simpa [World.setCell] using lt,?_,?_,?_,?_,?_,?_⟩ <;> go_simp
theorem create_next {cb WQ L:Nat} {tv v v' : Value} {c:Sp.CS} {w w6 w7:World} {D:List (Sp.Bs×Int)} {cw:Sp.Bs} {cty:Int} (hW:w.heap.size≤WQ) (hcb:cb<w.heap.size) (hC:CB cb tv c w6) (hB:B3 w6 WQ (.string ⟨#[]⟩) v (.slice none 0 0)) (hO:OwC (WQ+1) w6 v D) (hK:Kept cb w w6) (hL:D.length=L)
  (hown:w7.ownsRow (WQ+1) 264 2 v' (L+1) (enCs D ++ [.string (bz cw), .int .i64 cty])) (hgrow:(w6.alloc (.cells #[.string (bz cw), .int .i64 cty] 264)).grownBy w7 v.ownBlock) :
  w7.cell? ⟨WQ,1,none⟩=some v∧w7.frozen? ⟨WQ,1,none⟩=false∧WQ<w7.heap.size∧(∃ va vc,v' = .slice va (L+1) vc)∧CB cb tv c (w7.setCell ⟨WQ,1,none⟩ v')∧OwC (WQ+1) (w7.setCell ⟨WQ,1,none⟩ v') v' (D ++ [(cw,cty)])∧B3 (w7.setCell ⟨WQ,1,none⟩ v') WQ (.string ⟨#[]⟩) v' (.slice none 0 0)∧Kept cb w (w7.setCell ⟨WQ,1,none⟩ v'):=by
 have hz:w6.heap.size≤w7.heap.size:=Nat.le_trans (by simp) hgrow.size
 have hbl:∀ u,u≤WQ→w7.heap[u]?=w6.heap[u]?:=fun u hu=>by
  have hu6:u<w6.heap.size:=by have:=hB.lt;omega
  refine (hgrow.block u (by simp;omega) (fun e=>?_)).trans (Below.heap_alloc w6 _ u hu6)
  have:=(ownsV_block hO u e.symm).1
  omega
 have hB7:=hB.same hz (hbl WQ (Nat.le_refl _))
 have hst:∀ u,u≠WQ→(w7.setCell ⟨WQ,1,none⟩ v').heap[u]?=w7.heap[u]?:=fun u hu=>Below.heap_setCell _ _ _ _ hu
 have hs8:(w7.setCell ⟨WQ,1,none⟩ v').heap.size=w7.heap.size:=by simp [World.setCell]
 have hO7:OwC (WQ+1) w7 v' (D ++ [(cw,cty)]):=by
  rw [show ([.string (bz cw), .int .i64 cty]:List Value) = [.string (bz (cw,cty).1), .int .i64 (cw,cty).2] from rfl,enCs_snoc] at hown
  simpa [OwC,hL] using hown
 have hsl:=hO7.sl
 rw [List.length_append,hL] at hsl
 refine ⟨hB7.c1,hB7.f1,hB7.lt,hsl,hC.same (by omega) ((hst cb (by omega)).trans (hbl cb (by omega))),?_,hB7.set1 _,?_⟩
 ·have hk:=ownsV_block hO7
  obtain ⟨hl,h | ⟨g',cap,cur,hv,h0,hc,r⟩⟩:=hO7
  ·exact ⟨hl, .inl h⟩
  ·refine ⟨hl, .inr ⟨g',cap,cur,hv,h0,(hst g' ?_).trans hc,r⟩⟩
   omega
 ·exact ⟨hgrow.os.trans hK.os,hgrow.tape.trans hK.tape,hgrow.output.trans hK.output,by have:=hK.size;omega,fun u hu hc=>(hst u (by omega)).trans ((hbl u (by omega)).trans (hK.block u hu hc))⟩
theorem infoCol:(Tryz.prog.info? 264).map (fun i=>(i.zero,i.size,i.bytes))=some (some (.agg #[.string ⟨#[]⟩, .int .i64 0]),2,24):=by kernel_rfl
theorem ClV.cells {w:World} {cols:List (Sp.Nm×Int)} {g:Nat} (h:∀ j u,(cols.flatMap colC)[j]?=some u→w.cell? ⟨g,j,none⟩=some u) (j:Nat) (hj:j<cols.length):w.cell? ⟨g,j*3,none⟩=some (.string (bz cols[j].1.1))∧w.cell? ⟨g,j*3+1,none⟩=some (.int .i64 (cols[j].1.2:Nat))∧w.cell? ⟨g,j*3+2,none⟩=some (.int .i64 cols[j].2):=by
 have key:∀ (l:List (Sp.Nm×Int)) (i d:Nat) (hi:i<l.length) (_:d<3),(l.flatMap colC)[i*3+d]?=(colC l[i])[d]?:=by
  intro l
  induction l with
  | nil=>intro i d hi;simp at hi
  | cons p l ih=>
   intro i d hi hd
   cases i with
   | zero=>
    simp only [List.flatMap_cons,List.getElem_cons_zero,Nat.zero_mul,Nat.zero_add]
    rw [List.getElem?_append_left (by simp [colC];omega)]
   | succ i=>
    have:=ih i d (by simpa using hi) hd
    simp only [List.flatMap_cons,List.getElem_cons_succ]
    rw [List.getElem?_append_right (by simp [colC];omega),← this]
    congr 1
    simp [colC];omega
 exact ⟨h _ _ (by simpa [colC] using key cols j 0 hj (by omega)),h _ _ (by simpa [colC] using key cols j 1 hj (by omega)),h _ _ (by simpa [colC] using key cols j 2 hj (by omega))⟩
theorem ccreate_any {T:List Sp.Tb} {k cb lo hi q:Nat} {tv sl:Value} {c:Sp.CS} {w:World} {nm:Sp.Nm} {cols:List (Sp.Nm×Int)} (hc:CB cb tv c w) (ht:Tbs k w T tv) (_hkl:k≤lo) (hhc:hi≤cb) (hlq:lo≤q∧q<hi) (hA:At w q [.string (bz nm.1), .int .i64 (nm.2:Nat),sl]) (hL:ClV w cols lo hi sl) (hcl:cols.length≤50) :
  Calls Tryz.prog 135 #[.pointer (some ⟨cb,0,none⟩), .pointer (some ⟨q,0,none⟩)] w fun r w'=>r = .returned (.tuple #[])∧CB cb tv { Sp.colsC cols [] (match Sp.findTb nm.1 T with | some _=>c.fail 4 nm.2 | none=>c) with much:=decide (8≤T.length) } w'∧Kept cb w w':=by
 obtain ⟨i0,ji,jz0,jz1,jz2⟩:=info_parts infoCol
 have hcw:=hc.lt
 obtain ⟨g,kc,rfl,hg1,hg2,hcells⟩:=hL
 obtain ⟨nw,na⟩:=nm
 have b0:=hA.k0
 have b1:=hA.k1
 have b2:=hA.k2
 have hqw:=hA.1
 have hgw:g<w.heap.size:=by omega
 obtain ⟨tn,fca,fcl,fcc,fra,frl,frc,F⟩:=tfind_both ht nw
 have HF:=hid (fun w1 (g:Gr w w1)=>(F w1 g).mono fun e w' h=>(⟨h.1,h.2,g.trans h.2⟩:_∧Gr w1 w'∧Gr w w'))
 have HCe:=hid (fun j hj=>ClV.cells hcells j hj)
 have HC:=hid hc
 have HKC:=hid hcl
 obtain ⟨ta,tc,rfl⟩:∃ a c,tv = .slice a T.length c:=by
  rcases ht.2.2 with ⟨rfl,rfl⟩ | ⟨b,off,c,V,rfl,_⟩
  ·exact ⟨_,_,rfl⟩
  ·exact ⟨_,_,rfl⟩
 have hTl:=ht.1
 have c0:=hc.c0
 obtain ⟨n,hn⟩:∃ n,n=cols.length:=⟨_,rfl⟩
 have HN:=hid hn
 rw [← hn] at b2 hcl
 obtain ⟨NT,hNT⟩:∃ NT,NT=T.length:=⟨_,rfl⟩
 rw [← hNT] at hTl c0 HC HF ⊢
 clear hc ht hA hcells F hn hNT
 obtain ⟨kq,hkq⟩:∃ z,z=decide (8≤NT):=⟨_,rfl⟩
 rw [← hkq]
 have HKQ:=hid hkq
 clear hkq
 obtain ⟨c1,hc1⟩:∃ z,z=(match Sp.findTb nw T with | some _=>c.fail 4 na | none=>c):=⟨_,rfl⟩
 simp only []
 rw [← hc1]
 have HC1:Hid (c1=if (Sp.findTb nw T).isSome then c.fail 4 na else c):=by show _=_;rw [hc1];cases Sp.findTb nw T <;> rfl
 clear hc1
 generalize (Sp.findTb nw T).isSome=ok at *
 go_enter Tryz.func135,Tryz.ntmps135
 go_wp2_with fail
 go_region_held3 (fun w'=>w'.cell? ⟨cb,0,none⟩=some (.slice ta NT tc)∧w'.cell? ⟨q,0,none⟩=some (.string (bz nw))) (first | go_keep | exact ⟨c0,b0⟩ | exact ⟨y0,y1⟩ | (constructor <;> go_simp)) ((go_at_call 146;refine (HF.out _ (by repeat first | exact Gr.refl _ | apply Gr.alloc | apply Gr.drew | apply Gr.drewN)).mono ?_;rintro e w2 ⟨rfl,g2,gA⟩;have y0:=(gA.cell (p:=⟨cb,0,none⟩) hcw).trans c0;have y1:=(gA.cell (p:=⟨q,0,none⟩) hqw).trans b0;have hz2:=gA.size;have hqb:q<w2.heap.size:=Nat.lt_of_lt_of_le hqw hz2;try (have hB:B3 w2 w.heap.size (.string ⟨#[]⟩) (.slice none 0 0) (.slice none 0 0):=(by have h:=((B3.new w (.string ⟨#[]⟩) (.slice none 0 0) (.slice none 0 0) 187).gr (Gr.drew (Gr.refl _))).gr g2;simpa using h);obtain ⟨z0,z1,z2,z3,z4,z5,z6⟩:=hB)))
 all_goals
  first
   | (have HG:Hid (Gr w (((w2.setCell ⟨w.heap.size,0,none⟩ (.string tn)).setCell ⟨w.heap.size,1,none⟩ (.slice fca fcl fcc)).setCell ⟨w.heap.size,2,none⟩ (.slice fra frl frc))):=gA.set3 (Nat.le_refl _) _ _ _;rename_i hHeld;clear hHeld y0 y1 g2 gA HF c0 hqb hz2 z0 z1 z2 z3 z4 z5 z6;generalize ((w2.setCell ⟨w.heap.size,0,none⟩ (.string tn)).setCell ⟨w.heap.size,1,none⟩ (.slice fca fcl fcc)).setCell ⟨w.heap.size,2,none⟩ (.slice fra frl frc)=w3 at *)
   | (have HG:Hid (Gr w (w2.alloc (.cells #[.string tn, .slice fca fcl fcc, .slice fra frl frc] 187))):=gA.alloc _;rename_i hHeld;clear hHeld y0 y1 g2 gA HF c0 hqb hz2;generalize w2.alloc (.cells #[.string tn, .slice fca fcl fcc, .slice fra frl frc] 187)=w3 at *)
  have r1:=(HG.out.cell (p:=⟨q,1,none⟩) hqw).trans b1
  cases ok
  case' false=>
   have HE1:Hid (c1=c):=by rw [HC1.out];rfl
   have H4:Hid (CB cb (.slice ta NT tc) c1 w3):=by rw [HE1.out];exact HC.out.gr HG.out
   have K4:Hid (Kept cb w w3):=Kept.gr HG.out
   clear r1
  case' true=>
   have HE1:Hid (c1=c.fail 4 na):=by rw [HC1.out];rfl
   go_wp2_with fail
   refine (cfail_any (HC.out.gr HG.out) 4 na).mono ?_
   have HG3:=HG
   rintro e w3 ⟨rfl,h4,k4⟩
   have H4:Hid (CB cb (.slice ta NT tc) c1 w3):=by rw [HE1.out];exact h4
   have K4:Hid (Kept cb w w3):=(Kept.gr HG3.out).trans k4
   clear h4 k4 r1 HG HG3
  all_goals
   have hqw3:q<w3.heap.size:=by have:=K4.out.size;omega
   have hgw3:g<w3.heap.size:=by have:=K4.out.size;omega
   have r2:=(K4.out.cell (p:=⟨q,2,none⟩) hqw (by show q≠cb;omega)).trans b2
   go_wp2_with fail
   go_loopw [35] (fun i wr=>∃ (j:Nat) (c' : Sp.CS) (v:Value),j≤n∧i = .int .i64 (j:Nat)∧Hid (Sp.colsC cols [] c1=Sp.colsC (cols.drop j) (colD cols j) c')∧Hid (CB cb (.slice ta NT tc) c' wr)∧Hid (OwC (w3.heap.size+1) wr v (colD cols j))∧Hid (B3 wr w3.heap.size (.string ⟨#[]⟩) v (.slice none 0 0))∧Hid (Kept cb w wr)) (fun i _=>n - (intOf i).toNat)
   case atStart=>exact ⟨0,c1, .slice none 0 0,Nat.zero_le _,rfl,rfl,H4.out.alloc _,OwC.nil _ _,B3.new w3 _ _ _ _,K4.out.alloc _⟩
   case round=>
    obtain ⟨j,c',v,hj,rfl,HP,HCr,HO,HB,HK⟩:=hrel
    have hwr:=HK.out.size
    have hbr:=HB.out.lt
    by_cases hlt:j<n
    ·have hjz:j<cols.length:=by have:=HN.out;omega
     obtain ⟨x0,x1,x2⟩:=HCe.out j hjz
     have y0:=(HK.out.cell (p:=⟨g,j*3,none⟩) hgw (by show g≠cb;omega)).trans x0
     have y1:=(HK.out.cell (p:=⟨g,j*3+1,none⟩) hgw (by show g≠cb;omega)).trans x1
     have y2:=(HK.out.cell (p:=⟨g,j*3+2,none⟩) hgw (by show g≠cb;omega)).trans x2
     have HPn:=hid (HP.out.trans (colsC_step cols c' j hjz))
     have hD:=colD_len cols j
     have GX:=hid ((Gr.refl wr).alloc (.cells #[.string (bz cols[j].1.1), .int .i64 (cols[j].1.2:Nat), .int .i64 cols[j].2] 228))
     obtain ⟨va,vc,rfl⟩:=HO.out.sl
     have HCl:=hid (fun x=>tcellT_any (HO.out.tb GX.out (by omega)) x)
     clear x0 x1 x2 HP
     generalize hcj:cols[j]=cj at *
     obtain ⟨⟨cw,ca⟩,cty⟩:=cj
     have HCJ:=hid hcj
     clear hcj
     simp only [] at y0 y1 y2 HPn GX HCl
     obtain ⟨bl,z0,z1,z2,z3,z4,z5⟩:=HB.out
     have HCj:=hid (HCl.out cw)
     clear HCl
     generalize Sp.cellOf cw (colD cols j)=ce at *
     generalize hLn:(colD cols j).length=L at *
     have HLn:=hid hLn
     clear hLn
     go_wp2_with fail
     refine HCj.out.mono ?_
     rintro e w5 ⟨rfl,g5⟩
     have G5:=hid (GX.out.trans g5)
     have HX5:=hid ((Bk.new wr #[.string (bz cw), .int .i64 (ca:Nat), .int .i64 cty] 228).below g5.below)
     have hz5:=G5.out.size
     have x50:=HX5.out.k0
     have x51:=HX5.out.k1
     have x52:=HX5.out.k2
     have xl5:=HX5.out.lt
     obtain ⟨bl',z0',z1',z2',z3',z4',z5'⟩:=HB.out.gr G5.out
     have HC5:=hid (HCr.out.gr G5.out)
     have HO5:=hid (HO.out.gr G5.out)
     clear g5 HCj y0 y1 y2 z0 z1 z2 z3 z4 z5
     by_cases hce:0≤ce
     ·have HPm:=hid (HPn.out.trans (by rw [if_pos hce]))
      go_wp2_with fail
      refine (cfail_any HC5.out 4 ca).mono ?_
      rintro e w6 ⟨rfl,h6,k6⟩
      have H6:=hid h6
      have K6:=hid k6
      have hz6:=k6.size
      have HB6:=hid ((HB.out.gr G5.out).keptB k6 (by have:=K4.out.size;omega))
      have HO6:=hid (HO5.out.kept k6 (by have:=K4.out.size;omega))
      have HX6:=hid (HX5.out.kept k6 (by have:=K4.out.size;omega))
      have KK:=hid ((HK.out.trans (Kept.gr G5.out)).trans k6)
      have HOL:Hid (w6.ownsRow (w3.heap.size+1) 264 2 (.slice va L vc) L (enCs (colD cols j))):=by have h:=HO6.out;unfold OwC at h;rw [HLn.out] at h;exact h
      have x60:=HX6.out.k0
      have x62:=HX6.out.k2
      have xl6:=HX6.out.lt
      obtain ⟨bl6,p0,p1,p2,p3,p4,p5⟩:=HB6.out
      clear h6 k6 x50 x51 x52 z0' z1' z2' z3' z4' z5'
      have H3m:Hid (L+1≤maxLen):=by show _≤_;unfold maxLen;omega
      have H4m:Hid ((L+1)*24≤140737488355328):=by show _≤_;omega
      have H5m:Hid (w3.heap.size+1≤(w6.alloc (.cells #[.string (bz cw), .int .i64 cty] 264)).heap.size):=by show _≤_;simp;omega
      go_wp2_with (at_builtin;go_must (refine wpList_append_own _ rfl (.tmp 51) (.tmp 58) 185 rfl (w3.heap.size+1) 264 i0 (.agg #[.string ⟨#[]⟩, .int .i64 0]) 2 24 Tryz.underlying185 ji jz0 jz1 jz2 rfl (by decide) _ L _ rfl (HOL.out.alloc _) ⟨_,0,none⟩ 1 1 [.string (bz cw), .int .i64 cty] rfl rfl (new2 _ _ _ _) (two_one _ _) H3m.out H4m.out H5m.out ?_))
      intro v' w7 hown hgrow _
      obtain ⟨n1,n2,n3,⟨va',vc',rfl⟩,hnx⟩:=create_next (D:=colD cols j) (by have:=K4.out.size;omega) hcw H6.out HB6.out HO6.out KK.out HLn.out hown hgrow
      have HNX:=hid hnx
      clear hown hgrow hnx
      go_wp2_with fail
      go_roundw
      case rel=>exact ⟨j+1,_,_,by omega,by go_num,by rw [colD_step cols j hjz,HCJ.out];exact HPm.out,HNX.out.1,by rw [colD_step cols j hjz,HCJ.out];exact HNX.out.2.1,HNX.out.2.2.1,HNX.out.2.2.2⟩
      case measure=>simp [intOf];omega
     ·have HPm:=hid (HPn.out.trans (by rw [if_neg hce]))
      have HB5:=hid (HB.out.gr G5.out)
      have KK:=hid (HK.out.trans (Kept.gr G5.out))
      have HOL:Hid (w5.ownsRow (w3.heap.size+1) 264 2 (.slice va L vc) L (enCs (colD cols j))):=by have h:=HO5.out;unfold OwC at h;rw [HLn.out] at h;exact h
      have H3m:Hid (L+1≤maxLen):=by show _≤_;unfold maxLen;omega
      have H4m:Hid ((L+1)*24≤140737488355328):=by show _≤_;omega
      have H5m:Hid (w3.heap.size+1≤(w5.alloc (.cells #[.string (bz cw), .int .i64 cty] 264)).heap.size):=by show _≤_;simp;omega
      go_wp2_with (at_builtin;go_must (refine wpList_append_own _ rfl (.tmp 51) (.tmp 58) 185 rfl (w3.heap.size+1) 264 i0 (.agg #[.string ⟨#[]⟩, .int .i64 0]) 2 24 Tryz.underlying185 ji jz0 jz1 jz2 rfl (by decide) _ L _ rfl (HOL.out.alloc _) ⟨_,0,none⟩ 1 1 [.string (bz cw), .int .i64 cty] rfl rfl (new2 _ _ _ _) (two_one _ _) H3m.out H4m.out H5m.out ?_))
      intro v' w7 hown hgrow _
      obtain ⟨n1,n2,n3,⟨va',vc',rfl⟩,hnx⟩:=create_next (D:=colD cols j) (by have:=K4.out.size;omega) hcw HC5.out HB5.out HO5.out KK.out HLn.out hown hgrow
      have HNX:=hid hnx
      clear hown hgrow hnx
      go_wp2_with fail
      go_roundw
      case rel=>exact ⟨j+1,_,_,by omega,by go_num,by rw [colD_step cols j hjz,HCJ.out];exact HPm.out,HNX.out.1,by rw [colD_step cols j hjz,HCJ.out];exact HNX.out.2.1,HNX.out.2.2.1,HNX.out.2.2.2⟩
      case measure=>simp [intOf];omega
    ·have HPe:Hid (Sp.colsC cols [] c1=c'):=by show _=_;have:=HN.out;rw [HP.out,List.drop_eq_nil_of_le (by omega)];rfl
     have HCe:=HCr.out
     obtain ⟨lt,d0,d1,d2,d3,fz⟩:=HCr.out
     have f3:=fz 3
     have FZ:=hid fz
     clear fz HP HCe
     by_cases h8:8≤NT
     ·obtain rfl:kq=true:=by rw [HKQ.out];simpa using h8
      go_wp2_with fail
      go_end0
      refine ⟨rfl,?_,HK.out.trans ((Kept.refl cb wr).setCell 3 _)⟩
      rw [HPe.out]
      exact ⟨by simpa [World.setCell] using lt,by go_simp,by go_simp,by go_simp,(by go_simp;try omega),fun o=>by have:=FZ.out o;go_simp⟩
     ·obtain rfl:kq=false:=by rw [HKQ.out];simpa using h8
      go_wp2_with fail
      go_end0
      refine ⟨rfl,?_,HK.out.trans ((Kept.refl cb wr).setCell 3 _)⟩
      rw [HPe.out]
      exact ⟨by simpa [World.setCell] using lt,by go_simp,by go_simp,by go_simp,(by go_simp;try omega),fun o=>by have:=FZ.out o;go_simp⟩
end Go.Proofs.YtgnncnhkgmhngaaGreatDoor
namespace Go.Proofs.YtgnncnhkgmhngaaGreatDoor.Sp
def okS (N:Nat):Stm→Prop
 | .create _ cols=>cols.length≤7
 | .drop _=>True
 | .insertV _ _ rows=>rows.length≤N∧∀ x∈rows,wf N x.2 .list∧x.2.len≤N∧x.2.dep≤N
 | .insertQ _ _ _=>False
 | .delete _ wh=>wf N wh .cl∧wh.dep≤N
 | .update _ _ _=>False
 | .trans _=>True
 | .query q=>wf N q .query∧q.dep≤N
theorem len_parse {s:Bs} (hp:parse s=(0,0)):s.length≤2000:=by
 unfold parse at hp
 split at hp
 ·simp at hp
 ·omega
end Go.Proofs.YtgnncnhkgmhngaaGreatDoor.Sp
namespace Go.Proofs.YtgnncnhkgmhngaaGreatDoor
open Go.RowKit Go.Sort
theorem ts_Create_Create (v:Option Addr) (w:World):Sem.run Tryz.prog (Instr.typeAssert (.iface 160 (.pointer v)) 90 160 true) w = .ok (.tuple #[.pointer v, .bool true]) w:=by kernel_rfl
theorem ts_Drop_Create (v:Option Addr) (w:World):Sem.run Tryz.prog (Instr.typeAssert (.iface 163 (.pointer v)) 90 160 true) w = .ok (.tuple #[.pointer none, .bool false]) w:=by kernel_rfl
theorem ts_Drop_Drop (v:Option Addr) (w:World):Sem.run Tryz.prog (Instr.typeAssert (.iface 163 (.pointer v)) 90 163 true) w = .ok (.tuple #[.pointer v, .bool true]) w:=by kernel_rfl
theorem ts_Insert_Create (v:Option Addr) (w:World):Sem.run Tryz.prog (Instr.typeAssert (.iface 169 (.pointer v)) 90 160 true) w = .ok (.tuple #[.pointer none, .bool false]) w:=by kernel_rfl
theorem ts_Insert_Drop (v:Option Addr) (w:World):Sem.run Tryz.prog (Instr.typeAssert (.iface 169 (.pointer v)) 90 163 true) w = .ok (.tuple #[.pointer none, .bool false]) w:=by kernel_rfl
theorem ts_Insert_Insert (v:Option Addr) (w:World):Sem.run Tryz.prog (Instr.typeAssert (.iface 169 (.pointer v)) 90 169 true) w = .ok (.tuple #[.pointer v, .bool true]) w:=by kernel_rfl
theorem ts_Delete_Create (v:Option Addr) (w:World):Sem.run Tryz.prog (Instr.typeAssert (.iface 171 (.pointer v)) 90 160 true) w = .ok (.tuple #[.pointer none, .bool false]) w:=by kernel_rfl
theorem ts_Delete_Drop (v:Option Addr) (w:World):Sem.run Tryz.prog (Instr.typeAssert (.iface 171 (.pointer v)) 90 163 true) w = .ok (.tuple #[.pointer none, .bool false]) w:=by kernel_rfl
theorem ts_Delete_Insert (v:Option Addr) (w:World):Sem.run Tryz.prog (Instr.typeAssert (.iface 171 (.pointer v)) 90 169 true) w = .ok (.tuple #[.pointer none, .bool false]) w:=by kernel_rfl
theorem ts_Delete_Delete (v:Option Addr) (w:World):Sem.run Tryz.prog (Instr.typeAssert (.iface 171 (.pointer v)) 90 171 true) w = .ok (.tuple #[.pointer v, .bool true]) w:=by kernel_rfl
theorem ts_Update_Create (v:Option Addr) (w:World):Sem.run Tryz.prog (Instr.typeAssert (.iface 176 (.pointer v)) 90 160 true) w = .ok (.tuple #[.pointer none, .bool false]) w:=by kernel_rfl
theorem ts_Update_Drop (v:Option Addr) (w:World):Sem.run Tryz.prog (Instr.typeAssert (.iface 176 (.pointer v)) 90 163 true) w = .ok (.tuple #[.pointer none, .bool false]) w:=by kernel_rfl
theorem ts_Update_Insert (v:Option Addr) (w:World):Sem.run Tryz.prog (Instr.typeAssert (.iface 176 (.pointer v)) 90 169 true) w = .ok (.tuple #[.pointer none, .bool false]) w:=by kernel_rfl
theorem ts_Update_Delete (v:Option Addr) (w:World):Sem.run Tryz.prog (Instr.typeAssert (.iface 176 (.pointer v)) 90 171 true) w = .ok (.tuple #[.pointer none, .bool false]) w:=by kernel_rfl
theorem ts_Update_Update (v:Option Addr) (w:World):Sem.run Tryz.prog (Instr.typeAssert (.iface 176 (.pointer v)) 90 176 true) w = .ok (.tuple #[.pointer v, .bool true]) w:=by kernel_rfl
theorem ts_Select_Create (v:Option Addr) (w:World):Sem.run Tryz.prog (Instr.typeAssert (.iface 278 (.pointer v)) 90 160 true) w = .ok (.tuple #[.pointer none, .bool false]) w:=by kernel_rfl
theorem ts_Select_Drop (v:Option Addr) (w:World):Sem.run Tryz.prog (Instr.typeAssert (.iface 278 (.pointer v)) 90 163 true) w = .ok (.tuple #[.pointer none, .bool false]) w:=by kernel_rfl
theorem ts_Select_Insert (v:Option Addr) (w:World):Sem.run Tryz.prog (Instr.typeAssert (.iface 278 (.pointer v)) 90 169 true) w = .ok (.tuple #[.pointer none, .bool false]) w:=by kernel_rfl
theorem ts_Select_Delete (v:Option Addr) (w:World):Sem.run Tryz.prog (Instr.typeAssert (.iface 278 (.pointer v)) 90 171 true) w = .ok (.tuple #[.pointer none, .bool false]) w:=by kernel_rfl
theorem ts_Select_Update (v:Option Addr) (w:World):Sem.run Tryz.prog (Instr.typeAssert (.iface 278 (.pointer v)) 90 176 true) w = .ok (.tuple #[.pointer none, .bool false]) w:=by kernel_rfl
theorem ts_Select_Query (v:Option Addr) (w:World):Sem.run Tryz.prog (Instr.typeAssert (.iface 278 (.pointer v)) 90 179 true) w = .ok (.tuple #[.iface 278 (.pointer v), .bool true]) w:=by kernel_rfl
theorem ts_Combined_Create (v:Option Addr) (w:World):Sem.run Tryz.prog (Instr.typeAssert (.iface 280 (.pointer v)) 90 160 true) w = .ok (.tuple #[.pointer none, .bool false]) w:=by kernel_rfl
theorem ts_Combined_Drop (v:Option Addr) (w:World):Sem.run Tryz.prog (Instr.typeAssert (.iface 280 (.pointer v)) 90 163 true) w = .ok (.tuple #[.pointer none, .bool false]) w:=by kernel_rfl
theorem ts_Combined_Insert (v:Option Addr) (w:World):Sem.run Tryz.prog (Instr.typeAssert (.iface 280 (.pointer v)) 90 169 true) w = .ok (.tuple #[.pointer none, .bool false]) w:=by kernel_rfl
theorem ts_Combined_Delete (v:Option Addr) (w:World):Sem.run Tryz.prog (Instr.typeAssert (.iface 280 (.pointer v)) 90 171 true) w = .ok (.tuple #[.pointer none, .bool false]) w:=by kernel_rfl
theorem ts_Combined_Update (v:Option Addr) (w:World):Sem.run Tryz.prog (Instr.typeAssert (.iface 280 (.pointer v)) 90 176 true) w = .ok (.tuple #[.pointer none, .bool false]) w:=by kernel_rfl
theorem ts_Combined_Query (v:Option Addr) (w:World):Sem.run Tryz.prog (Instr.typeAssert (.iface 280 (.pointer v)) 90 179 true) w = .ok (.tuple #[.iface 280 (.pointer v), .bool true]) w:=by kernel_rfl
theorem cs_create {cb q:Nat} {w:World} {P:World→Prop} (hC:Calls Tryz.prog 135 #[.pointer (some ⟨cb,0,none⟩), .pointer (some ⟨q,0,none⟩)] w fun r w'=>r = .returned (.tuple #[])∧P w') :
  Calls Tryz.prog 85 #[.pointer (some ⟨cb,0,none⟩), .iface 160 (.pointer (some ⟨q,0,none⟩))] w fun r w'=>r = .returned (.tuple #[])∧P w':=by
 have HC:=hid hC
 have t0:=ts_Create_Create
 clear hC
 go_enter Tryz.func85,Tryz.ntmps85
 go_wp2_with fail
 refine HC.out.mono ?_
 rintro e w1 ⟨rfl,h⟩
 go_wp2_with fail
 go_end0
 exact ⟨rfl,h⟩
theorem cs_insert {cb q:Nat} {w:World} {P:World→Prop} (hC:Calls Tryz.prog 137 #[.pointer (some ⟨cb,0,none⟩), .pointer (some ⟨q,0,none⟩)] w fun r w'=>r = .returned (.tuple #[])∧P w') :
  Calls Tryz.prog 85 #[.pointer (some ⟨cb,0,none⟩), .iface 169 (.pointer (some ⟨q,0,none⟩))] w fun r w'=>r = .returned (.tuple #[])∧P w':=by
 have HC:=hid hC
 have t0:=ts_Insert_Create
 have t1:=ts_Insert_Drop
 have t2:=ts_Insert_Insert
 clear hC
 go_enter Tryz.func85,Tryz.ntmps85
 go_wp2_with fail
 refine HC.out.mono ?_
 rintro e w1 ⟨rfl,h⟩
 go_wp2_with fail
 go_end0
 exact ⟨rfl,h⟩
theorem cs_update {cb q:Nat} {w:World} {P:World→Prop} (hC:Calls Tryz.prog 140 #[.pointer (some ⟨cb,0,none⟩), .pointer (some ⟨q,0,none⟩)] w fun r w'=>r = .returned (.tuple #[])∧P w') :
  Calls Tryz.prog 85 #[.pointer (some ⟨cb,0,none⟩), .iface 176 (.pointer (some ⟨q,0,none⟩))] w fun r w'=>r = .returned (.tuple #[])∧P w':=by
 have HC:=hid hC
 have t0:=ts_Update_Create
 have t1:=ts_Update_Drop
 have t2:=ts_Update_Insert
 have t3:=ts_Update_Delete
 have t4:=ts_Update_Update
 clear hC
 go_enter Tryz.func85,Tryz.ntmps85
 go_wp2_with fail
 refine HC.out.mono ?_
 rintro e w1 ⟨rfl,h⟩
 go_wp2_with fail
 go_end0
 exact ⟨rfl,h⟩
theorem cs_sel {cb q:Nat} {w:World} {P:World→Prop} (hC:Calls Tryz.prog 141 #[.pointer (some ⟨cb,0,none⟩), .iface 278 (.pointer (some ⟨q,0,none⟩)), .pointer none] w fun r w'=>∃ v,r = .returned v∧P w') :
  Calls Tryz.prog 85 #[.pointer (some ⟨cb,0,none⟩), .iface 278 (.pointer (some ⟨q,0,none⟩))] w fun r w'=>r = .returned (.tuple #[])∧P w':=by
 have HC:=hid hC
 have t0:=ts_Select_Create
 have t1:=ts_Select_Drop
 have t2:=ts_Select_Insert
 have t3:=ts_Select_Delete
 have t4:=ts_Select_Update
 have t5:=ts_Select_Query
 clear hC
 go_enter Tryz.func85,Tryz.ntmps85
 go_wp2_with fail
 refine HC.out.mono ?_
 rintro e w1 ⟨v,rfl,h⟩
 go_wp2_with fail
 go_end0
 exact ⟨rfl,h⟩
theorem cs_comb {cb q:Nat} {w:World} {P:World→Prop} (hC:Calls Tryz.prog 141 #[.pointer (some ⟨cb,0,none⟩), .iface 280 (.pointer (some ⟨q,0,none⟩)), .pointer none] w fun r w'=>∃ v,r = .returned v∧P w') :
  Calls Tryz.prog 85 #[.pointer (some ⟨cb,0,none⟩), .iface 280 (.pointer (some ⟨q,0,none⟩))] w fun r w'=>r = .returned (.tuple #[])∧P w':=by
 have HC:=hid hC
 have t0:=ts_Combined_Create
 have t1:=ts_Combined_Drop
 have t2:=ts_Combined_Insert
 have t3:=ts_Combined_Delete
 have t4:=ts_Combined_Update
 have t5:=ts_Combined_Query
 clear hC
 go_enter Tryz.func85,Tryz.ntmps85
 go_wp2_with fail
 refine HC.out.mono ?_
 rintro e w1 ⟨v,rfl,h⟩
 go_wp2_with fail
 go_end0
 exact ⟨rfl,h⟩
theorem cs_drop {T:List Sp.Tb} {cb q k:Nat} {tv:Value} {c:Sp.CS} {w:World} {nm:Sp.Nm} (hc:CB cb tv c w) (ht:Tbs k w T tv) (hA:At w q [.string (bz nm.1), .int .i64 (nm.2:Nat)]) :
  Calls Tryz.prog 85 #[.pointer (some ⟨cb,0,none⟩), .iface 163 (.pointer (some ⟨q,0,none⟩))] w fun r w'=>r = .returned (.tuple #[])∧CB cb tv (Sp.tableC T nm c).2 w'∧Kept cb w w':=by
 have HC:=hid (ctable_any hc ht nm)
 have b0:=hA.k0
 have b1:=hA.k1
 have hqw:=hA.1
 obtain ⟨nw,na⟩:=nm
 have t0:=ts_Drop_Create
 have t1:=ts_Drop_Drop
 clear hc ht hA
 go_enter Tryz.func85,Tryz.ntmps85
 go_wp2_with fail
 refine HC.out.mono ?_
 rintro e w1 ⟨tt,rfl,ht1,h1,k1⟩
 have H1:=hid h1
 have K1:=hid k1
 obtain ⟨tn,tca,tcl,tcc,tra,trl,trc⟩:=tt
 rw [show enT ⟨tn,tca,tcl,tcc,tra,trl,trc⟩ = .agg #[.string tn, .slice tca tcl tcc, .slice tra trl trc] from rfl]
 clear ht1 h1 k1 HC
 go_wp2_with fail
 go_end0
 exact ⟨rfl,H1.out,K1.out⟩
theorem cs_delete {T:List Sp.Tb} {cb q k lo:Nat} {tv pv:Value} {c:Sp.CS} {w:World} {nm:Sp.Nm} {wh:Sp.Nd} (hW:wh = .none∨∃ a e,wh = .clause a e∧ExC T e∧1+e.dep≤100000) (hc:CB cb tv c w) (ht:Tbs k w T tv) (hkl:k≤lo) (hlq:lo≤q) (hqc:q<cb) (hA:At w q [.string (bz nm.1), .int .i64 (nm.2:Nat),pv]) (hpt:IsPt pv) (hR:Rp w wh lo q pv) :
  Calls Tryz.prog 85 #[.pointer (some ⟨cb,0,none⟩), .iface 171 (.pointer (some ⟨q,0,none⟩))] w fun r w'=>r = .returned (.tuple #[])∧CB cb tv (Sp.cond T wh [[((Sp.tableC T nm c).1.name,(Sp.tableC T nm c).1)]] (Sp.tableC T nm c).2).1 w'∧Rp w' (Sp.cond T wh [[((Sp.tableC T nm c).1.name,(Sp.tableC T nm c).1)]] (Sp.tableC T nm c).2).2 lo q pv∧Fc cb lo q w w':=by
 have hcw:=hc.lt
 have hkw:=ht.2.1
 have GX:=hid ((Gr.refl w).drew)
 have HC:=hid (ctable_any (hc.gr GX.out) (ht.low (Low.of_gr GX.out)) nm)
 have b0:=hA.k0
 have b1:=hA.k1
 have b2:=hA.k2
 have hqw:=hA.1
 have HNp:Hid (NoSl pv):=hpt.noSl
 obtain ⟨pa,rfl⟩:=hpt
 obtain ⟨nw,na⟩:=nm
 have HT:=hid ht
 have HR:=hid hR
 have HW:=hid hW
 have hkw':=hid hkw
 simp only [] at b0 b1
 generalize Sp.tableC T (nw,na) c=TC at *
 obtain ⟨t,c0⟩:=TC
 simp only [] at HC ⊢
 have t0:=ts_Delete_Create
 have t1:=ts_Delete_Drop
 have t2:=ts_Delete_Insert
 have t3:=ts_Delete_Delete
 have hqq:q≠cb∧¬ (lo≤q∧q<q):=by omega
 clear hc ht hA hR hW hkw
 go_enter Tryz.func85,Tryz.ntmps85
 go_wp2_with fail
 go_region_held3 (fun w'=>w'.cell? ⟨q,0,none⟩=some (.string (bz nw))∧w'.cell? ⟨q,1,none⟩=some (.int .i64 (na:Nat))∧w'.cell? ⟨q,2,none⟩=some (.pointer pa)) (first | go_keep | exact ⟨b0,b1,b2⟩ | exact ⟨d0,d1,d2⟩ | exact ⟨e0,e1,e2⟩ | exact ⟨s0,s1,s2⟩) (first | (go_at_call 136;refine HC.out.mono ?_;rintro er w1 ⟨tt,rfl,ht1,h1,k1⟩;obtain ⟨tn,tca,tcl,tcc,tra,trl,trc⟩:=tt;have hz1:w.heap.size≤w1.heap.size:=k1.size;have hq1:q<w1.heap.size:=Nat.lt_of_lt_of_le hqw hz1;have d0:=(k1.cell (p:=⟨q,0,none⟩) hqw hqq.1).trans b0;have d1:=(k1.cell (p:=⟨q,1,none⟩) hqw hqq.1).trans b1;have d2:=(k1.cell (p:=⟨q,2,none⟩) hqw hqq.1).trans b2) | (go_at_call 139;refine (itself_any k (cb+1) t ⟨tn,tca,tcl,tcc,tra,trl,trc⟩ w1 (Nat.le_trans hkw'.out hz1) (by omega) ht1).mono ?_;rintro er w2 ⟨iv,rfl,s2',g2⟩;obtain ⟨ia,rfl⟩:=s2'.ptr;have hz2:w1.heap.size≤w2.heap.size:=g2.size;have hq2:q<w2.heap.size:=Nat.lt_of_lt_of_le hq1 hz2;have e0:=(g2.cell (p:=⟨q,0,none⟩) hq1).trans d0;have e1:=(g2.cell (p:=⟨q,1,none⟩) hq1).trans d1;have e2:=(g2.cell (p:=⟨q,2,none⟩) hq1).trans d2) | (go_at_call 138;refine (cond_any (m:=cb+1) (k:=k) (T:=T) (lvs := [[(t.name,t)]]) (lo:=lo) (hi:=q) HW.out ⟨h1.gr g2,(HT.out.low (Low.of_gr GX.out)).low (Low.of_kept (k1.trans (Kept.gr g2)) (by omega)),s2',hkl,by omega,by omega,by omega⟩ (HR.out.frame (Nat.le_trans hz1 hz2) _ _ _ _ (fun u u1 u2=>(g2.below.block u (by omega)).trans (k1.block u (show u<w.heap.size by omega) (by omega))) (fun _ _ _ _ e=>absurd e (HNp.out _ _ _)))).mono ?_;rintro er w3 ⟨rfl,h3,r3,f3⟩;have s0:=(f3.cell (p:=⟨q,0,none⟩) hq2 hqq.1 hqq.2).trans e0;have s1:=(f3.cell (p:=⟨q,1,none⟩) hq2 hqq.1 hqq.2).trans e1;have s2:=(f3.cell (p:=⟨q,2,none⟩) hq2 hqq.1 hqq.2).trans e2))
 have F3:Hid (Fc cb lo q w w3):=(((Fc.gr GX.out).trans (Fc.of k1)).trans (Fc.gr g2)).trans f3
 have H3:=hid h3
 have R3:=hid r3
 go_end0
 exact ⟨rfl,H3.out,R3.out,F3.out⟩
end Go.Proofs.YtgnncnhkgmhngaaGreatDoor
