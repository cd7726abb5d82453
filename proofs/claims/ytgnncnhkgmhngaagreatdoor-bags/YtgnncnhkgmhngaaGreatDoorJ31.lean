import Derived.Test.YtgnncnhkgmhngaaGreatDoorJ30
set_option maxHeartbeats 4000000
set_option maxRecDepth 100000
namespace Go.Proofs.YtgnncnhkgmhngaaGreatDoor
open Sp
open Go.RowKit Go.Sort
def nU (cols:List (Nm×Int)) (j:Nat):List (Sp.Bs×Int):=(cols.take j).map λc=>(c.1.1,c.2)
theorem nN (cols:List (Nm×Int)) (j:Nat) (h:j<cols.length):nU cols (j+1)=nU cols j ++ [(cols[j].1.1,cols[j].2)]:=by
 unfold nU;rw [uV h,List.map_append];rfl
theorem Jv (cols:List (Nm×Int)) (j:Nat):(nU cols j).length<=j:=by unfold nU;rw [List.length_map,List.length_take];omega
theorem D0 (cols:List (Nm×Int)) (c:CS) (j:Nat) (h:j<cols.length):rH (cols.drop j) (nU cols j) c=rH (cols.drop (j+1)) (nU cols j ++ [(cols[j].1.1,cols[j].2)]) (if 0<=cellOf cols[j].1.1 (nU cols j) then c.fail 4 cols[j].1.2 else c):=by
 rw [nS h];rfl
def M9 (c:Sp.Bs×Int):List Value := [.string (bz c.1), .int .i64 c.2]
def oQ (l:List (Sp.Bs×Int)):List Value:=l.flatMap M9
def nO (base:Nat) (w:World) (v:Value) (l:List (Sp.Bs×Int)):Prop:=w.ownsRow base 264 2 v l.length (oQ l)
theorem nO.nil (base:Nat) (w:World):nO base w (.slice none 0 0) []:=World.ownsRow_nil _ _ _ _
theorem nO.sl {base:Nat} {w:World} {v:Value} {l:List (Sp.Bs×Int)} (h:nO base w v l):∃ a c,v = .slice a l.length c:=by
 obtain ⟨hl,h | ⟨g',cap,cur,hv,_⟩⟩:=h
 ·exact ⟨none,0,by rw [h.1,h.2]⟩
 ·exact ⟨_,_,hv⟩
theorem nO.below {base:Nat} {w w' : World} {v:Value} {l:List (Sp.Bs×Int)} (h:nO base w v l) (g:Below w.heap.size w w'):nO base w' v l:=aH h g
theorem nO.gr {base:Nat} {w w' : World} {v:Value} {l:List (Sp.Bs×Int)} (h:nO base w v l) (g:Gr w w'):nO base w' v l:=h.below g.below
theorem nO.alloc {base:Nat} {w:World} {v:Value} {l:List (Sp.Bs×Int)} (h:nO base w v l) (o:Obj):nO base (w.alloc o) v l:=h.gr ((Gr.refl w).alloc o)
theorem nO.kept {base cb:Nat} {w w' : World} {v:Value} {l:List (Sp.Bs×Int)} (h:nO base w v l) (k:Kept cb w w') (hb:cb<base):nO base w' v l:=by
 have hblk:=aB h
 obtain ⟨hl,h | ⟨g',cap,cur,hv,h0,hc,r⟩⟩:=h
 ·exact ⟨hl, .inl h⟩
 ·subst hv;exact ⟨hl, .inr ⟨g',cap,cur,rfl,h0,(k.block g' (hblk g' rfl).2 (by omega)).trans hc,r⟩⟩
theorem new2 (w:World) (x y:Value) (t:TypeId):∀ j u, [x,y][j]?=some u->(w.alloc (.cells #[x,y] t)).cell? (Addr.add ⟨w.heap.size,0,none⟩ j)=some u:=by
 intro j u hj
 rw [Addr.add_lit,Nat.zero_add,oZ,<- hj]
 match j with
 | 0=>rfl
 | 1=>rfl
 | j+2=>rfl
theorem zO (x:ByteArray) (y:Int):∀ u∈([.string x, .int .i64 y]:List Value),u.oneCell'=true:=λu hu=>by simp at hu;rcases hu with rfl | rfl <;> rfl
theorem xH (l:List (Sp.Bs×Int)) (x:Sp.Bs×Int):oQ l ++ [.string (bz x.1), .int .i64 x.2]=oQ (l ++ [x]):=by simp [oQ,M9]
theorem zP:∀ (l:List (Sp.Bs×Int)) (i d:Nat) (h:i<l.length) (_:d<2),(oQ l)[i*2+d]?=(M9 l[i])[d]?
 | [],i,d,h,_=>by simp at h
 | p::l,0,d,_,hd=>by
  simp only [oQ,List.flatMap_cons,List.getElem_cons_zero,Nat.zero_mul,Nat.zero_add]
  rw [List.getElem?_append_left (by simp [M9];omega)]
 | p::l,i+1,d,h,hd=>by
  have ih:=zP l i d (by simpa using h) hd
  simp only [oQ,List.flatMap_cons,List.getElem_cons_succ] at ih ⊢
  rw [List.getElem?_append_right (by simp [M9];omega),<- ih]
  congr 1
  simp [M9];omega
theorem nO.tb {base:Nat} {w w' : World} {va:Option Addr} {n vc:Nat} {l:List (Sp.Bs×Int)} (h:nO base w (.slice va n vc) l) (g:Gr w w') (hl:l.length<=50):nZ w'.heap.size w' ⟨[],l, []⟩ ⟨⟨#[]⟩,va,n,vc,none,0,0⟩:=by
 have hb:=aB h
 refine ⟨rfl,?_,hl,rfl, .inl ⟨rfl,rfl,rfl⟩,by simp⟩
 obtain ⟨hn,h | ⟨g',cap,cur,hv,h0,hc,r1,r2,r3,r4⟩⟩:=h
 ·left
  have:l = []:=Av h.2
  subst this
  have h1:=h.1
  injection h1 with e1 e2 e3
  exact ⟨rfl,e1,e2,e3⟩
 ·right
  injection hv with e1 e2 e3
  subst e1 e2 e3
  have hlt:=(hb g' rfl).2
  refine ⟨g',0,rfl,rfl,bY hlt g.size,bY hlt g.size,λj hj=>?_,λj hj=>?_⟩
  ·have hj' : j<l.length:=by simpa using hj
   have e:=zP l j 0 hj' (by omega)
   rw [<- r4,List.getElem?_take_of_lt (by omega)] at e
   rw [g.cell (p:=⟨g',_,none⟩) hlt]
   simp [World.cell?,hc]
   simpa [M9] using e
  ·have hj' : j<l.length:=by simpa using hj
   have e:=zP l j 1 hj' (by omega)
   rw [<- r4,List.getElem?_take_of_lt (by omega)] at e
   rw [g.cell (p:=⟨g',_,none⟩) hlt]
   simp [World.cell?,hc]
   simpa [M9] using e
theorem D5 {k:Nat} {w:World} {T:List Sp.Tb} {v:Value} (h:sF k w T v) (x:Sp.Bs) :
  ∃ (tn:ByteArray) (ca:Option Addr) (cl cc:Nat) (ra:Option Addr) (rl rc:Nat),∀ w1,Gr w w1->Calls Tryz.prog 146 #[v, .string (bz x)] w1 λe w'=>e = .returned (.tuple #[.agg #[.string tn, .slice ca cl cc, .slice ra rl rc], .bool (aG x T).isSome])/\Gr w1 w':=by
 rcases wI h x with ⟨e,F⟩ | ⟨t,⟨tn,ca,cl,cc,ra,rl,rc⟩,e,_,F⟩
 ·exact ⟨⟨#[]⟩,none,0,0,none,0,0,λw1 g=>by rw [e];exact F w1 g⟩
 ·exact ⟨tn,ca,cl,cc,ra,rl,rc,λw1 g=>by rw [e];exact F w1 g⟩
theorem B3.set1 {w:World} {b:Nat} {x y z:Value} (h:B3 w b x y z) (y' : Value):B3 (w.setCell ⟨b,1,none⟩ y') b x y' z:=by
 obtain ⟨lt,c0,c1,c2,f0,f1,f2⟩:=h
 refine ⟨by simpa [World.setCell] using lt,?_,?_,?_,?_,?_,?_⟩ <;> go_simp
theorem rQ {cb WQ L:Nat} {tv v v' : Value} {c:CS} {w w6 w7:World} {D:List (Sp.Bs×Int)} {cw:Sp.Bs} {cty:Int} (hW:w.heap.size<=WQ) (hcb:cb<w.heap.size) (hC:CB cb tv c w6) (hB:B3 w6 WQ (.string ⟨#[]⟩) v (.slice none 0 0)) (hO:nO (WQ+1) w6 v D) (hK:Kept cb w w6) (hL:D.length=L)
  (hown:w7.ownsRow (WQ+1) 264 2 v' (L+1) (oQ D ++ [.string (bz cw), .int .i64 cty])) (hgrow:(w6.alloc (.cells #[.string (bz cw), .int .i64 cty] 264)).grownBy w7 v.ownBlock) :
  w7.cell? ⟨WQ,1,none⟩=some v/\w7.frozen? ⟨WQ,1,none⟩=false/\WQ<w7.heap.size/\(∃ va vc,v' = .slice va (L+1) vc)/\CB cb tv c (w7.setCell ⟨WQ,1,none⟩ v')/\nO (WQ+1) (w7.setCell ⟨WQ,1,none⟩ v') v' (D ++ [(cw,cty)])/\B3 (w7.setCell ⟨WQ,1,none⟩ v') WQ (.string ⟨#[]⟩) v' (.slice none 0 0)/\Kept cb w (w7.setCell ⟨WQ,1,none⟩ v'):=by
 have hz:w6.heap.size<=w7.heap.size:=cE (by simp) hgrow.size
 have hbl:∀ u,u<=WQ->w7.heap[u]?=w6.heap[u]?:=λu hu=>by
  have Yh:u<w6.heap.size:=by have:=hB.lt;omega
  refine (hgrow.block u (by simp;omega) (λe=>?_)).trans (kX w6 _ u Yh)
  have:=(aB hO u e.symm).1
  omega
 have oI:=hB.same hz (hbl WQ (aF _))
 have hst:∀ u,u≠WQ->(w7.setCell ⟨WQ,1,none⟩ v').heap[u]?=w7.heap[u]?:=λu hu=>dQ _ _ _ _ hu
 have hs8:(w7.setCell ⟨WQ,1,none⟩ v').heap.size=w7.heap.size:=by simp [World.setCell]
 have Uf:nO (WQ+1) w7 v' (D ++ [(cw,cty)]):=by
  rw [show ([.string (bz cw), .int .i64 cty]:List Value) = [.string (bz (cw,cty).1), .int .i64 (cw,cty).2] from rfl,xH] at hown
  simpa [nO,hL] using hown
 have hsl:=Uf.sl
 rw [List.length_append,hL] at hsl
 refine ⟨oI.c1,oI.f1,oI.lt,hsl,hC.same (by omega) ((hst cb (by omega)).trans (hbl cb (by omega))),?_,oI.set1 _,?_⟩
 ·have hk:=aB Uf
  obtain ⟨hl,h | ⟨g',cap,cur,hv,h0,hc,r⟩⟩:=Uf
  ·exact ⟨hl, .inl h⟩
  ·refine ⟨hl, .inr ⟨g',cap,cur,hv,h0,(hst g' ?_).trans hc,r⟩⟩
   omega
 ·exact ⟨hgrow.os.trans hK.os,hgrow.tape.trans hK.tape,hgrow.output.trans hK.output,by have:=hK.size;omega,λu hu hc=>(hst u (by omega)).trans ((hbl u (by omega)).trans (hK.block u hu hc))⟩
theorem Fi:(Tryz.prog.info? 264).map (λi=>(i.zero,i.size,i.bytes))=some (some (.agg #[.string ⟨#[]⟩, .int .i64 0]),2,24):=by kernel_rfl
theorem Jm.cells {w:World} {cols:List (Nm×Int)} {g:Nat} (h:∀ j u,(cols.flatMap mM)[j]?=some u->w.cell? ⟨g,j,none⟩=some u) (j:Nat) (hj:j<cols.length):w.cell? ⟨g,j*3,none⟩=some (.string (bz cols[j].1.1))/\w.cell? ⟨g,j*3+1,none⟩=some (.int .i64 (cols[j].1.2:Nat))/\w.cell? ⟨g,j*3+2,none⟩=some (.int .i64 cols[j].2):=by
 have key:∀ (l:List (Nm×Int)) (i d:Nat) (hi:i<l.length) (_:d<3),(l.flatMap mM)[i*3+d]?=(mM l[i])[d]?:=by
  intro l
  induction l with
  | nil=>intro i d hi;simp at hi
  | cons p l ih=>
   intro i d hi hd
   cases i with
   | zero=>
    simp only [List.flatMap_cons,List.getElem_cons_zero,Nat.zero_mul,Nat.zero_add]
    rw [List.getElem?_append_left (by simp [mM];omega)]
   | succ i=>
    have:=ih i d (by simpa using hi) hd
    simp only [List.flatMap_cons,List.getElem_cons_succ]
    rw [List.getElem?_append_right (by simp [mM];omega),<- this]
    congr 1
    simp [mM];omega
 exact ⟨h _ _ (by simpa [mM] using key cols j 0 hj (by omega)),h _ _ (by simpa [mM] using key cols j 1 hj (by omega)),h _ _ (by simpa [mM] using key cols j 2 hj (by omega))⟩
theorem BK {T:List Sp.Tb} {k cb lo hi q:Nat} {tv sl:Value} {c:CS} {w:World} {nm:Nm} {cols:List (Nm×Int)} (hc:CB cb tv c w) (ht:sF k w T tv) (_hkl:k<=lo) (E4:hi<=cb) (hlq:lo<=q/\q<hi) (hA:At w q [.string (bz nm.1), .int .i64 (nm.2:Nat),sl]) (hL:Jm w cols lo hi sl) (hcl:cols.length<=50) :
  Calls Tryz.prog 135 #[.pointer (some ⟨cb,0,none⟩), .pointer (some ⟨q,0,none⟩)] w λr w'=>r = .returned (.tuple #[])/\CB cb tv { rH cols [] (match aG nm.1 T with | some _=>c.fail 4 nm.2 | none=>c) with much:=decide (8<=T.length) } w'/\Kept cb w w':=by
 obtain ⟨i0,ji,fR,jz1,fS⟩:=info_parts Fi
 have hcw:=hc.lt
 obtain ⟨g,kc,rfl,hg1,hg2,hcells⟩:=hL
 obtain ⟨nw,na⟩:=nm
 have b0:=hA.k0
 have b1:=hA.k1
 have b2:=hA.k2
 have AC:=hA.1
 have hgw:g<w.heap.size:=by omega
 obtain ⟨tn,Ss,Su,Sw,Sx,Sy,Sz,F⟩:=D5 ht nw
 have HF:=hid (λw1 (g:Gr w w1)=>(F w1 g).mono λe w' h=>(⟨h.1,h.2,g.trans h.2⟩:_/\Gr w1 w'/\Gr w w'))
 have Ob:=hid (λj hj=>Jm.cells hcells j hj)
 have HC:=hid hc
 have ZN:=hid hcl
 obtain ⟨ta,tc,rfl⟩:∃ a c,tv = .slice a T.length c:=by
  rcases ht.2.2 with ⟨rfl,rfl⟩ | ⟨b,off,c,V,rfl,_⟩
  ·exact ⟨_,_,rfl⟩
  ·exact ⟨_,_,rfl⟩
 have hTl:=ht.1
 have c0:=hc.c0
 obtain ⟨n,hn⟩:∃ n,n=cols.length:=⟨_,rfl⟩
 have HN:=hid hn
 rw [<- hn] at b2 hcl
 obtain ⟨NT,VQ⟩:∃ NT,NT=T.length:=⟨_,rfl⟩
 rw [<- VQ] at hTl c0 HC HF ⊢
 clear hc ht hA hcells F hn VQ
 obtain ⟨kq,hkq⟩:∃ z,z=decide (8<=NT):=⟨_,rfl⟩
 rw [<- hkq]
 have P4:=hid hkq
 clear hkq
 obtain ⟨c1,hc1⟩:∃ z,z=(match aG nw T with | some _=>c.fail 4 na | none=>c):=⟨_,rfl⟩
 simp only []
 rw [<- hc1]
 have qD:Hid (c1=if (aG nw T).isSome then c.fail 4 na else c):=by show _=_;rw [hc1];cases aG nw T <;> rfl
 clear hc1
 generalize (aG nw T).isSome=ok at *
 go_enter Tryz.func135,Tryz.ntmps135
 go_wp2_with fail
 go_region_held3 (λw'=>w'.cell? ⟨cb,0,none⟩=some (.slice ta NT tc)/\w'.cell? ⟨q,0,none⟩=some (.string (bz nw))) (first | go_keep | exact ⟨c0,b0⟩ | exact ⟨y0,y1⟩ | (constructor <;> go_simp)) ((go_at_call 146;refine (HF.out _ (by repeat first | exact Gr.refl _ | apply Gr.alloc | apply Gr.drew | apply Gr.drewN)).mono ?_;rintro e w2 ⟨rfl,g2,gA⟩;have y0:=(gA.cell (p:=⟨cb,0,none⟩) hcw).trans c0;have y1:=(gA.cell (p:=⟨q,0,none⟩) AC).trans b0;have hz2:=gA.size;have IN:q<w2.heap.size:=bY AC hz2;try (have hB:B3 w2 w.heap.size (.string ⟨#[]⟩) (.slice none 0 0) (.slice none 0 0):=(by have h:=((B3.new w (.string ⟨#[]⟩) (.slice none 0 0) (.slice none 0 0) 187).gr (Gr.drew (Gr.refl _))).gr g2;simpa using h);obtain ⟨z0,z1,z2,z3,z4,z5,z6⟩:=hB)))
 all_goals
  first
   | (have HG:Hid (Gr w (((w2.setCell ⟨w.heap.size,0,none⟩ (.string tn)).setCell ⟨w.heap.size,1,none⟩ (.slice Ss Su Sw)).setCell ⟨w.heap.size,2,none⟩ (.slice Sx Sy Sz))):=gA.fG (aF _) _ _ _;rename_i hHeld;clear hHeld y0 y1 g2 gA HF c0 IN hz2 z0 z1 z2 z3 z4 z5 z6;generalize ((w2.setCell ⟨w.heap.size,0,none⟩ (.string tn)).setCell ⟨w.heap.size,1,none⟩ (.slice Ss Su Sw)).setCell ⟨w.heap.size,2,none⟩ (.slice Sx Sy Sz)=w3 at *)
   | (have HG:Hid (Gr w (w2.alloc (.cells #[.string tn, .slice Ss Su Sw, .slice Sx Sy Sz] 187))):=gA.alloc _;rename_i hHeld;clear hHeld y0 y1 g2 gA HF c0 IN hz2;generalize w2.alloc (.cells #[.string tn, .slice Ss Su Sw, .slice Sx Sy Sz] 187)=w3 at *)
  have r1:=(HG.out.cell (p:=⟨q,1,none⟩) AC).trans b1
  cases ok
  case' false=>
   have MJ:Hid (c1=c):=by rw [qD.out];rfl
   have H4:Hid (CB cb (.slice ta NT tc) c1 w3):=by rw [MJ.out];exact HC.out.gr HG.out
   have K4:Hid (Kept cb w w3):=Kept.gr HG.out
   clear r1
  case' true=>
   have MJ:Hid (c1=c.fail 4 na):=by rw [qD.out];rfl
   go_wp2_with fail
   refine (cU (HC.out.gr HG.out) 4 na).mono ?_
   have Pp:=HG
   rintro e w3 ⟨rfl,h4,k4⟩
   have H4:Hid (CB cb (.slice ta NT tc) c1 w3):=by rw [MJ.out];exact h4
   have K4:Hid (Kept cb w w3):=(Kept.gr Pp.out).trans k4
   clear h4 k4 r1 HG Pp
  all_goals
   have Yi:q<w3.heap.size:=by have:=K4.out.size;omega
   have Yj:g<w3.heap.size:=by have:=K4.out.size;omega
   have r2:=(K4.out.cell (p:=⟨q,2,none⟩) AC (by show q≠cb;omega)).trans b2
   go_wp2_with fail
   go_loopw [35] (λi wr=>∃ (j:Nat) (c' : CS) (v:Value),j<=n/\i = .int .i64 (j:Nat)/\Hid (rH cols [] c1=rH (cols.drop j) (nU cols j) c')/\Hid (CB cb (.slice ta NT tc) c' wr)/\Hid (nO (w3.heap.size+1) wr v (nU cols j))/\Hid (B3 wr w3.heap.size (.string ⟨#[]⟩) v (.slice none 0 0))/\Hid (Kept cb w wr)) (λi _=>n - (intOf i).toNat)
   case atStart=>exact ⟨0,c1, .slice none 0 0,fO _,rfl,rfl,H4.out.alloc _,nO.nil _ _,B3.new w3 _ _ _ _,K4.out.alloc _⟩
   case round=>
    obtain ⟨j,c',v,hj,rfl,HP,zC,HO,HB,HK⟩:=hrel
    have hwr:=HK.out.size
    have hbr:=HB.out.lt
    by_cases hlt:j<n
    ·have hjz:j<cols.length:=by have:=HN.out;omega
     obtain ⟨x0,x1,x2⟩:=Ob.out j hjz
     have y0:=(HK.out.cell (p:=⟨g,j*3,none⟩) hgw (by show g≠cb;omega)).trans x0
     have y1:=(HK.out.cell (p:=⟨g,j*3+1,none⟩) hgw (by show g≠cb;omega)).trans x1
     have y2:=(HK.out.cell (p:=⟨g,j*3+2,none⟩) hgw (by show g≠cb;omega)).trans x2
     have NO:=hid (HP.out.trans (D0 cols c' j hjz))
     have hD:=Jv cols j
     have GX:=hid ((Gr.refl wr).alloc (.cells #[.string (bz cols[j].1.1), .int .i64 (cols[j].1.2:Nat), .int .i64 cols[j].2] 228))
     obtain ⟨va,vc,rfl⟩:=HO.out.sl
     have vF:=hid (λx=>oG (HO.out.tb GX.out (by omega)) x)
     clear x0 x1 x2 HP
     generalize hcj:cols[j]=cj at *
     obtain ⟨⟨cw,ca⟩,cty⟩:=cj
     have SA:=hid hcj
     clear hcj
     simp only [] at y0 y1 y2 NO GX vF
     obtain ⟨bl,z0,z1,z2,z3,z4,z5⟩:=HB.out
     have VS:=hid (vF.out cw)
     clear vF
     generalize cellOf cw (nU cols j)=ce at *
     generalize hLn:(nU cols j).length=L at *
     have HLn:=hid hLn
     clear hLn
     go_wp2_with fail
     refine VS.out.mono ?_
     rintro e w5 ⟨rfl,g5⟩
     have G5:=hid (GX.out.trans g5)
     have eM:=hid ((Bk.new wr #[.string (bz cw), .int .i64 (ca:Nat), .int .i64 cty] 228).below g5.below)
     have rM:=G5.out.size
     have Yk:=eM.out.k0
     have Yl:=eM.out.k1
     have Ym:=eM.out.k2
     have ZO:=eM.out.lt
     obtain ⟨ZP,z0',z1',z2',z3',Yn,z5'⟩:=HB.out.gr G5.out
     have VT:=hid (zC.out.gr G5.out)
     have CU:=hid (HO.out.gr G5.out)
     clear g5 VS y0 y1 y2 z0 z1 z2 z3 z4 z5
     by_cases hce:0<=ce
     ·have Ug:=hid (NO.out.trans (by rw [if_pos hce]))
      go_wp2_with fail
      refine (cU VT.out 4 ca).mono ?_
      rintro e w6 ⟨rfl,h6,k6⟩
      have H6:=hid h6
      have K6:=hid k6
      have Ds:=k6.size
      have CW:=hid ((HB.out.gr G5.out).wJ k6 (by have:=K4.out.size;omega))
      have VU:=hid (CU.out.kept k6 (by have:=K4.out.size;omega))
      have iY:=hid (eM.out.kept k6 (by have:=K4.out.size;omega))
      have KK:=hid ((HK.out.trans (Kept.gr G5.out)).trans k6)
      have HOL:Hid (w6.ownsRow (w3.heap.size+1) 264 2 (.slice va L vc) L (oQ (nU cols j))):=by have h:=VU.out;unfold nO at h;rw [HLn.out] at h;exact h
      have ZQ:=iY.out.k0
      have ZR:=iY.out.k2
      have ZS:=iY.out.lt
      obtain ⟨ZT,p0,p1,p2,p3,p4,p5⟩:=CW.out
      clear h6 k6 Yk Yl Ym z0' z1' z2' z3' Yn z5'
      have QG:Hid (L+1<=maxLen):=by show _<=_;unfold maxLen;omega
      have QH:Hid ((L+1)*24<=140737488355328):=by show _<=_;omega
      have QI:Hid (w3.heap.size+1<=(w6.alloc (.cells #[.string (bz cw), .int .i64 cty] 264)).heap.size):=by show _<=_;simp;omega
      go_wp2_with (at_builtin;go_must (refine wpList_append_own _ rfl (.tmp 51) (.tmp 58) 185 rfl (w3.heap.size+1) 264 i0 (.agg #[.string ⟨#[]⟩, .int .i64 0]) 2 24 Tryz.underlying185 ji fR jz1 fS rfl (by decide) _ L _ rfl (HOL.out.alloc _) ⟨_,0,none⟩ 1 1 [.string (bz cw), .int .i64 cty] rfl rfl (new2 _ _ _ _) (zO _ _) QG.out QH.out QI.out ?_))
      intro v' w7 hown hgrow _
      obtain ⟨n1,n2,n3,⟨SB,SC,rfl⟩,hnx⟩:=rQ (D:=nU cols j) (by have:=K4.out.size;omega) hcw H6.out CW.out VU.out KK.out HLn.out hown hgrow
      have Ly:=hid hnx
      clear hown hgrow hnx
      go_wp2_with fail
      go_roundw
      case rel=>exact ⟨j+1,_,_,by omega,by go_num,by rw [nN cols j hjz,SA.out];exact Ug.out,Ly.out.1,by rw [nN cols j hjz,SA.out];exact Ly.out.2.1,Ly.out.2.2.1,Ly.out.2.2.2⟩
      case measure=>simp [intOf];omega
     ·have Ug:=hid (NO.out.trans (by rw [if_neg hce]))
      have yZ:=hid (HB.out.gr G5.out)
      have KK:=hid (HK.out.trans (Kept.gr G5.out))
      have HOL:Hid (w5.ownsRow (w3.heap.size+1) 264 2 (.slice va L vc) L (oQ (nU cols j))):=by have h:=CU.out;unfold nO at h;rw [HLn.out] at h;exact h
      have QG:Hid (L+1<=maxLen):=by show _<=_;unfold maxLen;omega
      have QH:Hid ((L+1)*24<=140737488355328):=by show _<=_;omega
      have QI:Hid (w3.heap.size+1<=(w5.alloc (.cells #[.string (bz cw), .int .i64 cty] 264)).heap.size):=by show _<=_;simp;omega
      go_wp2_with (at_builtin;go_must (refine wpList_append_own _ rfl (.tmp 51) (.tmp 58) 185 rfl (w3.heap.size+1) 264 i0 (.agg #[.string ⟨#[]⟩, .int .i64 0]) 2 24 Tryz.underlying185 ji fR jz1 fS rfl (by decide) _ L _ rfl (HOL.out.alloc _) ⟨_,0,none⟩ 1 1 [.string (bz cw), .int .i64 cty] rfl rfl (new2 _ _ _ _) (zO _ _) QG.out QH.out QI.out ?_))
      intro v' w7 hown hgrow _
      obtain ⟨n1,n2,n3,⟨SB,SC,rfl⟩,hnx⟩:=rQ (D:=nU cols j) (by have:=K4.out.size;omega) hcw VT.out yZ.out CU.out KK.out HLn.out hown hgrow
      have Ly:=hid hnx
      clear hown hgrow hnx
      go_wp2_with fail
      go_roundw
      case rel=>exact ⟨j+1,_,_,by omega,by go_num,by rw [nN cols j hjz,SA.out];exact Ug.out,Ly.out.1,by rw [nN cols j hjz,SA.out];exact Ly.out.2.1,Ly.out.2.2.1,Ly.out.2.2.2⟩
      case measure=>simp [intOf];omega
    ·have VV:Hid (rH cols [] c1=c'):=by show _=_;have:=HN.out;rw [HP.out,List.drop_eq_nil_of_le (by omega)];rfl
     have Ob:=zC.out
     obtain ⟨lt,d0,d1,d2,d3,fz⟩:=zC.out
     have f3:=fz 3
     have FZ:=hid fz
     clear fz HP Ob
     by_cases h8:8<=NT
     ·obtain rfl:kq=true:=by rw [P4.out];simpa using h8
      go_wp2_with fail
      go_end0
      refine ⟨rfl,?_,HK.out.trans ((Kept.refl cb wr).setCell 3 _)⟩
      rw [VV.out]
      exact ⟨by simpa [World.setCell] using lt,by go_simp,by go_simp,by go_simp,(by go_simp;try omega),λo=>by have:=FZ.out o;go_simp⟩
     ·obtain rfl:kq=false:=by rw [P4.out];simpa using h8
      go_wp2_with fail
      go_end0
      refine ⟨rfl,?_,HK.out.trans ((Kept.refl cb wr).setCell 3 _)⟩
      rw [VV.out]
      exact ⟨by simpa [World.setCell] using lt,by go_simp,by go_simp,by go_simp,(by go_simp;try omega),λo=>by have:=FZ.out o;go_simp⟩
theorem jU (v:Option Addr) (w:World):Sem.run Tryz.prog (Instr.typeAssert (.iface 160 (.pointer v)) 90 160 true) w = .ok (.tuple #[.pointer v, .bool true]) w:=by kernel_rfl
theorem tZ (v:Option Addr) (w:World):Sem.run Tryz.prog (Instr.typeAssert (.iface 163 (.pointer v)) 90 160 true) w = .ok (.tuple #[.pointer none, .bool false]) w:=by kernel_rfl
theorem zQ (v:Option Addr) (w:World):Sem.run Tryz.prog (Instr.typeAssert (.iface 163 (.pointer v)) 90 163 true) w = .ok (.tuple #[.pointer v, .bool true]) w:=by kernel_rfl
theorem jV (v:Option Addr) (w:World):Sem.run Tryz.prog (Instr.typeAssert (.iface 169 (.pointer v)) 90 160 true) w = .ok (.tuple #[.pointer none, .bool false]) w:=by kernel_rfl
theorem mP (v:Option Addr) (w:World):Sem.run Tryz.prog (Instr.typeAssert (.iface 169 (.pointer v)) 90 163 true) w = .ok (.tuple #[.pointer none, .bool false]) w:=by kernel_rfl
theorem jW (v:Option Addr) (w:World):Sem.run Tryz.prog (Instr.typeAssert (.iface 169 (.pointer v)) 90 169 true) w = .ok (.tuple #[.pointer v, .bool true]) w:=by kernel_rfl
theorem qS (v:Option Addr) (w:World):Sem.run Tryz.prog (Instr.typeAssert (.iface 171 (.pointer v)) 90 160 true) w = .ok (.tuple #[.pointer none, .bool false]) w:=by kernel_rfl
theorem uA (v:Option Addr) (w:World):Sem.run Tryz.prog (Instr.typeAssert (.iface 171 (.pointer v)) 90 163 true) w = .ok (.tuple #[.pointer none, .bool false]) w:=by kernel_rfl
theorem qT (v:Option Addr) (w:World):Sem.run Tryz.prog (Instr.typeAssert (.iface 171 (.pointer v)) 90 169 true) w = .ok (.tuple #[.pointer none, .bool false]) w:=by kernel_rfl
theorem qU (v:Option Addr) (w:World):Sem.run Tryz.prog (Instr.typeAssert (.iface 171 (.pointer v)) 90 171 true) w = .ok (.tuple #[.pointer v, .bool true]) w:=by kernel_rfl
theorem qV (v:Option Addr) (w:World):Sem.run Tryz.prog (Instr.typeAssert (.iface 176 (.pointer v)) 90 160 true) w = .ok (.tuple #[.pointer none, .bool false]) w:=by kernel_rfl
theorem uB (v:Option Addr) (w:World):Sem.run Tryz.prog (Instr.typeAssert (.iface 176 (.pointer v)) 90 163 true) w = .ok (.tuple #[.pointer none, .bool false]) w:=by kernel_rfl
theorem qW (v:Option Addr) (w:World):Sem.run Tryz.prog (Instr.typeAssert (.iface 176 (.pointer v)) 90 169 true) w = .ok (.tuple #[.pointer none, .bool false]) w:=by kernel_rfl
theorem qX (v:Option Addr) (w:World):Sem.run Tryz.prog (Instr.typeAssert (.iface 176 (.pointer v)) 90 171 true) w = .ok (.tuple #[.pointer none, .bool false]) w:=by kernel_rfl
theorem qY (v:Option Addr) (w:World):Sem.run Tryz.prog (Instr.typeAssert (.iface 176 (.pointer v)) 90 176 true) w = .ok (.tuple #[.pointer v, .bool true]) w:=by kernel_rfl
theorem jX (v:Option Addr) (w:World):Sem.run Tryz.prog (Instr.typeAssert (.iface 278 (.pointer v)) 90 160 true) w = .ok (.tuple #[.pointer none, .bool false]) w:=by kernel_rfl
theorem mQ (v:Option Addr) (w:World):Sem.run Tryz.prog (Instr.typeAssert (.iface 278 (.pointer v)) 90 163 true) w = .ok (.tuple #[.pointer none, .bool false]) w:=by kernel_rfl
theorem jY (v:Option Addr) (w:World):Sem.run Tryz.prog (Instr.typeAssert (.iface 278 (.pointer v)) 90 169 true) w = .ok (.tuple #[.pointer none, .bool false]) w:=by kernel_rfl
theorem jZ (v:Option Addr) (w:World):Sem.run Tryz.prog (Instr.typeAssert (.iface 278 (.pointer v)) 90 171 true) w = .ok (.tuple #[.pointer none, .bool false]) w:=by kernel_rfl
theorem j5 (v:Option Addr) (w:World):Sem.run Tryz.prog (Instr.typeAssert (.iface 278 (.pointer v)) 90 176 true) w = .ok (.tuple #[.pointer none, .bool false]) w:=by kernel_rfl
theorem kV (v:Option Addr) (w:World):Sem.run Tryz.prog (Instr.typeAssert (.iface 278 (.pointer v)) 90 179 true) w = .ok (.tuple #[.iface 278 (.pointer v), .bool true]) w:=by kernel_rfl
theorem iE (v:Option Addr) (w:World):Sem.run Tryz.prog (Instr.typeAssert (.iface 280 (.pointer v)) 90 160 true) w = .ok (.tuple #[.pointer none, .bool false]) w:=by kernel_rfl
theorem j6 (v:Option Addr) (w:World):Sem.run Tryz.prog (Instr.typeAssert (.iface 280 (.pointer v)) 90 163 true) w = .ok (.tuple #[.pointer none, .bool false]) w:=by kernel_rfl
theorem iF (v:Option Addr) (w:World):Sem.run Tryz.prog (Instr.typeAssert (.iface 280 (.pointer v)) 90 169 true) w = .ok (.tuple #[.pointer none, .bool false]) w:=by kernel_rfl
theorem iG (v:Option Addr) (w:World):Sem.run Tryz.prog (Instr.typeAssert (.iface 280 (.pointer v)) 90 171 true) w = .ok (.tuple #[.pointer none, .bool false]) w:=by kernel_rfl
theorem iH (v:Option Addr) (w:World):Sem.run Tryz.prog (Instr.typeAssert (.iface 280 (.pointer v)) 90 176 true) w = .ok (.tuple #[.pointer none, .bool false]) w:=by kernel_rfl
theorem i7 (v:Option Addr) (w:World):Sem.run Tryz.prog (Instr.typeAssert (.iface 280 (.pointer v)) 90 179 true) w = .ok (.tuple #[.iface 280 (.pointer v), .bool true]) w:=by kernel_rfl
theorem GH {cb q:Nat} {w:World} {P:World->Prop} (hC:Calls Tryz.prog 135 #[.pointer (some ⟨cb,0,none⟩), .pointer (some ⟨q,0,none⟩)] w λr w'=>r = .returned (.tuple #[])/\P w') :
  Calls Tryz.prog 85 #[.pointer (some ⟨cb,0,none⟩), .iface 160 (.pointer (some ⟨q,0,none⟩))] w λr w'=>r = .returned (.tuple #[])/\P w':=by
 have HC:=hid hC
 have t0:=jU
 clear hC
 go_enter Tryz.func85,Tryz.ntmps85
 go_wp2_with fail
 refine HC.out.mono ?_
 rintro e w1 ⟨rfl,h⟩
 go_wp2_with fail
 go_end0
 exact ⟨rfl,h⟩
theorem GI {cb q:Nat} {w:World} {P:World->Prop} (hC:Calls Tryz.prog 137 #[.pointer (some ⟨cb,0,none⟩), .pointer (some ⟨q,0,none⟩)] w λr w'=>r = .returned (.tuple #[])/\P w') :
  Calls Tryz.prog 85 #[.pointer (some ⟨cb,0,none⟩), .iface 169 (.pointer (some ⟨q,0,none⟩))] w λr w'=>r = .returned (.tuple #[])/\P w':=by
 have HC:=hid hC
 have t0:=jV
 have t1:=mP
 have t2:=jW
 clear hC
 go_enter Tryz.func85,Tryz.ntmps85
 go_wp2_with fail
 refine HC.out.mono ?_
 rintro e w1 ⟨rfl,h⟩
 go_wp2_with fail
 go_end0
 exact ⟨rfl,h⟩
theorem Pq {cb q:Nat} {w:World} {P:World->Prop} (hC:Calls Tryz.prog 140 #[.pointer (some ⟨cb,0,none⟩), .pointer (some ⟨q,0,none⟩)] w λr w'=>r = .returned (.tuple #[])/\P w') :
  Calls Tryz.prog 85 #[.pointer (some ⟨cb,0,none⟩), .iface 176 (.pointer (some ⟨q,0,none⟩))] w λr w'=>r = .returned (.tuple #[])/\P w':=by
 have HC:=hid hC
 have t0:=qV
 have t1:=uB
 have t2:=qW
 have t3:=qX
 have t4:=qY
 clear hC
 go_enter Tryz.func85,Tryz.ntmps85
 go_wp2_with fail
 refine HC.out.mono ?_
 rintro e w1 ⟨rfl,h⟩
 go_wp2_with fail
 go_end0
 exact ⟨rfl,h⟩
theorem Od {cb q:Nat} {w:World} {P:World->Prop} (hC:Calls Tryz.prog 141 #[.pointer (some ⟨cb,0,none⟩), .iface 278 (.pointer (some ⟨q,0,none⟩)), .pointer none] w λr w'=>∃ v,r = .returned v/\P w') :
  Calls Tryz.prog 85 #[.pointer (some ⟨cb,0,none⟩), .iface 278 (.pointer (some ⟨q,0,none⟩))] w λr w'=>r = .returned (.tuple #[])/\P w':=by
 have HC:=hid hC
 have t0:=jX
 have t1:=mQ
 have t2:=jY
 have t3:=jZ
 have t4:=j5
 have t5:=kV
 clear hC
 go_enter Tryz.func85,Tryz.ntmps85
 go_wp2_with fail
 refine HC.out.mono ?_
 rintro e w1 ⟨v,rfl,h⟩
 go_wp2_with fail
 go_end0
 exact ⟨rfl,h⟩
theorem Lz {cb q:Nat} {w:World} {P:World->Prop} (hC:Calls Tryz.prog 141 #[.pointer (some ⟨cb,0,none⟩), .iface 280 (.pointer (some ⟨q,0,none⟩)), .pointer none] w λr w'=>∃ v,r = .returned v/\P w') :
  Calls Tryz.prog 85 #[.pointer (some ⟨cb,0,none⟩), .iface 280 (.pointer (some ⟨q,0,none⟩))] w λr w'=>r = .returned (.tuple #[])/\P w':=by
 have HC:=hid hC
 have t0:=iE
 have t1:=j6
 have t2:=iF
 have t3:=iG
 have t4:=iH
 have t5:=i7
 clear hC
 go_enter Tryz.func85,Tryz.ntmps85
 go_wp2_with fail
 refine HC.out.mono ?_
 rintro e w1 ⟨v,rfl,h⟩
 go_wp2_with fail
 go_end0
 exact ⟨rfl,h⟩
theorem LC {T:List Sp.Tb} {cb q k:Nat} {tv:Value} {c:CS} {w:World} {nm:Nm} (hc:CB cb tv c w) (ht:sF k w T tv) (hA:At w q [.string (bz nm.1), .int .i64 (nm.2:Nat)]) :
  Calls Tryz.prog 85 #[.pointer (some ⟨cb,0,none⟩), .iface 163 (.pointer (some ⟨q,0,none⟩))] w λr w'=>r = .returned (.tuple #[])/\CB cb tv (aR T nm c).2 w'/\Kept cb w w':=by
 have HC:=hid (kF hc ht nm)
 have b0:=hA.k0
 have b1:=hA.k1
 have AC:=hA.1
 obtain ⟨nw,na⟩:=nm
 have t0:=tZ
 have t1:=zQ
 clear hc ht hA
 go_enter Tryz.func85,Tryz.ntmps85
 go_wp2_with fail
 refine HC.out.mono ?_
 rintro e w1 ⟨tt,rfl,ht1,h1,k1⟩
 have H1:=hid h1
 have K1:=hid k1
 obtain ⟨tn,mD,mF,mG,mE,mH,mI⟩:=tt
 rw [show sE ⟨tn,mD,mF,mG,mE,mH,mI⟩ = .agg #[.string tn, .slice mD mF mG, .slice mE mH mI] from rfl]
 clear ht1 h1 k1 HC
 go_wp2_with fail
 go_end0
 exact ⟨rfl,H1.out,K1.out⟩
theorem GJ {T:List Sp.Tb} {cb q k lo:Nat} {tv pv:Value} {c:CS} {w:World} {nm:Nm} {wh:Nd} (hW:wh = .none\/∃ a e,wh = .clause a e/\Bi T e/\1+e.dep<=100000) (hc:CB cb tv c w) (ht:sF k w T tv) (hkl:k<=lo) (hlq:lo<=q) (hqc:q<cb) (hA:At w q [.string (bz nm.1), .int .i64 (nm.2:Nat),pv]) (hpt:FW pv) (hR:Rp w wh lo q pv) :
  Calls Tryz.prog 85 #[.pointer (some ⟨cb,0,none⟩), .iface 171 (.pointer (some ⟨q,0,none⟩))] w λr w'=>r = .returned (.tuple #[])/\CB cb tv (Sp.cond T wh [[((aR T nm c).1.name,(aR T nm c).1)]] (aR T nm c).2).1 w'/\Rp w' (Sp.cond T wh [[((aR T nm c).1.name,(aR T nm c).1)]] (aR T nm c).2).2 lo q pv/\Fc cb lo q w w':=by
 have hcw:=hc.lt
 have hkw:=ht.2.1
 have GX:=hid ((Gr.refl w).drew)
 have HC:=hid (kF (hc.gr GX.out) (ht.low (Low.dZ GX.out)) nm)
 have b0:=hA.k0
 have b1:=hA.k1
 have b2:=hA.k2
 have AC:=hA.1
 have Yo:Hid (cH pv):=hpt.bC
 obtain ⟨pa,rfl⟩:=hpt
 obtain ⟨nw,na⟩:=nm
 have HT:=hid ht
 have HR:=hid hR
 have HW:=hid hW
 have fC:=hid hkw
 simp only [] at b0 b1
 generalize aR T (nw,na) c=TC at *
 obtain ⟨t,c0⟩:=TC
 simp only [] at HC ⊢
 have t0:=qS
 have t1:=uA
 have t2:=qT
 have t3:=qU
 have hqq:q≠cb/\¬ (lo<=q/\q<q):=by omega
 clear hc ht hA hR hW hkw
 go_enter Tryz.func85,Tryz.ntmps85
 go_wp2_with fail
 go_region_held3 (λw'=>w'.cell? ⟨q,0,none⟩=some (.string (bz nw))/\w'.cell? ⟨q,1,none⟩=some (.int .i64 (na:Nat))/\w'.cell? ⟨q,2,none⟩=some (.pointer pa)) (first | go_keep | exact ⟨b0,b1,b2⟩ | exact ⟨d0,d1,d2⟩ | exact ⟨e0,e1,e2⟩ | exact ⟨s0,s1,s2⟩) (first | (go_at_call 136;refine HC.out.mono ?_;rintro er w1 ⟨tt,rfl,ht1,h1,k1⟩;obtain ⟨tn,mD,mF,mG,mE,mH,mI⟩:=tt;have hz1:w.heap.size<=w1.heap.size:=k1.size;have hq1:q<w1.heap.size:=bY AC hz1;have d0:=(k1.cell (p:=⟨q,0,none⟩) AC hqq.1).trans b0;have d1:=(k1.cell (p:=⟨q,1,none⟩) AC hqq.1).trans b1;have d2:=(k1.cell (p:=⟨q,2,none⟩) AC hqq.1).trans b2) | (go_at_call 139;refine (Dm k (cb+1) t ⟨tn,mD,mF,mG,mE,mH,mI⟩ w1 (cE fC.out hz1) (by omega) ht1).mono ?_;rintro er w2 ⟨iv,rfl,s2',g2⟩;obtain ⟨ia,rfl⟩:=s2'.ptr;have hz2:w1.heap.size<=w2.heap.size:=g2.size;have hq2:q<w2.heap.size:=bY hq1 hz2;have e0:=(g2.cell (p:=⟨q,0,none⟩) hq1).trans d0;have e1:=(g2.cell (p:=⟨q,1,none⟩) hq1).trans d1;have e2:=(g2.cell (p:=⟨q,2,none⟩) hq1).trans d2) | (go_at_call 138;refine (Ja (m:=cb+1) (k:=k) (T:=T) (aE := [[(t.name,t)]]) (lo:=lo) (hi:=q) HW.out ⟨h1.gr g2,(HT.out.low (Low.dZ GX.out)).low (Low.kE (k1.trans (Kept.gr g2)) (by omega)),s2',hkl,by omega,by omega,by omega⟩ (HR.out.frame (cE hz1 hz2) _ _ _ _ (λu u1 u2=>(g2.below.block u (by omega)).trans (k1.block u (show u<w.heap.size by omega) (by omega))) (λ_ _ _ _ e=>absurd e (Yo.out _ _ _)))).mono ?_;rintro er w3 ⟨rfl,h3,r3,f3⟩;have s0:=(f3.cell (p:=⟨q,0,none⟩) hq2 hqq.1 hqq.2).trans e0;have s1:=(f3.cell (p:=⟨q,1,none⟩) hq2 hqq.1 hqq.2).trans e1;have s2:=(f3.cell (p:=⟨q,2,none⟩) hq2 hqq.1 hqq.2).trans e2))
 have F3:Hid (Fc cb lo q w w3):=(((Fc.gr GX.out).trans (Fc.of k1)).trans (Fc.gr g2)).trans f3
 have H3:=hid h3
 have R3:=hid r3
 go_end0
 exact ⟨rfl,H3.out,R3.out,F3.out⟩
end Go.Proofs.YtgnncnhkgmhngaaGreatDoor
