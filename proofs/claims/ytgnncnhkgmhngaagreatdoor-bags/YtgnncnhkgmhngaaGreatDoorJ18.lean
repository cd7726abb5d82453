import Derived.Test.YtgnncnhkgmhngaaGreatDoorJ17
import Derived.Deep.RegionLaw
set_option maxHeartbeats 4000000
set_option maxRecDepth 100000
namespace Go.Proofs.YtgnncnhkgmhngaaGreatDoor
open Sp
open Go.RowKit Go.Sort
abbrev P3:=Sp.Bs×Sp.Tb×TV
def NM (p:P3):List Value := [.string (bz p.1), .string p.2.2.name,p.2.2.cv,p.2.2.rv]
def E2 (ps:List P3):List Value:=ps.flatMap NM
def vL (ps:List P3):Sp.Lv:=ps.map λp=>(p.1,p.2.1)
theorem I3 (ps:List P3) (p:P3):E2 (ps ++ [p])=E2 ps++NM p:=by simp [E2]
theorem I4:∀ (ps:List P3) (i d:Nat) (h:i<ps.length) (_hd:d<4),(E2 ps)[i*4+d]?=(NM ps[i])[d]?
 | [],i,d,h,_=>by simp at h
 | p::ps,0,d,_,hd=>by
  simp only [E2,List.flatMap_cons,List.getElem_cons_zero,Nat.zero_mul,Nat.zero_add]
  rw [List.getElem?_append_left (by simp [NM];omega)]
 | p::ps,i+1,d,h,hd=>by
  have ih:=I4 ps i d (by simpa using h) hd
  simp only [E2,List.flatMap_cons,List.getElem_cons_succ] at ih ⊢
  rw [List.getElem?_append_right (by simp [NM];omega),<- ih]
  congr 1
  simp [NM];omega
theorem Bh (ps:List P3) (p:P3):vL (ps ++ [p])=vL ps ++ [(p.1,p.2.1)]:=by simp [vL]
def vM (base k:Nat) (w:World) (v:Value) (ps:List P3):Prop:=w.ownsRow base 314 4 v ps.length (E2 ps)/\∀ p∈ps,nZ k w p.2.1 p.2.2
theorem vM.Vs {base k m:Nat} {w:World} {v:Value} {ps:List P3} (h:vM base k w v ps) (hb:m<=base) (hl:ps.length<=1100):Dk k m w (vL ps) v:=by
 refine ⟨by simpa [vL] using hl,?_⟩
 obtain ⟨h1,h2⟩:=h
 have hlt:=aB h1
 obtain ⟨hn,h | ⟨g,cap,cur,hv,h0,hb',r1,r2,r3,r4⟩⟩:=h1
 ·left
  have:ps = []:=Av h.2
  subst this
  exact ⟨rfl,h.1⟩
 ·right
  refine ⟨g,cap,by rw [hv];simp [vL],by omega,(hlt g (by rw [hv];rfl)).2,λi hi=>?_⟩
  have hi' : i<ps.length:=by simpa [vL] using hi
  have hc:∀ d v,d<4->(NM ps[i])[d]?=some v->w.cell? ⟨g,i*4+d,none⟩=some v:=λd v hd e=>by
   rw [<- I4 ps i d hi' hd,<- r4,List.getElem?_take_of_lt (by omega)] at e
   simp [World.cell?,hb']
   simpa using e
  have e1:(vL ps)[i]=(ps[i].1,ps[i].2.1):=by simp [vL]
  rw [e1]
  exact ⟨ps[i].2.2,hc 0 _ (by omega) rfl,hc 1 _ (by omega) rfl,hc 2 _ (by omega) rfl,hc 3 _ (by omega) rfl,h2 _ (jD hi')⟩
theorem vM.same {base k:Nat} {w w' : World} {v:Value} {ps:List P3} (h:vM base k w v ps) (hk:k<=w.heap.size) (g:Low k w w') (hb:∀ b,v.ownBlock=some b->w'.heap[b]?=w.heap[b]?):vM base k w' v ps:=by
 refine ⟨?_,λp hp=>(h.2 p hp).low hk g⟩
 obtain ⟨hl,h | ⟨g',cap,cur,hv,h0,hb',r⟩⟩:=h.1
 ·exact ⟨hl, .inl h⟩
 ·subst hv;exact ⟨hl, .inr ⟨g',cap,cur,rfl,h0,(hb g' rfl).trans hb',r⟩⟩
theorem vM.below {base k:Nat} {w w' : World} {v:Value} {ps:List P3} (h:vM base k w v ps) (hk:k<=w.heap.size) (g:Below w.heap.size w w'):vM base k w' v ps:=
 h.same hk (Ou.low (m:=0) (Ou.below g)) λb e=>g.block b (aB h.1 b e).2
theorem vM.kept {base k cb:Nat} {w w' : World} {v:Value} {ps:List P3} (h:vM base k w v ps) (hk:k<=w.heap.size) (g:Kept cb w w') (h1:k<=cb) (h2:cb<base):vM base k w' v ps:=
 h.same hk (Low.kE g h1) λb e=>g.block b (aB h.1 b e).2 (by have:=(aB h.1 b e).1;omega)
theorem vM.sl {base k:Nat} {w:World} {v:Value} {ps:List P3} (h:vM base k w v ps):∃ a c,v = .slice a ps.length c:=by
 obtain ⟨hl,h | ⟨g',cap,cur,hv,_⟩⟩:=h.1
 ·exact ⟨none,0,by rw [h.1,h.2]⟩
 ·exact ⟨_,_,hv⟩
theorem DB (T:List Sp.Tb) (t k:Nm) (r:List (Nm×Nm)) (lv:Sp.Lv) (c:CS) :
  bI T ((t,k)::r) lv c=bI T r (lv ++ [(k.1,(aR T t c).1)]) (if lv.any (λx=>x.1 == k.1) then (aR T t c).2.fail 4 k.2 else (aR T t c).2):=by
 rw [bI]
 simp only [aR]
 cases aG t.1 T <;> rfl
theorem fX.at_ {w:World} {blk:Nat} : ∀ (l:List (Nm×Nm)) (off i:Nat) (h:i<l.length),fX w blk off l->w.cell? ⟨blk,off+i*4,none⟩=some (.string (bz l[i].1.1))/\w.cell? ⟨blk,off+i*4+1,none⟩=some (.int .i64 (l[i].1.2:Nat))/\w.cell? ⟨blk,off+i*4+2,none⟩=some (.string (bz l[i].2.1))/\w.cell? ⟨blk,off+i*4+3,none⟩=some (.int .i64 (l[i].2.2:Nat))
 | [],_,i,h,_=>by simp at h
 | ((tw,ta),(cw,ca))::r,off,0,_,hs=>by obtain ⟨h1,h2,h3,h4,_⟩:=hs;simpa using ⟨h1,h2,h3,h4⟩
 | ((tw,ta),(cw,ca))::r,off,i+1,h,hs=>by
  obtain ⟨_,_,_,_,h5⟩:=hs
  have:=fX.at_ r (off+4) i (by simpa using h) h5
  rw [show off+(i+1)*4=off+4+i*4 by omega]
  simpa using this
theorem NN:(Tryz.prog.info? 314).map (λi=>(i.zero,i.size,i.bytes))=some (some (.agg #[.string ⟨#[]⟩, .string ⟨#[]⟩, .slice none 0 0, .slice none 0 0]),4,80):=by kernel_rfl
def Tx (w:World) (src:List (Nm×Nm)) (v:Value):Prop:=(src = []/\v = .slice none 0 0)\/∃ blk c,v = .slice (some ⟨blk,0,none⟩) src.length c/\blk<w.heap.size/\fX w blk 0 src
theorem Bk.set0 {w:World} {q:Nat} {x y:Value} (h:Bk w q [x,y]) (x' : Value):Bk (w.setCell ⟨q,0,none⟩ x') q [x',y]:=by
 have c0:=h.k0
 have c1:=h.k1
 have lt:=h.lt
 have F:Hid (∀ j,w.frozen? ⟨q,j,none⟩=false):=h.f
 refine ⟨by simpa [World.setCell] using lt,λj hj=>?_,λj=>by have:=F.out j;go_simp⟩
 match j,hj with
 | 0,_=>simp only [List.getElem_cons_zero];go_simp
 | 1,_=>simp only [List.getElem_cons_succ,List.getElem_cons_zero];go_simp
theorem wW {cb k b0 L g' gE vc:Nat} {va:Option Addr} {tv iv:Value} {c:CS} {w w4 w5:World} {ps:List P3} {cw:Sp.Bs} {t:Sp.Tb} {tn:ByteArray} {mD mE:Option Addr} {mF mG mH mI:Nat} (hb0:b0=w.heap.size) (hL:L=ps.length) (HO:vM (b0+1) k w4 (.slice va L vc) ps) (HB:Bk w4 b0 [.slice va L vc,iv]) (HC:CB cb tv c w4) (HT:nZ k w4 t ⟨tn,mD,mF,mG,mE,mH,mI⟩) (HK:Kept cb w w4)
  (hk:k<=w.heap.size) (hcb:cb<w.heap.size)
  (hown:w5.ownsRow (b0+1) 314 4 (.slice (some ⟨g',0,none⟩) (L+1) gE) (L+1) (E2 ps ++ [.string (bz cw), .string tn, .slice mD mF mG, .slice mE mH mI]))
  (hgrow:(w4.drew.alloc (.cells #[.string (bz cw), .string tn, .slice mD mF mG, .slice mE mH mI] 314)).grownBy w5 (Value.slice va L vc).ownBlock) :
  CB cb tv c (w5.setCell ⟨b0,0,none⟩ (.slice (some ⟨g',0,none⟩) (L+1) gE))/\Bk (w5.setCell ⟨b0,0,none⟩ (.slice (some ⟨g',0,none⟩) (L+1) gE)) b0 [.slice (some ⟨g',0,none⟩) (L+1) gE,iv]/\vM (b0+1) k (w5.setCell ⟨b0,0,none⟩ (.slice (some ⟨g',0,none⟩) (L+1) gE)) (.slice (some ⟨g',0,none⟩) (L+1) gE) (ps ++ [(cw,t,⟨tn,mD,mF,mG,mE,mH,mI⟩)])/\Kept cb w (w5.setCell ⟨b0,0,none⟩ (.slice (some ⟨g',0,none⟩) (L+1) gE)):=by
 subst hb0
 have hz:w4.heap.size<=w5.heap.size:=cE (by simp) hgrow.size
 have hbl:∀ q,q<=w.heap.size->w5.heap[q]?=w4.heap[q]?:=λq hq=>by
  have hq4:q<w4.heap.size:=by have:=HB.lt;omega
  refine (hgrow.block q (by simp;omega) (λe=>?_)).trans (kX w4.drew _ q hq4)
  have:=(aB HO.1 q e.symm).1
  omega
 have hst:∀ q,q≠w.heap.size->(w5.setCell ⟨w.heap.size,0,none⟩ (.slice (some ⟨g',0,none⟩) (L+1) gE)).heap[q]?=w5.heap[q]?:=λq hq=>dQ _ _ _ _ hq
 have hs6:(w5.setCell ⟨w.heap.size,0,none⟩ (.slice (some ⟨g',0,none⟩) (L+1) gE)).heap.size=w5.heap.size:=by simp [World.setCell]
 have hlow:Low k w4 (w5.setCell ⟨w.heap.size,0,none⟩ (.slice (some ⟨g',0,none⟩) (L+1) gE)):=⟨by omega,λq hq _=>(hst q (by omega)).trans (hbl q (by omega))⟩
 have hk4:k<=w4.heap.size:=cE hk HK.size
 have hg':=aB hown g' rfl
 refine ⟨HC.same (by omega) ((hst cb (by omega)).trans (hbl cb (by omega))),(HB.same hz (hbl _ (aF _))).set0 _,⟨?_,λp hp=>?_⟩,?_⟩
 ·rw [I3,List.length_append,List.length_singleton,<- hL]
  exact aV hown (hst g' (by omega))
 ·rw [List.mem_append,List.mem_singleton] at hp
  rcases hp with hp | rfl
  ·exact (HO.2 p hp).low hk4 hlow
  ·exact HT.low hk4 hlow
 ·exact ⟨hgrow.os.trans HK.os,hgrow.tape.trans HK.tape,hgrow.output.trans HK.output,by have:=HK.size;omega,λq hq hc=>(hst q (by omega)).trans ((hbl q (by omega)).trans (HK.block q hq hc))⟩
theorem I5 {cb k m:Nat} {tv:Value} {c:CS} {T:List Sp.Tb} {w:World} {src:List (Nm×Nm)} {fv iv:Value} {aE:List Sp.Lv} (h:CB cb tv c w) (ht:sF k w T tv) (hs:wN k m w aE iv) (hsrc:Tx w src fv) (hfb:yQ 0 cb fv) (hsl:src.length<=1100) (hkc:k<=cb) (hcm:cb<m) (hm:m<=w.heap.size) :
  Calls Tryz.prog 227 #[.pointer (some ⟨cb,0,none⟩),fv,iv] w λe w'=>∃ v,e = .returned v/\wN k m w' ((bI T src [] c).1::aE) v/\CB cb tv ((bI T src [] c).2.note ((bI T src [] c).1::aE)) w'/\Kept cb w w':=by
 obtain ⟨i0,ji,fR,jz1,fS⟩:=info_parts NN
 have HH:=hid h
 have HT:=hid ht
 have HS:=hid hs
 have HF:=hid hsrc
 obtain ⟨ia,rfl⟩:=hs.ptr
 have fC : Hid (k<=w.heap.size):=ht.2.1
 have hcw:=h.lt
 obtain ⟨fa,fc,rfl⟩:∃ a c,fv = .slice a src.length c:=by
  rcases hsrc with ⟨rfl,rfl⟩ | ⟨_,_,e,_⟩
  ·exact ⟨_,_,rfl⟩
  ·exact ⟨_,_,e⟩
 have Xt:=hid hfb
 obtain ⟨N,hN⟩:∃ N,N=src.length:=⟨_,rfl⟩
 have HN:=hid hN
 rw [<- hN] at hsl ⊢
 clear h ht hs hsrc hfb hN
 go_enter Tryz.func227,Tryz.ntmps227
 go_wp2_with fail
 go_loopw [16] (λi wr=>∃ (j:Nat) (ps:List P3) (c' : CS) (v:Value),j<=N/\i = .int .i64 (j:Nat)/\Hid (ps.length=j)/\Hid (bI T src [] c=bI T (src.drop j) (vL ps) c')/\Hid (CB cb tv c' wr)/\Hid (Bk wr w.heap.size [v, .pointer ia])/\Hid (vM (w.heap.size+1) k wr v ps)/\Hid (Kept cb w wr)) (λi _=>N - (intOf i).toNat)
 case atStart=>exact ⟨0, [],c, .slice none 0 0,fO _,rfl,rfl,rfl,HH.out.alloc _,Bk.new w #[.slice none 0 0, .pointer ia] _,⟨World.ownsRow_nil _ _ _ _,λp hp=>by simp at hp⟩,(Kept.refl cb w).alloc _⟩
 case round=>
  obtain ⟨j,ps,c',v,hj,rfl,MG,HP,HC,HB,HO,HK⟩:=hrel
  have hkr:Hid (k<=wr.heap.size):=cE fC.out HK.out.size
  have hcr:=HC.out.lt
  have hsr:=HB.out.lt
  by_cases hlt:j<N
  ·have hjz:j<src.length:=by have:=HN.out;omega
   obtain ⟨fb,rfl,hfl,hfs⟩:∃ fb,fa=some ⟨fb,0,none⟩/\fb<w.heap.size/\fX w fb 0 src:=by
    rcases HF.out with ⟨e,_⟩ | ⟨fb,fo,e,h1,h2⟩
    ·rw [e] at hjz;simp at hjz
    ·injection e with e;exact ⟨fb,e,h1,h2⟩
   have hfc:fb<cb:=(Xt.out fb 0 _ _ rfl).2
   obtain ⟨d0,d1,d2,d3⟩:=hfs.at_ src 0 j hjz
   rw [Nat.zero_add] at d0 d1 d2 d3
   have e0:=(HK.out.cell (p:=⟨fb,_,none⟩) hfl (by show fb≠cb;omega)).trans d0
   have e1:=(HK.out.cell (p:=⟨fb,_,none⟩) hfl (by show fb≠cb;omega)).trans d1
   have e2:=(HK.out.cell (p:=⟨fb,_,none⟩) hfl (by show fb≠cb;omega)).trans d2
   have e3:=(HK.out.cell (p:=⟨fb,_,none⟩) hfl (by show fb≠cb;omega)).trans d3
   clear d0 d1 d2 d3 hfs
   have NO:Hid (bI T src [] c=bI T (src.drop (j+1)) (vL ps ++ [(src[j].2.1,(aR T src[j].1 c').1)]) (if (vL ps).any (λx=>x.1 == src[j].2.1) then (aR T src[j].1 c').2.fail 4 src[j].2.2 else (aR T src[j].1 c').2)):=by
    show _=_
    rw [HP.out,nS hjz]
    exact DB T src[j].1 src[j].2 _ _ _
   obtain ⟨⟨⟨tw,ta⟩,⟨cw,ca⟩⟩,hsj⟩:∃ x,x=src[j]:=⟨_,rfl⟩
   rw [<- hsj] at e0 e1 e2 e3 NO
   clear hsj HP
   simp only [] at e0 e1 e2 e3
   have HT1:Hid (sF k (wr.alloc (.cells #[.string (bz tw), .int .i64 (ta:Nat), .string (bz cw), .int .i64 (ca:Nat)] 337)) T tv):=(HT.out.low (Low.kE HK.out hkc)).low (Low.dZ ((Gr.refl _).alloc _))
   go_wp2_with fail
   refine (kF (HC.out.alloc _) HT1.out (tw,ta)).mono ?_
   rintro e w2 ⟨Xu,rfl,hT2,hC2,hK2⟩
   have aY:Hid (Kept cb wr w2):=((Kept.refl cb wr).alloc _).trans hK2
   have HX:Hid (Bk w2 wr.heap.size [.string (bz tw), .int .i64 (ta:Nat), .string (bz cw), .int .i64 (ca:Nat)]):=(Bk.new wr #[.string (bz tw), .int .i64 (ta:Nat), .string (bz cw), .int .i64 (ca:Nat)] 337).kept hK2 (by omega)
   have HC2:=hid hC2
   have HT2:=hid hT2
   have HB2:Hid (Bk w2 w.heap.size [v, .pointer ia]):=HB.out.kept aY.out (by omega)
   have fN:Hid (vM (w.heap.size+1) k w2 v ps):=HO.out.kept hkr.out aY.out hkc (by omega)
   have hz2:=aY.out.size
   obtain ⟨tn,mD,mF,mG,mE,mH,mI⟩:=Xu
   have x0:=HX.out.k0
   have x1:=HX.out.k1
   have x2:=HX.out.k2
   have x3:=HX.out.k3
   have xl:=HX.out.lt
   clear hT2 hC2 hK2 e0 e1 e2 e3 HT1 HB HO HC
   go_wp2_with fail
   have G3:Hid (Gr w2 (w2.alloc (.cells #[.string tn, .slice mD mF mG, .slice mE mH mI] 187))):=(Gr.refl w2).alloc _
   have hk2:Hid (k<=w2.heap.size):=cE hkr.out hz2
   refine (IK k m w.heap.size (vL ps) v (bz cw) _ (cE hk2.out G3.out.size) (bY HB2.out.lt G3.out.size) ((G3.out.cell (p:=⟨w.heap.size,0,none⟩) HB2.out.lt).trans (HB2.out.c 0 (by simp))) ((fN.out.below hk2.out G3.out.below).Vs (by omega) (by have:=MG.out;omega))).mono ?_
   rintro e w3 ⟨rfl,g3⟩
   rw [dJ]
   have G4:Hid (Gr w2 w3):=G3.out.trans g3
   have HY:Hid (B3 w3 w2.heap.size (.string tn) (.slice mD mF mG) (.slice mE mH mI)):=(B3.new w2 _ _ _ _).gr g3
   have hz3:=G4.out.size
   have y2:=(G4.out.cell (p:=⟨wr.heap.size,2,none⟩) xl).trans x2
   have y3:=(G4.out.cell (p:=⟨wr.heap.size,3,none⟩) xl).trans x3
   clear g3 x0 x1 x2 x3 G3
   cases hany:(vL ps).any (λx=>x.1 == cw)
   ·have HE:Hid ((if (vL ps).any (λx=>x.1 == cw) then (aR T (tw,ta) c').2.fail 4 ca else (aR T (tw,ta) c').2)=(aR T (tw,ta) c').2):=by show _=_;rw [hany];rfl
    have Pb:Hid (CB cb tv (aR T (tw,ta) c').2 w3):=HC2.out.gr G4.out
    have HB4:Hid (Bk w3 w.heap.size [v, .pointer ia]):=HB2.out.below G4.out.below
    have vJ:Hid (vM (w.heap.size+1) k w3 v ps):=fN.out.below hk2.out G4.out.below
    have HT4:Hid (nZ k w3 (aR T (tw,ta) c').1 ⟨tn,mD,mF,mG,mE,mH,mI⟩):=HT2.out.low hk2.out (Low.dZ G4.out)
    have Pc:=HY
    have eC:Hid (Kept cb w w3):=(HK.out.trans aY.out).trans (Kept.gr G4.out)
    have y8:w3.heap.size<=w3.heap.size:=aF _
    clear HC2 HB2 fN HT2
    go_wp2_with fail
    clear y3
    obtain ⟨va,vc,hv⟩:=vJ.out.sl
    obtain ⟨L,hL⟩:∃ L,L=ps.length:=⟨_,rfl⟩
    rw [<- hL] at hv
    subst hv
    have HLj:Hid (L=j):=by have:=MG.out;show _=_;omega
    have hLb:L<=1100:=by have:=HLj.out;omega
    have s0:=HB4.out.k0
    have f0:=HB4.out.f 0
    have sl:=HB4.out.lt
    obtain ⟨zl,z0,z1,z2,z3,z4,z5⟩:=Pc.out
    have hO4:w3.ownsRow (w.heap.size+1) 314 4 (.slice va L vc) L (E2 ps):=by have h:=vJ.out.1;rw [<- hL] at h;exact h
    have qC:(w3.drew.alloc (.cells #[.string (bz cw), .string tn, .slice mD mF mG, .slice mE mH mI] 314)).ownsRow (w.heap.size+1) 314 4 (.slice va L vc) L (E2 ps):=aH hO4 (((Below.refl _ w3).drew).alloc (aF _) _)
    have MH:Hid (∀ b,(Value.slice va L vc).ownBlock=some b->w.heap.size+1<=b):=λb e=>(aB hO4 b e).1
    clear hL
    go_region_law (refine step_append_lies _ (by rfl) _ _ _ (by rfl) (w.heap.size+1) 314 i0 (.agg #[.string ⟨#[]⟩, .string ⟨#[]⟩, .slice none 0 0, .slice none 0 0]) 4 80 Tryz.underlying315 ji fR jz1 fS rfl (by omega) (.slice va L vc) L (E2 ps) (by rfl) qC ⟨w3.heap.size,0,none⟩ 1 1 [.string (bz cw), .string tn, .slice mD mF mG, .slice mE mH mI] (by rfl) (by rfl) (World.news_of_block (cs:=#[.string (bz cw), .string tn, .slice mD mF mG, .slice mE mH mI]) (t:=314) (fr:=(0,0)) (heap_alloc_new w3.drew _)) (by intro u hu;simp at hu;rcases hu with rfl | rfl | rfl | rfl <;> rfl) (by omega) (by unfold maxLen;omega) (by omega) (by simp;omega) (w3.heap.size+1) (by simp) ?_;intro g' gE w5 hown hgrow hat hlt';have s1:=(fB (w:=w3.drew.alloc (.cells #[.string (bz cw), .string tn, .slice mD mF mG, .slice mE mH mI] 314)) (a:=⟨w.heap.size,0,none⟩) (hgrow.block w.heap.size (by simp;omega) (λee=>by have:=MH.out _ ee.symm;omega))).trans (((Gr.refl w3).drew.alloc _ |>.cell (p:=⟨w.heap.size,0,none⟩) sl).trans s0);have f1:=(wF (w:=w3.drew.alloc (.cells #[.string (bz cw), .string tn, .slice mD mF mG, .slice mE mH mI] 314)) (a:=⟨w.heap.size,0,none⟩) (hgrow.block w.heap.size (by simp;omega) (λee=>by have:=MH.out _ ee.symm;omega))).trans (((Gr.refl w3).drew.alloc _ |>.frozen (p:=⟨w.heap.size,0,none⟩) sl).trans f0))
    all_goals
     have eM:Hid (CB cb tv (aR T (tw,ta) c').2 (w5.setCell ⟨w.heap.size,0,none⟩ (.slice (some ⟨g',0,none⟩) (L+1) gE))/\Bk (w5.setCell ⟨w.heap.size,0,none⟩ (.slice (some ⟨g',0,none⟩) (L+1) gE)) w.heap.size [.slice (some ⟨g',0,none⟩) (L+1) gE, .pointer ia]/\vM (w.heap.size+1) k (w5.setCell ⟨w.heap.size,0,none⟩ (.slice (some ⟨g',0,none⟩) (L+1) gE)) (.slice (some ⟨g',0,none⟩) (L+1) gE) (ps ++ [(cw,(aR T (tw,ta) c').1,⟨tn,mD,mF,mG,mE,mH,mI⟩)])/\Kept cb w (w5.setCell ⟨w.heap.size,0,none⟩ (.slice (some ⟨g',0,none⟩) (L+1) gE))):=wW rfl (HLj.out.trans MG.out.symm) vJ.out HB4.out Pb.out HT4.out eC.out fC.out hcw hown hgrow
     clear hown hgrow s0 f0 s1 f1 z0 z1 z2 z3 z4 z5 hO4 qC hat
     go_wp2_with fail
     go_roundw
     case rel=>exact ⟨j+1,_,_,_,by omega,by go_num,by show _=_;rw [List.length_append,MG.out];rfl,by show _=_;rw [NO.out,Bh,HE.out],eM.out.1,eM.out.2.1,eM.out.2.2.1,eM.out.2.2.2⟩
     case measure=>simp [intOf];omega
   ·have HE:Hid ((if (vL ps).any (λx=>x.1 == cw) then (aR T (tw,ta) c').2.fail 4 ca else (aR T (tw,ta) c').2)=(aR T (tw,ta) c').2.fail 4 ca):=by show _=_;rw [hany];rfl
    go_wp2_with fail
    refine (cU (HC2.out.gr G4.out) 4 ca).mono ?_
    rintro e w4 ⟨rfl,h4,k4⟩
    have Pb:=hid h4
    have HB4:Hid (Bk w4 w.heap.size [v, .pointer ia]):=(HB2.out.below G4.out.below).kept k4 (by omega)
    have vJ:Hid (vM (w.heap.size+1) k w4 v ps):=(fN.out.below hk2.out G4.out.below).kept (cE hk2.out hz3) k4 hkc (by omega)
    have HT4:Hid (nZ k w4 (aR T (tw,ta) c').1 ⟨tn,mD,mF,mG,mE,mH,mI⟩):=(HT2.out.low hk2.out (Low.dZ G4.out)).low (cE hk2.out hz3) (Low.kE k4 hkc)
    have Pc:Hid (B3 w4 w2.heap.size (.string tn) (.slice mD mF mG) (.slice mE mH mI)):=HY.out.wJ k4 (by omega)
    have eC:Hid (Kept cb w w4):=((HK.out.trans aY.out).trans (Kept.gr G4.out)).trans k4
    have y8:=k4.size
    have y2':=(k4.cell (p:=⟨wr.heap.size,2,none⟩) (by show wr.heap.size<_;omega) (by show wr.heap.size≠cb;omega)).trans y2
    clear HC2 HB2 fN HT2 HY h4 k4 y2 y3
    go_wp2_with fail
    obtain ⟨va,vc,hv⟩:=vJ.out.sl
    obtain ⟨L,hL⟩:∃ L,L=ps.length:=⟨_,rfl⟩
    rw [<- hL] at hv
    subst hv
    have HLj:Hid (L=j):=by have:=MG.out;show _=_;omega
    have hLb:L<=1100:=by have:=HLj.out;omega
    have s0:=HB4.out.k0
    have f0:=HB4.out.f 0
    have sl:=HB4.out.lt
    obtain ⟨zl,z0,z1,z2,z3,z4,z5⟩:=Pc.out
    have hO4:w4.ownsRow (w.heap.size+1) 314 4 (.slice va L vc) L (E2 ps):=by have h:=vJ.out.1;rw [<- hL] at h;exact h
    have qC:(w4.drew.alloc (.cells #[.string (bz cw), .string tn, .slice mD mF mG, .slice mE mH mI] 314)).ownsRow (w.heap.size+1) 314 4 (.slice va L vc) L (E2 ps):=aH hO4 (((Below.refl _ w4).drew).alloc (aF _) _)
    have MH:Hid (∀ b,(Value.slice va L vc).ownBlock=some b->w.heap.size+1<=b):=λb e=>(aB hO4 b e).1
    clear hL
    go_region_law (refine step_append_lies _ (by rfl) _ _ _ (by rfl) (w.heap.size+1) 314 i0 (.agg #[.string ⟨#[]⟩, .string ⟨#[]⟩, .slice none 0 0, .slice none 0 0]) 4 80 Tryz.underlying315 ji fR jz1 fS rfl (by omega) (.slice va L vc) L (E2 ps) (by rfl) qC ⟨w4.heap.size,0,none⟩ 1 1 [.string (bz cw), .string tn, .slice mD mF mG, .slice mE mH mI] (by rfl) (by rfl) (World.news_of_block (cs:=#[.string (bz cw), .string tn, .slice mD mF mG, .slice mE mH mI]) (t:=314) (fr:=(0,0)) (heap_alloc_new w4.drew _)) (by intro u hu;simp at hu;rcases hu with rfl | rfl | rfl | rfl <;> rfl) (by omega) (by unfold maxLen;omega) (by omega) (by simp;omega) (w4.heap.size+1) (by simp) ?_;intro g' gE w5 hown hgrow hat hlt';have s1:=(fB (w:=w4.drew.alloc (.cells #[.string (bz cw), .string tn, .slice mD mF mG, .slice mE mH mI] 314)) (a:=⟨w.heap.size,0,none⟩) (hgrow.block w.heap.size (by simp;omega) (λee=>by have:=MH.out _ ee.symm;omega))).trans (((Gr.refl w4).drew.alloc _ |>.cell (p:=⟨w.heap.size,0,none⟩) sl).trans s0);have f1:=(wF (w:=w4.drew.alloc (.cells #[.string (bz cw), .string tn, .slice mD mF mG, .slice mE mH mI] 314)) (a:=⟨w.heap.size,0,none⟩) (hgrow.block w.heap.size (by simp;omega) (λee=>by have:=MH.out _ ee.symm;omega))).trans (((Gr.refl w4).drew.alloc _ |>.frozen (p:=⟨w.heap.size,0,none⟩) sl).trans f0))
    all_goals
     have eM:Hid (CB cb tv ((aR T (tw,ta) c').2.fail 4 ca) (w5.setCell ⟨w.heap.size,0,none⟩ (.slice (some ⟨g',0,none⟩) (L+1) gE))/\Bk (w5.setCell ⟨w.heap.size,0,none⟩ (.slice (some ⟨g',0,none⟩) (L+1) gE)) w.heap.size [.slice (some ⟨g',0,none⟩) (L+1) gE, .pointer ia]/\vM (w.heap.size+1) k (w5.setCell ⟨w.heap.size,0,none⟩ (.slice (some ⟨g',0,none⟩) (L+1) gE)) (.slice (some ⟨g',0,none⟩) (L+1) gE) (ps ++ [(cw,(aR T (tw,ta) c').1,⟨tn,mD,mF,mG,mE,mH,mI⟩)])/\Kept cb w (w5.setCell ⟨w.heap.size,0,none⟩ (.slice (some ⟨g',0,none⟩) (L+1) gE))):=wW rfl (HLj.out.trans MG.out.symm) vJ.out HB4.out Pb.out HT4.out eC.out fC.out hcw hown hgrow
     clear hown hgrow s0 f0 s1 f1 z0 z1 z2 z3 z4 z5 hO4 qC hat
     go_wp2_with fail
     go_roundw
     case rel=>exact ⟨j+1,_,_,_,by omega,by go_num,by show _=_;rw [List.length_append,MG.out];rfl,by show _=_;rw [NO.out,Bh,HE.out],eM.out.1,eM.out.2.1,eM.out.2.2.1,eM.out.2.2.2⟩
     case measure=>simp [intOf];omega
  ·have HE:Hid (bI T src [] c=(vL ps,c')):=by show _=_;rw [HP.out,Aw (by have:=HN.out;omega)];rfl
   have hsc:wN k m wr (vL ps::aE) (.pointer (some ⟨w.heap.size,0,none⟩)):=⟨w.heap.size,v, .pointer ia,rfl,hm,hsr,HB.out.c 0 (by simp),HB.out.c 1 (by simp),HO.out.Vs (by omega) (by have:=MG.out;omega),HS.out.ou fC.out (Ou.kept HK.out hkc hcm)⟩
   have Vt:Hid (Calls Tryz.prog 262 #[.pointer (some ⟨cb,0,none⟩), .pointer (some ⟨w.heap.size,0,none⟩)] wr λr w'=>r = .returned (.tuple #[])/\CB cb tv (c'.note (vL ps::aE)) w'/\Kept cb wr w'):=yX HC.out hkr.out hsc
   have Xv:=hid hsc
   clear hsc
   go_wp2_with fail
   refine Vt.out.mono ?_
   rintro e w2 ⟨rfl,h2,k2⟩
   have H2:Hid (CB cb tv (c'.note (vL ps::aE)) w2/\Kept cb w w2/\wN k m w2 (vL ps::aE) (.pointer (some ⟨w.heap.size,0,none⟩))):=⟨h2,HK.out.trans k2,Xv.out.ou hkr.out (Ou.kept k2 hkc hcm)⟩
   clear h2 k2 Vt
   go_wp2_with fail
   go_ret
   rw [HE.out]
   exact ⟨_,rfl,H2.out.2.2,H2.out.1,H2.out.2.1⟩
def Sp.Nd.dep:Nd->Nat
 | .cons h t=>max h.dep t.dep
 | .clause _ e=>e.dep
 | .op _ _ a=>a.dep
 | .dW a e=>max a.dep e.dep
 | .arms _ w _ t r=>max w.dep (max t.dep r.dep)
 | .within _ _ a q=>max a.dep q.dep
 | .comb _ _ _ x y=>max x.dep y.dep
 | .sel _ _ e _ w=>1+max e.dep w.dep
 | _=>0
structure En (T:List Sp.Tb) (k cb m:Nat) (tv:Value) (c:CS) (aE:List Sp.Lv) (iv:Value) (lo hi:Nat) (w:World):Prop where
 ck:CB cb tv c w
 tb:sF k w T tv
 sc:wN k m w aE iv
 Pd:k<=lo
 hic:hi<=cb
 cm:cb<m
 mw:m<=w.heap.size
theorem En.kw {T:List Sp.Tb} {k cb m:Nat} {tv:Value} {c:CS} {aE:List Sp.Lv} {iv:Value} {lo hi:Nat} {w:World} (h:En T k cb m tv c aE iv lo hi w):k<=w.heap.size:=h.tb.2.1
theorem En.next {T:List Sp.Tb} {k cb m:Nat} {tv:Value} {c c' : CS} {aE:List Sp.Lv} {iv:Value} {lo hi lo' hi' : Nat} {w w' : World} (h:En T k cb m tv c aE iv lo hi w) (hl:lo<=lo') (hh:hi'<=hi) (hle:lo'<=hi') (f:Fc cb lo' hi' w w') (hc:CB cb tv c' w'):En T k cb m tv c' aE iv lo hi w':=by
 have h1:=h.Pd
 have h2:=h.hic
 have h3:=h.cm
 exact ⟨hc,h.tb.low (Low.ET f (by omega) (by omega)),h.sc.ou h.kw (Ou.fc f (by omega) (by omega) (by omega) (by omega)),h1,h2,h3,cE h.mw f.size⟩
theorem En.part {T:List Sp.Tb} {k cb m:Nat} {tv:Value} {c:CS} {aE:List Sp.Lv} {iv:Value} {lo hi lo' hi' : Nat} {w:World} (h:En T k cb m tv c aE iv lo hi w) (hl:lo<=lo') (hh:hi'<=hi):En T k cb m tv c aE iv lo' hi' w:=
 ⟨h.ck,h.tb,h.sc,by have:=h.Pd;omega,by have:=h.hic;omega,h.cm,h.mw⟩
theorem En.kept {T:List Sp.Tb} {k cb m:Nat} {tv:Value} {c c' : CS} {aE:List Sp.Lv} {iv:Value} {lo hi:Nat} {w w' : World} (h:En T k cb m tv c aE iv lo hi w) (hlh:lo<=hi) (f:Kept cb w w') (hc:CB cb tv c' w'):En T k cb m tv c' aE iv lo hi w':=
 h.next (aF _) (aF _) hlh (Fc.of f) hc
def Bi (T:List Sp.Tb) (nd:Nd):Prop:=∀ (k cb m lo hi:Nat) (tv ev iv:Value) (c:CS) (aE:List Sp.Lv) (w:World),En T k cb m tv c aE iv lo hi w->aE.length+nd.dep<=100000->Rp w nd lo hi ev->
 Calls Tryz.prog 182 #[.pointer (some ⟨cb,0,none⟩),ev,iv] w λr w'=>r = .returned (.int .i64 ((Sp.ck T nd aE 0 c).1.headD 0))/\CB cb tv (Sp.ck T nd aE 0 c).2.1 w'/\Rp w' (Sp.ck T nd aE 0 c).2.2 lo hi ev/\Fc cb lo hi w w'
def K5 (T:List Sp.Tb) (nd:Nd):Prop:=∀ (k cb m lo hi:Nat) (tv sv iv:Value) (c:CS) (aE:List Sp.Lv) (w:World),En T k cb m tv c aE iv lo hi w->aE.length+nd.dep<=100000->Rp w nd lo hi sv->yQ 0 cb sv->
 Calls Tryz.prog 180 #[.pointer (some ⟨cb,0,none⟩),sv,iv] w λr w'=>∃ v,r = .returned v/\dX w.heap.size w' v (Sp.ck T nd aE 0 c).1.dropLast/\CB cb tv (Sp.ck T nd aE 0 c).2.1 w'/\Rp w' (Sp.ck T nd aE 0 c).2.2 lo hi sv/\Fc cb lo hi w w'
def NP (T:List Sp.Tb) (nd:Nd):Prop:=∀ (k cb m lo hi:Nat) (tv qv iv:Value) (c:CS) (aE:List Sp.Lv) (w:World),En T k cb m tv c aE iv lo hi w->aE.length+nd.dep<=100000->Rp w nd lo hi qv->
 Calls Tryz.prog 141 #[.pointer (some ⟨cb,0,none⟩),qv,iv] w λr w'=>∃ v,r = .returned v/\dX w.heap.size w' v (Sp.ck T nd aE 0 c).1/\(Sp.ck T nd aE 0 c).1.length<=90000/\CB cb tv (Sp.ck T nd aE 0 c).2.1 w'/\Rp w' (Sp.ck T nd aE 0 c).2.2 lo hi qv/\Fc cb lo hi w w'
def kT (T:List Sp.Tb) (aE:List Sp.Lv):List Nd->CS->List Int×CS×List Nd
 | [],c=>([],c, [])
 | n::ns,c=>
  let r:=Sp.ck T n aE 0 c
  let q:=kT T aE ns r.2.1
  (r.1.headD 0::q.1,q.2.1,r.2.2::q.2.2)
theorem E3 (T:List Sp.Tb) (aE:List Sp.Lv):∀ (a b:List Nd) (c:CS),kT T aE (a++b) c=((kT T aE a c).1++(kT T aE b (kT T aE a c).2.1).1,(kT T aE b (kT T aE a c).2.1).2.1,(kT T aE a c).2.2++(kT T aE b (kT T aE a c).2.1).2.2)
 | [],b,c=>by simp [kT]
 | n::a,b,c=>by simp [kT,E3 T aE a b]
theorem sO (T:List Sp.Tb) (aE:List Sp.Lv):∀ (a:List Nd) (c:CS),(kT T aE a c).1.length=a.length/\(kT T aE a c).2.2.length=a.length
 | [],c=>⟨rfl,rfl⟩
 | n::a,c=>by simp [kT,sO T aE a]
theorem NQ (T:List Sp.Tb) (N:Nat) (nd:Nd) (h:wf N nd .expr) (aE:List Sp.Lv) (made:Int) (c:CS):(Sp.ck T nd aE made c).1 = [(Sp.ck T nd aE made c).1.headD 0]:=by
 cases nd with
 | nil=>simp [wf] at h
 | none=>simp [wf] at h
 | cons _ _=>simp [wf] at h
 | clause _ _=>simp [wf] at h
 | arms _ _ _ _ _=>simp [wf] at h
 | comb _ _ _ _ _=>simp [wf] at h
 | sel _ _ _ _ _=>simp [wf] at h
 | const _=>rfl
 | col _ _ _ _ _ _=>rfl
 | op _ _ _=>rfl
 | dW arms els=>cases els <;> rfl
 | within w a args q=>
  simp only [Sp.ck]
  split
  ·rfl
  ·split
   ·rfl
   ·split <;> rfl
def Sp.Nd.els:Nd->List Nd
 | .cons h t=>h::t.els
 | _ => []
theorem gK (N:Nat):∀ nd:Nd,wf N nd .list->nd=gG nd.els .nil/\nd.els.length=nd.len/\∀ n∈nd.els,wf N n .expr
 | .nil,_=>⟨rfl,rfl,λn h=>by simp [Nd.els] at h⟩
 | .cons h t,hw=>by
  obtain ⟨_,h1,h2⟩:=hw
  obtain ⟨e1,e2,e3⟩:=gK N t h2
  refine ⟨?_,by simp [Nd.els,Nd.len,e2],λn hn=>?_⟩
  ·simp only [Nd.els,gG,List.foldr_cons]
   congr 1
  ·simp only [Nd.els,List.mem_cons] at hn
   rcases hn with rfl | hn
   ·exact h1
   ·exact e3 n hn
 | .none,h=>by simp [wf] at h
 | .clause _ _,h=>by simp [wf] at h
 | .const _,h=>by simp [wf] at h
 | .col _ _ _ _ _ _,h=>by simp [wf] at h
 | .op _ _ _,h=>by simp [wf] at h
 | .dW _ _,h=>by simp [wf] at h
 | .arms _ _ _ _ _,h=>by simp [wf] at h
 | .within _ _ _ _,h=>by simp [wf] at h
 | .comb _ _ _ _ _,h=>by simp [wf] at h
 | .sel _ _ _ _ _,h=>by simp [wf] at h
theorem zB (T:List Sp.Tb) (N:Nat) (aE:List Sp.Lv):∀ (ns:List Nd) (c:CS),(∀ n∈ns,wf N n .expr)->Sp.ck T (gG ns .nil) aE 0 c=((kT T aE ns c).1 ++ [0],(kT T aE ns c).2.1,gG (kT T aE ns c).2.2 .nil)
 | [],c,_=>rfl
 | n::ns,c,h=>by
  have ih:=zB T N aE ns (Sp.ck T n aE 0 c).2.1 (λx hx=>h x (by simp [hx]))
  have h1:=NQ T N n (h n (by simp)) aE 0 c
  simp only [gG,List.foldr_cons] at ih ⊢
  simp only [Sp.ck,ih,kT]
  rw [h1]
  simp
theorem Bj:∀ (ns:List Nd) (n:Nd),n∈ns->n.dep<=(gG ns .nil).dep
 | m::ns,n,h=>by
  simp only [gG,List.foldr_cons,Nd.dep]
  simp only [List.mem_cons] at h
  rcases h with rfl | h
  ·omega
  ·have:=Bj ns n h
   simp only [gG] at this
   omega
theorem Rp.els {w:World} : ∀ (ns:List Nd) (lo hi blk off n c:Nat),Rp w (gG ns .nil) lo hi (.slice (some ⟨blk,off,none⟩) n c)->n=ns.length/\∃ xs,lZ w blk ns xs lo hi/\∀ j u,xs[j]?=some u->w.cell? ⟨blk,off+j,none⟩=some u
 | [],lo,hi,blk,off,n,c,h=>by
  obtain ⟨h1,a,c',e⟩:=h
  injection e with e1 e2
  exact ⟨by simpa using e2, [],h1,λj u hj=>by simp at hj⟩
 | m::ns,lo,hi,blk,off,n,c,h=>by
  simp only [gG,List.foldr_cons] at h
  obtain ⟨blk',off',n',c',v,m1,m2,e,hl,hS,hc,hn,h1,h2⟩:=h
  injection e with e1 e2 e3
  injection e1 with e1
  injection e1 with e4 e5
  subst e4 e5 e2
  obtain ⟨h3,xs,h4,h5⟩:=Rp.els ns m2 hi blk (off+1) n' c' h2
  refine ⟨by simp [h3],v::xs,⟨m1,m2,hS,hn,h1,h4⟩,λj u hj=>?_⟩
  match j,hj with
  | 0,hj=>simp at hj;subst hj;exact hc
  | j+1,hj=>rw [show off+(j+1)=off+1+j by omega];exact h5 j u (by simpa using hj)
theorem lZ.upd {w:World} {g:Nat} : ∀ (a b:List Nd) (n:Nd) (xs:List Value) (lo hi:Nat),lZ w g (a++n::b) xs lo hi->∃ m1 m2 x,xs[a.length]?=some x/\lo<=m1/\m1<=m2/\m2<=hi/\¬ (m1<=g/\g<m2)/\cH x/\Rp w n m1 m2 x/\
  ∀ w' n',w.heap.size<=w'.heap.size->(∀ q,lo<=q->q<hi->q≠g->¬ (m1<=q/\q<m2)->w'.heap[q]?=w.heap[q]?)->Rp w' n' m1 m2 x->lZ w' g (a++n'::b) xs lo hi
 | [],b,n, [],lo,hi,h=>h.elim
 | [],b,n,x::xs,lo,hi,h=>by
  obtain ⟨m1,m2,hS,hn,hr,ht⟩:=h
  have hS':=hS
  have hle:=ht.le
  unfold Sub at hS'
  refine ⟨m1,m2,x,rfl,by omega,by omega,by omega,by omega,hn,hr,λw' n' hs hk hr'=>⟨m1,m2,hS,hn,hr',ht.frame hs λq h1 h2 h3=>hk q (by omega) h2 h3 (by omega)⟩⟩
 | m::a,b,n, [],lo,hi,h=>h.elim
 | m::a,b,n,x::xs,lo,hi,h=>by
  obtain ⟨m1,m2,hS,hn,hr,ht⟩:=h
  obtain ⟨p1,p2,y,e,l1,l2,l3,l4,l5,l6,l7⟩:=lZ.upd a b n xs m2 hi ht
  have hS':=hS
  unfold Sub at hS'
  refine ⟨p1,p2,y,by simpa using e,by omega,l2,l3,l4,l5,l6,λw' n' hs hk hr'=>⟨m1,m2,hS,hn,hr.frame hs _ _ _ _ (λq h1 h2=>hk q (by omega) (by omega) (by omega) (by omega)) (λ_ _ _ _ e=>absurd e (hn _ _ _)),l7 w' n' hs (λq h1 h2 h3 h4=>hk q (by omega) h2 h3 h4) hr'⟩⟩
end Go.Proofs.YtgnncnhkgmhngaaGreatDoor
