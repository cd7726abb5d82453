import Derived.Test.YtgnncnhkgmhngaaGreatDoorJ22
set_option maxHeartbeats 4000000
set_option maxRecDepth 100000
namespace Go.Proofs.YtgnncnhkgmhngaaGreatDoor
open Sp
open Tryz
open Go.RowKit Go.Sort
abbrev P3:=Sp.Bs×Sp.Tb×TV
def PT (p:P3):List Value := [.string (bz p.1), .string p.2.2.name,p.2.2.cv,p.2.2.rv]
def Gb (ps:List P3):List Value:=ps.flatMap PT
def wV (ps:List P3):Sp.Lv:=ps.map λp=>(p.1,p.2.1)
theorem Km (ps:List P3) (p:P3):Gb (ps ++ [p])=Gb ps++PT p:=by simp [Gb]
theorem Kn:∀ (ps:List P3) (i d:Nat) (h:i<ps.length) (_hd:d<4),(Gb ps)[i*4+d]?=(PT ps[i])[d]?
 | [],i,d,h,_=>by simp at h
 | p::ps,0,d,_,hd=>by
  simp only [Gb,List.flatMap_cons,List.getElem_cons_zero,Nat.zero_mul,Nat.zero_add]
  rw [List.getElem?_append_left (by simp [PT];omega)]
 | p::ps,i+1,d,h,hd=>by
  have ih:=Kn ps i d (by simpa using h) hd
  simp only [Gb,List.flatMap_cons,List.getElem_cons_succ] at ih ⊢
  rw [List.getElem?_append_right (by simp [PT];omega),<- ih]
  congr 1
  simp [PT];omega
theorem B4 (ps:List P3) (p:P3):wV (ps ++ [p])=wV ps ++ [(p.1,p.2.1)]:=by simp [wV]
def wW (base k:Nat) (w:World) (v:Value) (ps:List P3):Prop:=w.ownsRow base 314 4 v ps.length (Gb ps)/\∀ p∈ps,lW k w p.2.1 p.2.2
theorem wW.XB {base k m:Nat} {w:World} {v:Value} {ps:List P3} (h:wW base k w v ps) (hb:m<=base) (hl:ps.length<=1100):D6 k m w (wV ps) v:=by
 refine ⟨by simpa [wV] using hl,?_⟩
 obtain ⟨h1,h2⟩:=h
 have hlt:=aB h1
 obtain ⟨hn,h | ⟨g,cap,cur,hv,h0,hb',r1,r2,r3,r4⟩⟩:=h1
 ·left
  have:ps = []:=zE h.2
  subst this
  exact ⟨rfl,h.1⟩
 ·right
  refine ⟨g,cap,by rw [hv];simp [wV],by omega,(hlt g (by rw [hv];rfl)).2,λi hi=>?_⟩
  have hi' : i<ps.length:=by simpa [wV] using hi
  have hc:∀ d v,d<4->(PT ps[i])[d]?=some v->w.cell? ⟨g,i*4+d,none⟩=some v:=λd v hd e=>by
   rw [<- Kn ps i d hi' hd,<- r4,List.getElem?_take_of_lt (by omega)] at e
   simp [World.cell?,hb']
   simpa using e
  have e1:(wV ps)[i]=(ps[i].1,ps[i].2.1):=by simp [wV]
  rw [e1]
  exact ⟨ps[i].2.2,hc 0 _ (by omega) rfl,hc 1 _ (by omega) rfl,hc 2 _ (by omega) rfl,hc 3 _ (by omega) rfl,h2 _ (hU hi')⟩
theorem wW.same {base k:Nat} {w w' : World} {v:Value} {ps:List P3} (h:wW base k w v ps) (hk:k<=w.heap.size) (g:Low k w w') (hb:∀ b,v.ownBlock=some b->w'.heap[b]?=w.heap[b]?):wW base k w' v ps:=by
 refine ⟨?_,λp hp=>(h.2 p hp).low hk g⟩
 obtain ⟨hl,h | ⟨g',cap,cur,hv,h0,hb',r⟩⟩:=h.1
 ·exact ⟨hl, .inl h⟩
 ·subst hv;exact ⟨hl, .inr ⟨g',cap,cur,rfl,h0,(hb g' rfl).trans hb',r⟩⟩
theorem wW.below {base k:Nat} {w w' : World} {v:Value} {ps:List P3} (h:wW base k w v ps) (hk:k<=w.heap.size) (g:Below w.heap.size w w'):wW base k w' v ps:=
 h.same hk (Ou.low (m:=0) (Ou.below g)) λb e=>g.block b (aB h.1 b e).2
theorem wW.kept {base k cb:Nat} {w w' : World} {v:Value} {ps:List P3} (h:wW base k w v ps) (hk:k<=w.heap.size) (g:Kept cb w w') (h1:k<=cb) (h2:cb<base):wW base k w' v ps:=
 h.same hk (Low.kT g h1) λb e=>g.block b (aB h.1 b e).2 (by have:=(aB h.1 b e).1;omega)
theorem wW.sl {base k:Nat} {w:World} {v:Value} {ps:List P3} (h:wW base k w v ps):∃ a c,v = .slice a ps.length c:=by
 obtain ⟨hl,h | ⟨g',cap,cur,hv,_⟩⟩:=h.1
 ·exact ⟨none,0,by rw [h.1,h.2]⟩
 ·exact ⟨_,_,hv⟩
theorem EC (T:List Sp.Tb) (t k:Nm) (r:List (Nm×Nm)) (lv:Sp.Lv) (c:CS) :
  bI T ((t,k)::r) lv c=bI T r (lv ++ [(k.1,(aK T t c).1)]) (if lv.any (λx=>x.1 == k.1) then (aK T t c).2.fail 4 k.2 else (aK T t c).2):=by
 rw [bI]
 simp only [aK]
 cases aG t.1 T <;> rfl
theorem gN.at_ {w:World} {blk:Nat} : ∀ (l:List (Nm×Nm)) (off i:Nat) (h:i<l.length),gN w blk off l->w.cell? ⟨blk,off+i*4,none⟩=some (.string (bz l[i].1.1))/\w.cell? ⟨blk,off+i*4+1,none⟩=some (.int .i64 (l[i].1.2:Nat))/\w.cell? ⟨blk,off+i*4+2,none⟩=some (.string (bz l[i].2.1))/\w.cell? ⟨blk,off+i*4+3,none⟩=some (.int .i64 (l[i].2.2:Nat))
 | [],_,i,h,_=>by simp at h
 | ((tw,ta),(cw,ca))::r,off,0,_,hs=>by obtain ⟨h1,h2,h3,h4,_⟩:=hs;simpa using ⟨h1,h2,h3,h4⟩
 | ((tw,ta),(cw,ca))::r,off,i+1,h,hs=>by
  obtain ⟨_,_,_,_,h5⟩:=hs
  have:=gN.at_ r (off+4) i (by simpa using h) h5
  rw [show off+(i+1)*4=off+4+i*4 by omega]
  simpa using this
theorem PU:(prog.info? 314).map (λi=>(i.zero,i.size,i.bytes))=some (some (.agg #[.string ⟨#[]⟩, .string ⟨#[]⟩, .slice none 0 0, .slice none 0 0]),4,80):=by kernel_rfl
def Vt (w:World) (src:List (Nm×Nm)) (v:Value):Prop:=(src = []/\v = .slice none 0 0)\/∃ blk c,v = .slice (some ⟨blk,0,none⟩) src.length c/\blk<w.heap.size/\gN w blk 0 src
theorem Bk.set0 {w:World} {q:Nat} {x y:Value} (h:Bk w q [x,y]) (x' : Value):Bk (w.setCell ⟨q,0,none⟩ x') q [x',y]:=by
 have c0:=h.k0
 have c1:=h.k1
 have lt:=h.lt
 have F:Hid (∀ j,w.frozen? ⟨q,j,none⟩=false):=h.f
 refine ⟨by simpa [World.setCell] using lt,λj hj=>?_,λj=>by have:=F.out j;go_simp⟩
 match j,hj with
 | 0,_=>simp only [List.getElem_cons_zero];go_simp
 | 1,_=>simp only [List.getElem_cons_succ,List.getElem_cons_zero];go_simp
theorem yF {cb k b0 L g' iE vc:Nat} {va:Option Addr} {tv iv:Value} {c:CS} {w w4 w5:World} {ps:List P3} {cw:Sp.Bs} {t:Sp.Tb} {tn:ByteArray} {iK iF:Option Addr} {gK iA iG iH:Nat} (hb0:b0=w.heap.size) (hL:L=ps.length) (HO:wW (b0+1) k w4 (.slice va L vc) ps) (HB:Bk w4 b0 [.slice va L vc,iv]) (HC:CB cb tv c w4) (HT:lW k w4 t ⟨tn,iK,gK,iA,iF,iG,iH⟩) (HK:Kept cb w w4)
  (hk:k<=w.heap.size) (hcb:cb<w.heap.size)
  (hown:w5.ownsRow (b0+1) 314 4 (.slice (some ⟨g',0,none⟩) (L+1) iE) (L+1) (Gb ps ++ [.string (bz cw), .string tn, .slice iK gK iA, .slice iF iG iH]))
  (hgrow:(w4.drew.alloc (.cells #[.string (bz cw), .string tn, .slice iK gK iA, .slice iF iG iH] 314)).grownBy w5 (Value.slice va L vc).ownBlock) :
  CB cb tv c (w5.setCell ⟨b0,0,none⟩ (.slice (some ⟨g',0,none⟩) (L+1) iE))/\Bk (w5.setCell ⟨b0,0,none⟩ (.slice (some ⟨g',0,none⟩) (L+1) iE)) b0 [.slice (some ⟨g',0,none⟩) (L+1) iE,iv]/\wW (b0+1) k (w5.setCell ⟨b0,0,none⟩ (.slice (some ⟨g',0,none⟩) (L+1) iE)) (.slice (some ⟨g',0,none⟩) (L+1) iE) (ps ++ [(cw,t,⟨tn,iK,gK,iA,iF,iG,iH⟩)])/\Kept cb w (w5.setCell ⟨b0,0,none⟩ (.slice (some ⟨g',0,none⟩) (L+1) iE)):=by
 subst hb0
 have hz:w4.heap.size<=w5.heap.size:=cF (by simp) hgrow.size
 have hbl:∀ q,q<=w.heap.size->w5.heap[q]?=w4.heap[q]?:=λq hq=>by
  have hq4:q<w4.heap.size:=by have:=HB.lt;omega
  refine (hgrow.block q (by simp;omega) (λe=>?_)).trans (lK w4.drew _ q hq4)
  have:=(aB HO.1 q e.symm).1
  omega
 have hst:∀ q,q≠w.heap.size->(w5.setCell ⟨w.heap.size,0,none⟩ (.slice (some ⟨g',0,none⟩) (L+1) iE)).heap[q]?=w5.heap[q]?:=λq hq=>c6 _ _ _ _ hq
 have hs6:(w5.setCell ⟨w.heap.size,0,none⟩ (.slice (some ⟨g',0,none⟩) (L+1) iE)).heap.size=w5.heap.size:=by simp [World.setCell]
 have hlow:Low k w4 (w5.setCell ⟨w.heap.size,0,none⟩ (.slice (some ⟨g',0,none⟩) (L+1) iE)):=⟨by omega,λq hq _=>(hst q (by omega)).trans (hbl q (by omega))⟩
 have hk4:k<=w4.heap.size:=cF hk HK.size
 have hg':=aB hown g' rfl
 refine ⟨HC.same (by omega) ((hst cb (by omega)).trans (hbl cb (by omega))),(HB.same hz (hbl _ (aF _))).set0 _,⟨?_,λp hp=>?_⟩,?_⟩
 ·rw [Km,List.length_append,List.length_singleton,<- hL]
  exact bF hown (hst g' (by omega))
 ·rw [List.mem_append,List.mem_singleton] at hp
  rcases hp with hp | rfl
  ·exact (HO.2 p hp).low hk4 hlow
  ·exact HT.low hk4 hlow
 ·exact ⟨hgrow.os.trans HK.os,hgrow.tape.trans HK.tape,hgrow.output.trans HK.output,by have:=HK.size;omega,λq hq hc=>(hst q (by omega)).trans ((hbl q (by omega)).trans (HK.block q hq hc))⟩
theorem Kp {cb k m:Nat} {tv:Value} {c:CS} {T:List Sp.Tb} {w:World} {src:List (Nm×Nm)} {fv iv:Value} {aC:List Sp.Lv} (h:CB cb tv c w) (ht:sD k w T tv) (hs:v8 k m w aC iv) (hsrc:Vt w src fv) (hfb:xR 0 cb fv) (hsl:src.length<=1100) (hkc:k<=cb) (hcm:cb<m) (hm:m<=w.heap.size) :
  Calls prog 227 #[.pointer (some ⟨cb,0,none⟩),fv,iv] w λe w'=>∃ v,e = .returned v/\v8 k m w' ((bI T src [] c).1::aC) v/\CB cb tv ((bI T src [] c).2.note ((bI T src [] c).1::aC)) w'/\Kept cb w w':=by
 obtain ⟨i0,ji,fU,jz1,fV⟩:=info_parts PU
 have HH:=hid h
 have HT:=hid ht
 have HS:=hid hs
 have HF:=hid hsrc
 obtain ⟨ia,rfl⟩:=hs.ptr
 have eJ : Hid (k<=w.heap.size):=ht.2.1
 have hcw:=h.lt
 obtain ⟨fa,fc,rfl⟩:∃ a c,fv = .slice a src.length c:=by
  rcases hsrc with ⟨rfl,rfl⟩ | ⟨_,_,e,_⟩
  ·exact ⟨_,_,rfl⟩
  ·exact ⟨_,_,e⟩
 have Zg:=hid hfb
 obtain ⟨N,hN⟩:∃ N,N=src.length:=⟨_,rfl⟩
 have HN:=hid hN
 rw [<- hN] at hsl ⊢
 clear h ht hs hsrc hfb hN
 go_enter func227,ntmps227
 go_wp2_with fail
 go_loopw [16] (λi wr=>∃ (j:Nat) (ps:List P3) (c' : CS) (v:Value),j<=N/\i = .int .i64 (j:Nat)/\Hid (ps.length=j)/\Hid (bI T src [] c=bI T (src.drop j) (wV ps) c')/\Hid (CB cb tv c' wr)/\Hid (Bk wr w.heap.size [v, .pointer ia])/\Hid (wW (w.heap.size+1) k wr v ps)/\Hid (Kept cb w wr)) (λi _=>N - (intOf i).toNat)
 case atStart=>exact ⟨0, [],c, .slice none 0 0,eX _,rfl,rfl,rfl,HH.out.alloc _,Bk.new w #[.slice none 0 0, .pointer ia] _,⟨World.ownsRow_nil _ _ _ _,λp hp=>by simp at hp⟩,(Kept.refl cb w).alloc _⟩
 case round=>
  obtain ⟨j,ps,c',v,hj,rfl,Oy,HP,HC,HB,HO,HK⟩:=hrel
  have hkr:Hid (k<=wr.heap.size):=cF eJ.out HK.out.size
  have hcr:=HC.out.lt
  have hsr:=HB.out.lt
  by_cases hlt:j<N
  ·have hjz:j<src.length:=by have:=HN.out;omega
   obtain ⟨fb,rfl,hfl,hfs⟩:∃ fb,fa=some ⟨fb,0,none⟩/\fb<w.heap.size/\gN w fb 0 src:=by
    rcases HF.out with ⟨e,_⟩ | ⟨fb,fo,e,h1,h2⟩
    ·rw [e] at hjz;simp at hjz
    ·injection e with e;exact ⟨fb,e,h1,h2⟩
   have hfc:fb<cb:=(Zg.out fb 0 _ _ rfl).2
   obtain ⟨d0,d1,d2,d3⟩:=hfs.at_ src 0 j hjz
   rw [Nat.zero_add] at d0 d1 d2 d3
   have e0:=(HK.out.cell (p:=⟨fb,_,none⟩) hfl (by show fb≠cb;omega)).trans d0
   have e1:=(HK.out.cell (p:=⟨fb,_,none⟩) hfl (by show fb≠cb;omega)).trans d1
   have e2:=(HK.out.cell (p:=⟨fb,_,none⟩) hfl (by show fb≠cb;omega)).trans d2
   have e3:=(HK.out.cell (p:=⟨fb,_,none⟩) hfl (by show fb≠cb;omega)).trans d3
   clear d0 d1 d2 d3 hfs
   have PW:Hid (bI T src [] c=bI T (src.drop (j+1)) (wV ps ++ [(src[j].2.1,(aK T src[j].1 c').1)]) (if (wV ps).any (λx=>x.1 == src[j].2.1) then (aK T src[j].1 c').2.fail 4 src[j].2.2 else (aK T src[j].1 c').2)):=by
    show _=_
    rw [HP.out,lJ hjz]
    exact EC T src[j].1 src[j].2 _ _ _
   obtain ⟨⟨⟨tw,ta⟩,⟨cw,ca⟩⟩,hsj⟩:∃ x,x=src[j]:=⟨_,rfl⟩
   rw [<- hsj] at e0 e1 e2 e3 PW
   clear hsj HP
   simp only [] at e0 e1 e2 e3
   have HT1:Hid (sD k (wr.alloc (.cells #[.string (bz tw), .int .i64 (ta:Nat), .string (bz cw), .int .i64 (ca:Nat)] 337)) T tv):=(HT.out.low (Low.kT HK.out hkc)).low (Low.eA ((Gr.refl _).alloc _))
   go_wp2_with fail
   refine (iP (HC.out.alloc _) HT1.out (tw,ta)).mono ?_
   rintro e w2 ⟨Zh,rfl,hT2,hC2,hK2⟩
   have aY:Hid (Kept cb wr w2):=((Kept.refl cb wr).alloc _).trans hK2
   have HX:Hid (Bk w2 wr.heap.size [.string (bz tw), .int .i64 (ta:Nat), .string (bz cw), .int .i64 (ca:Nat)]):=(Bk.new wr #[.string (bz tw), .int .i64 (ta:Nat), .string (bz cw), .int .i64 (ca:Nat)] 337).kept hK2 (by omega)
   have HC2:=hid hC2
   have HT2:=hid hT2
   have HB2:Hid (Bk w2 w.heap.size [v, .pointer ia]):=HB.out.kept aY.out (by omega)
   have fW:Hid (wW (w.heap.size+1) k w2 v ps):=HO.out.kept hkr.out aY.out hkc (by omega)
   have hz2:=aY.out.size
   obtain ⟨tn,iK,gK,iA,iF,iG,iH⟩:=Zh
   have x0:=HX.out.k0
   have x1:=HX.out.k1
   have x2:=HX.out.k2
   have x3:=HX.out.k3
   have xl:=HX.out.lt
   clear hT2 hC2 hK2 e0 e1 e2 e3 HT1 HB HO HC
   go_wp2_with fail
   have G3:Hid (Gr w2 (w2.alloc (.cells #[.string tn, .slice iK gK iA, .slice iF iG iH] 187))):=(Gr.refl w2).alloc _
   have hk2:Hid (k<=w2.heap.size):=cF hkr.out hz2
   refine (JS k m w.heap.size (wV ps) v (bz cw) _ (cF hk2.out G3.out.size) (b6 HB2.out.lt G3.out.size) ((G3.out.cell (p:=⟨w.heap.size,0,none⟩) HB2.out.lt).trans (HB2.out.c 0 (by simp))) ((fW.out.below hk2.out G3.out.below).XB (by omega) (by have:=Oy.out;omega))).mono ?_
   rintro e w3 ⟨rfl,g3⟩
   rw [cY]
   have G4:Hid (Gr w2 w3):=G3.out.trans g3
   have HY:Hid (B3 w3 w2.heap.size (.string tn) (.slice iK gK iA) (.slice iF iG iH)):=(B3.new w2 _ _ _ _).gr g3
   have hz3:=G4.out.size
   have y2:=(G4.out.cell (p:=⟨wr.heap.size,2,none⟩) xl).trans x2
   have y3:=(G4.out.cell (p:=⟨wr.heap.size,3,none⟩) xl).trans x3
   clear g3 x0 x1 x2 x3 G3
   cases hany:(wV ps).any (λx=>x.1 == cw)
   ·have HE:Hid ((if (wV ps).any (λx=>x.1 == cw) then (aK T (tw,ta) c').2.fail 4 ca else (aK T (tw,ta) c').2)=(aK T (tw,ta) c').2):=by show _=_;rw [hany];rfl
    have SB:Hid (CB cb tv (aK T (tw,ta) c').2 w3):=HC2.out.gr G4.out
    have HB4:Hid (Bk w3 w.heap.size [v, .pointer ia]):=HB2.out.below G4.out.below
    have wQ:Hid (wW (w.heap.size+1) k w3 v ps):=fW.out.below hk2.out G4.out.below
    have HT4:Hid (lW k w3 (aK T (tw,ta) c').1 ⟨tn,iK,gK,iA,iF,iG,iH⟩):=HT2.out.low hk2.out (Low.eA G4.out)
    have Rb:=HY
    have eS:Hid (Kept cb w w3):=(HK.out.trans aY.out).trans (Kept.gr G4.out)
    have tH:w3.heap.size<=w3.heap.size:=aF _
    clear HC2 HB2 fW HT2
    go_wp2_with fail
    clear y3
    obtain ⟨va,vc,hv⟩:=wQ.out.sl
    obtain ⟨L,hL⟩:∃ L,L=ps.length:=⟨_,rfl⟩
    rw [<- hL] at hv
    subst hv
    have HLj:Hid (L=j):=by have:=Oy.out;show _=_;omega
    have hLb:L<=1100:=by have:=HLj.out;omega
    have s0:=HB4.out.k0
    have f0:=HB4.out.f 0
    have sl:=HB4.out.lt
    obtain ⟨zl,z0,z1,z2,z3,z4,z5⟩:=Rb.out
    have hO4:w3.ownsRow (w.heap.size+1) 314 4 (.slice va L vc) L (Gb ps):=by have h:=wQ.out.1;rw [<- hL] at h;exact h
    have tI:(w3.drew.alloc (.cells #[.string (bz cw), .string tn, .slice iK gK iA, .slice iF iG iH] 314)).ownsRow (w.heap.size+1) 314 4 (.slice va L vc) L (Gb ps):=aJ hO4 (((Below.refl _ w3).drew).alloc (aF _) _)
    have Oz:Hid (∀ b,(Value.slice va L vc).ownBlock=some b->w.heap.size+1<=b):=λb e=>(aB hO4 b e).1
    clear hL
    go_region_law (refine step_append_lies _ (by rfl) _ _ _ (by rfl) (w.heap.size+1) 314 i0 (.agg #[.string ⟨#[]⟩, .string ⟨#[]⟩, .slice none 0 0, .slice none 0 0]) 4 80 underlying315 ji fU jz1 fV rfl (by omega) (.slice va L vc) L (Gb ps) (by rfl) tI ⟨w3.heap.size,0,none⟩ 1 1 [.string (bz cw), .string tn, .slice iK gK iA, .slice iF iG iH] (by rfl) (by rfl) (World.news_of_block (cs:=#[.string (bz cw), .string tn, .slice iK gK iA, .slice iF iG iH]) (t:=314) (fr:=(0,0)) (heap_alloc_new w3.drew _)) (by intro u hu;simp at hu;rcases hu with rfl | rfl | rfl | rfl <;> rfl) (by omega) (by unfold maxLen;omega) (by omega) (by simp;omega) (w3.heap.size+1) (by simp) ?_;intro g' iE w5 hown hgrow hat hlt';have s1:=(dV (w:=w3.drew.alloc (.cells #[.string (bz cw), .string tn, .slice iK gK iA, .slice iF iG iH] 314)) (a:=⟨w.heap.size,0,none⟩) (hgrow.block w.heap.size (by simp;omega) (λee=>by have:=Oz.out _ ee.symm;omega))).trans (((Gr.refl w3).drew.alloc _ |>.cell (p:=⟨w.heap.size,0,none⟩) sl).trans s0);have f1:=(Bo (w:=w3.drew.alloc (.cells #[.string (bz cw), .string tn, .slice iK gK iA, .slice iF iG iH] 314)) (a:=⟨w.heap.size,0,none⟩) (hgrow.block w.heap.size (by simp;omega) (λee=>by have:=Oz.out _ ee.symm;omega))).trans (((Gr.refl w3).drew.alloc _ |>.frozen (p:=⟨w.heap.size,0,none⟩) sl).trans f0))
    all_goals
     have eT:Hid (CB cb tv (aK T (tw,ta) c').2 (w5.setCell ⟨w.heap.size,0,none⟩ (.slice (some ⟨g',0,none⟩) (L+1) iE))/\Bk (w5.setCell ⟨w.heap.size,0,none⟩ (.slice (some ⟨g',0,none⟩) (L+1) iE)) w.heap.size [.slice (some ⟨g',0,none⟩) (L+1) iE, .pointer ia]/\wW (w.heap.size+1) k (w5.setCell ⟨w.heap.size,0,none⟩ (.slice (some ⟨g',0,none⟩) (L+1) iE)) (.slice (some ⟨g',0,none⟩) (L+1) iE) (ps ++ [(cw,(aK T (tw,ta) c').1,⟨tn,iK,gK,iA,iF,iG,iH⟩)])/\Kept cb w (w5.setCell ⟨w.heap.size,0,none⟩ (.slice (some ⟨g',0,none⟩) (L+1) iE))):=yF rfl (HLj.out.trans Oy.out.symm) wQ.out HB4.out SB.out HT4.out eS.out eJ.out hcw hown hgrow
     clear hown hgrow s0 f0 s1 f1 z0 z1 z2 z3 z4 z5 hO4 tI hat
     go_wp2_with fail
     go_roundw
     case rel=>exact ⟨j+1,_,_,_,by omega,by go_num,by show _=_;rw [List.length_append,Oy.out];rfl,by show _=_;rw [PW.out,B4,HE.out],eT.out.1,eT.out.2.1,eT.out.2.2.1,eT.out.2.2.2⟩
     case measure=>simp [intOf];omega
   ·have HE:Hid ((if (wV ps).any (λx=>x.1 == cw) then (aK T (tw,ta) c').2.fail 4 ca else (aK T (tw,ta) c').2)=(aK T (tw,ta) c').2.fail 4 ca):=by show _=_;rw [hany];rfl
    go_wp2_with fail
    refine (cW (HC2.out.gr G4.out) 4 ca).mono ?_
    rintro e w4 ⟨rfl,h4,k4⟩
    have SB:=hid h4
    have HB4:Hid (Bk w4 w.heap.size [v, .pointer ia]):=(HB2.out.below G4.out.below).kept k4 (by omega)
    have wQ:Hid (wW (w.heap.size+1) k w4 v ps):=(fW.out.below hk2.out G4.out.below).kept (cF hk2.out hz3) k4 hkc (by omega)
    have HT4:Hid (lW k w4 (aK T (tw,ta) c').1 ⟨tn,iK,gK,iA,iF,iG,iH⟩):=(HT2.out.low hk2.out (Low.eA G4.out)).low (cF hk2.out hz3) (Low.kT k4 hkc)
    have Rb:Hid (B3 w4 w2.heap.size (.string tn) (.slice iK gK iA) (.slice iF iG iH)):=HY.out.xT k4 (by omega)
    have eS:Hid (Kept cb w w4):=((HK.out.trans aY.out).trans (Kept.gr G4.out)).trans k4
    have tH:=k4.size
    have y2':=(k4.cell (p:=⟨wr.heap.size,2,none⟩) (by show wr.heap.size<_;omega) (by show wr.heap.size≠cb;omega)).trans y2
    clear HC2 HB2 fW HT2 HY h4 k4 y2 y3
    go_wp2_with fail
    obtain ⟨va,vc,hv⟩:=wQ.out.sl
    obtain ⟨L,hL⟩:∃ L,L=ps.length:=⟨_,rfl⟩
    rw [<- hL] at hv
    subst hv
    have HLj:Hid (L=j):=by have:=Oy.out;show _=_;omega
    have hLb:L<=1100:=by have:=HLj.out;omega
    have s0:=HB4.out.k0
    have f0:=HB4.out.f 0
    have sl:=HB4.out.lt
    obtain ⟨zl,z0,z1,z2,z3,z4,z5⟩:=Rb.out
    have hO4:w4.ownsRow (w.heap.size+1) 314 4 (.slice va L vc) L (Gb ps):=by have h:=wQ.out.1;rw [<- hL] at h;exact h
    have tI:(w4.drew.alloc (.cells #[.string (bz cw), .string tn, .slice iK gK iA, .slice iF iG iH] 314)).ownsRow (w.heap.size+1) 314 4 (.slice va L vc) L (Gb ps):=aJ hO4 (((Below.refl _ w4).drew).alloc (aF _) _)
    have Oz:Hid (∀ b,(Value.slice va L vc).ownBlock=some b->w.heap.size+1<=b):=λb e=>(aB hO4 b e).1
    clear hL
    go_region_law (refine step_append_lies _ (by rfl) _ _ _ (by rfl) (w.heap.size+1) 314 i0 (.agg #[.string ⟨#[]⟩, .string ⟨#[]⟩, .slice none 0 0, .slice none 0 0]) 4 80 underlying315 ji fU jz1 fV rfl (by omega) (.slice va L vc) L (Gb ps) (by rfl) tI ⟨w4.heap.size,0,none⟩ 1 1 [.string (bz cw), .string tn, .slice iK gK iA, .slice iF iG iH] (by rfl) (by rfl) (World.news_of_block (cs:=#[.string (bz cw), .string tn, .slice iK gK iA, .slice iF iG iH]) (t:=314) (fr:=(0,0)) (heap_alloc_new w4.drew _)) (by intro u hu;simp at hu;rcases hu with rfl | rfl | rfl | rfl <;> rfl) (by omega) (by unfold maxLen;omega) (by omega) (by simp;omega) (w4.heap.size+1) (by simp) ?_;intro g' iE w5 hown hgrow hat hlt';have s1:=(dV (w:=w4.drew.alloc (.cells #[.string (bz cw), .string tn, .slice iK gK iA, .slice iF iG iH] 314)) (a:=⟨w.heap.size,0,none⟩) (hgrow.block w.heap.size (by simp;omega) (λee=>by have:=Oz.out _ ee.symm;omega))).trans (((Gr.refl w4).drew.alloc _ |>.cell (p:=⟨w.heap.size,0,none⟩) sl).trans s0);have f1:=(Bo (w:=w4.drew.alloc (.cells #[.string (bz cw), .string tn, .slice iK gK iA, .slice iF iG iH] 314)) (a:=⟨w.heap.size,0,none⟩) (hgrow.block w.heap.size (by simp;omega) (λee=>by have:=Oz.out _ ee.symm;omega))).trans (((Gr.refl w4).drew.alloc _ |>.frozen (p:=⟨w.heap.size,0,none⟩) sl).trans f0))
    all_goals
     have eT:Hid (CB cb tv ((aK T (tw,ta) c').2.fail 4 ca) (w5.setCell ⟨w.heap.size,0,none⟩ (.slice (some ⟨g',0,none⟩) (L+1) iE))/\Bk (w5.setCell ⟨w.heap.size,0,none⟩ (.slice (some ⟨g',0,none⟩) (L+1) iE)) w.heap.size [.slice (some ⟨g',0,none⟩) (L+1) iE, .pointer ia]/\wW (w.heap.size+1) k (w5.setCell ⟨w.heap.size,0,none⟩ (.slice (some ⟨g',0,none⟩) (L+1) iE)) (.slice (some ⟨g',0,none⟩) (L+1) iE) (ps ++ [(cw,(aK T (tw,ta) c').1,⟨tn,iK,gK,iA,iF,iG,iH⟩)])/\Kept cb w (w5.setCell ⟨w.heap.size,0,none⟩ (.slice (some ⟨g',0,none⟩) (L+1) iE))):=yF rfl (HLj.out.trans Oy.out.symm) wQ.out HB4.out SB.out HT4.out eS.out eJ.out hcw hown hgrow
     clear hown hgrow s0 f0 s1 f1 z0 z1 z2 z3 z4 z5 hO4 tI hat
     go_wp2_with fail
     go_roundw
     case rel=>exact ⟨j+1,_,_,_,by omega,by go_num,by show _=_;rw [List.length_append,Oy.out];rfl,by show _=_;rw [PW.out,B4,HE.out],eT.out.1,eT.out.2.1,eT.out.2.2.1,eT.out.2.2.2⟩
     case measure=>simp [intOf];omega
  ·have HE:Hid (bI T src [] c=(wV ps,c')):=by show _=_;rw [HP.out,Bn (by have:=HN.out;omega)];rfl
   have hsc:v8 k m wr (wV ps::aC) (.pointer (some ⟨w.heap.size,0,none⟩)):=⟨w.heap.size,v, .pointer ia,rfl,hm,hsr,HB.out.c 0 (by simp),HB.out.c 1 (by simp),HO.out.XB (by omega) (by have:=Oy.out;omega),HS.out.ou eJ.out (Ou.kept HK.out hkc hcm)⟩
   have XC:Hid (Calls prog 262 #[.pointer (some ⟨cb,0,none⟩), .pointer (some ⟨w.heap.size,0,none⟩)] wr λr w'=>r = .returned (.tuple #[])/\CB cb tv (c'.note (wV ps::aC)) w'/\Kept cb wr w'):=zU HC.out hkr.out hsc
   have Zi:=hid hsc
   clear hsc
   go_wp2_with fail
   refine XC.out.mono ?_
   rintro e w2 ⟨rfl,h2,k2⟩
   have H2:Hid (CB cb tv (c'.note (wV ps::aC)) w2/\Kept cb w w2/\v8 k m w2 (wV ps::aC) (.pointer (some ⟨w.heap.size,0,none⟩))):=⟨h2,HK.out.trans k2,Zi.out.ou hkr.out (Ou.kept k2 hkc hcm)⟩
   clear h2 k2 XC
   go_wp2_with fail
   go_ret
   rw [HE.out]
   exact ⟨_,rfl,H2.out.2.2,H2.out.1,H2.out.2.1⟩
def Sp.Nd.dep:Nd->Nat
 | .cons h t=>max h.dep t.dep
 | .clause _ e=>e.dep
 | .op _ _ a=>a.dep
 | .b8 a e=>max a.dep e.dep
 | .arms _ w _ t r=>max w.dep (max t.dep r.dep)
 | .within _ _ a q=>max a.dep q.dep
 | .comb _ _ _ x y=>max x.dep y.dep
 | .sel _ _ e _ w=>1+max e.dep w.dep
 | _=>0
structure En (T:List Sp.Tb) (k cb m:Nat) (tv:Value) (c:CS) (aC:List Sp.Lv) (iv:Value) (lo hi:Nat) (w:World):Prop where
 ck:CB cb tv c w
 tb:sD k w T tv
 sc:v8 k m w aC iv
 Rc:k<=lo
 hic:hi<=cb
 cm:cb<m
 mw:m<=w.heap.size
theorem En.kw {T:List Sp.Tb} {k cb m:Nat} {tv:Value} {c:CS} {aC:List Sp.Lv} {iv:Value} {lo hi:Nat} {w:World} (h:En T k cb m tv c aC iv lo hi w):k<=w.heap.size:=h.tb.2.1
theorem En.next {T:List Sp.Tb} {k cb m:Nat} {tv:Value} {c c' : CS} {aC:List Sp.Lv} {iv:Value} {lo hi lo' hi' : Nat} {w w' : World} (h:En T k cb m tv c aC iv lo hi w) (hl:lo<=lo') (hh:hi'<=hi) (hle:lo'<=hi') (f:Fc cb lo' hi' w w') (hc:CB cb tv c' w'):En T k cb m tv c' aC iv lo hi w':=by
 have h1:=h.Rc
 have h2:=h.hic
 have h3:=h.cm
 exact ⟨hc,h.tb.low (Low.uC f (by omega) (by omega)),h.sc.ou h.kw (Ou.fc f (by omega) (by omega) (by omega) (by omega)),h1,h2,h3,cF h.mw f.size⟩
theorem En.part {T:List Sp.Tb} {k cb m:Nat} {tv:Value} {c:CS} {aC:List Sp.Lv} {iv:Value} {lo hi lo' hi' : Nat} {w:World} (h:En T k cb m tv c aC iv lo hi w) (hl:lo<=lo') (hh:hi'<=hi):En T k cb m tv c aC iv lo' hi' w:=
 ⟨h.ck,h.tb,h.sc,by have:=h.Rc;omega,by have:=h.hic;omega,h.cm,h.mw⟩
theorem En.kept {T:List Sp.Tb} {k cb m:Nat} {tv:Value} {c c' : CS} {aC:List Sp.Lv} {iv:Value} {lo hi:Nat} {w w' : World} (h:En T k cb m tv c aC iv lo hi w) (hlh:lo<=hi) (f:Kept cb w w') (hc:CB cb tv c' w'):En T k cb m tv c' aC iv lo hi w':=
 h.next (aF _) (aF _) hlh (Fc.of f) hc
def sH (T:List Sp.Tb) (nd:Nd):Prop:=∀ (k cb m lo hi:Nat) (tv ev iv:Value) (c:CS) (aC:List Sp.Lv) (w:World),En T k cb m tv c aC iv lo hi w->aC.length+nd.dep<=100000->Rp w nd lo hi ev->
 Calls prog 182 #[.pointer (some ⟨cb,0,none⟩),ev,iv] w λr w'=>r = .returned (.int .i64 ((Sp.ck T nd aC 0 c).1.headD 0))/\CB cb tv (Sp.ck T nd aC 0 c).2.1 w'/\Rp w' (Sp.ck T nd aC 0 c).2.2 lo hi ev/\Fc cb lo hi w w'
def MW (T:List Sp.Tb) (nd:Nd):Prop:=∀ (k cb m lo hi:Nat) (tv sv iv:Value) (c:CS) (aC:List Sp.Lv) (w:World),En T k cb m tv c aC iv lo hi w->aC.length+nd.dep<=100000->Rp w nd lo hi sv->xR 0 cb sv->
 Calls prog 180 #[.pointer (some ⟨cb,0,none⟩),sv,iv] w λr w'=>∃ v,r = .returned v/\fB w.heap.size w' v (Sp.ck T nd aC 0 c).1.dropLast/\CB cb tv (Sp.ck T nd aC 0 c).2.1 w'/\Rp w' (Sp.ck T nd aC 0 c).2.2 lo hi sv/\Fc cb lo hi w w'
def XD (T:List Sp.Tb) (nd:Nd):Prop:=∀ (k cb m lo hi:Nat) (tv qv iv:Value) (c:CS) (aC:List Sp.Lv) (w:World),En T k cb m tv c aC iv lo hi w->aC.length+nd.dep<=100000->Rp w nd lo hi qv->
 Calls prog 141 #[.pointer (some ⟨cb,0,none⟩),qv,iv] w λr w'=>∃ v,r = .returned v/\fB w.heap.size w' v (Sp.ck T nd aC 0 c).1/\(Sp.ck T nd aC 0 c).1.length<=90000/\CB cb tv (Sp.ck T nd aC 0 c).2.1 w'/\Rp w' (Sp.ck T nd aC 0 c).2.2 lo hi qv/\Fc cb lo hi w w'
def lO (T:List Sp.Tb) (aC:List Sp.Lv):List Nd->CS->List Int×CS×List Nd
 | [],c=>([],c, [])
 | n::ns,c=>
  let r:=Sp.ck T n aC 0 c
  let q:=lO T aC ns r.2.1
  (r.1.headD 0::q.1,q.2.1,r.2.2::q.2.2)
theorem Gc (T:List Sp.Tb) (aC:List Sp.Lv):∀ (a b:List Nd) (c:CS),lO T aC (a++b) c=((lO T aC a c).1++(lO T aC b (lO T aC a c).2.1).1,(lO T aC b (lO T aC a c).2.1).2.1,(lO T aC a c).2.2++(lO T aC b (lO T aC a c).2.1).2.2)
 | [],b,c=>by simp [lO]
 | n::a,b,c=>by simp [lO,Gc T aC a b]
theorem tK (T:List Sp.Tb) (aC:List Sp.Lv):∀ (a:List Nd) (c:CS),(lO T aC a c).1.length=a.length/\(lO T aC a c).2.2.length=a.length
 | [],c=>⟨rfl,rfl⟩
 | n::a,c=>by simp [lO,tK T aC a]
theorem PX (T:List Sp.Tb) (N:Nat) (nd:Nd) (h:wf N nd .expr) (aC:List Sp.Lv) (made:Int) (c:CS):(Sp.ck T nd aC made c).1 = [(Sp.ck T nd aC made c).1.headD 0]:=by
 cases nd with
 | nil=>simp [wf] at h
 | none=>simp [wf] at h
 | cons _ _=>simp [wf] at h
 | clause _ _=>simp [wf] at h
 | arms _ _ _ _ _=>simp [wf] at h
 | comb _ _ _ _ _=>simp [wf] at h
 | sel _ _ _ _ _=>simp [wf] at h
 | const _=>rfl
 | col _ _ _ _ _ _=>rfl
 | op _ _ _=>rfl
 | b8 arms els=>cases els <;> rfl
 | within w a args q=>
  simp only [Sp.ck]
  split
  ·rfl
  ·split
   ·rfl
   ·split <;> rfl
def Sp.Nd.els:Nd->List Nd
 | .cons h t=>h::t.els
 | _ => []
theorem iT (N:Nat):∀ nd:Nd,wf N nd .list->nd=gZ nd.els .nil/\nd.els.length=nd.len/\∀ n∈nd.els,wf N n .expr
 | .nil,_=>⟨rfl,rfl,λn h=>by simp [Nd.els] at h⟩
 | .cons h t,hw=>by
  obtain ⟨_,h1,h2⟩:=hw
  obtain ⟨e1,e2,e3⟩:=iT N t h2
  refine ⟨?_,by simp [Nd.els,Nd.len,e2],λn hn=>?_⟩
  ·simp only [Nd.els,gZ,List.foldr_cons]
   congr 1
  ·simp only [Nd.els,List.mem_cons] at hn
   rcases hn with rfl | hn
   ·exact h1
   ·exact e3 n hn
 | .none,h=>by simp [wf] at h
 | .clause _ _,h=>by simp [wf] at h
 | .const _,h=>by simp [wf] at h
 | .col _ _ _ _ _ _,h=>by simp [wf] at h
 | .op _ _ _,h=>by simp [wf] at h
 | .b8 _ _,h=>by simp [wf] at h
 | .arms _ _ _ _ _,h=>by simp [wf] at h
 | .within _ _ _ _,h=>by simp [wf] at h
 | .comb _ _ _ _ _,h=>by simp [wf] at h
 | .sel _ _ _ _ _,h=>by simp [wf] at h
theorem Ad (T:List Sp.Tb) (N:Nat) (aC:List Sp.Lv):∀ (ns:List Nd) (c:CS),(∀ n∈ns,wf N n .expr)->Sp.ck T (gZ ns .nil) aC 0 c=((lO T aC ns c).1 ++ [0],(lO T aC ns c).2.1,gZ (lO T aC ns c).2.2 .nil)
 | [],c,_=>rfl
 | n::ns,c,h=>by
  have ih:=Ad T N aC ns (Sp.ck T n aC 0 c).2.1 (λx hx=>h x (by simp [hx]))
  have h1:=PX T N n (h n (by simp)) aC 0 c
  simp only [gZ,List.foldr_cons] at ih ⊢
  simp only [Sp.ck,ih,lO]
  rw [h1]
  simp
theorem B5:∀ (ns:List Nd) (n:Nd),n∈ns->n.dep<=(gZ ns .nil).dep
 | m::ns,n,h=>by
  simp only [gZ,List.foldr_cons,Nd.dep]
  simp only [List.mem_cons] at h
  rcases h with rfl | h
  ·omega
  ·have:=B5 ns n h
   simp only [gZ] at this
   omega
theorem Rp.els {w:World} : ∀ (ns:List Nd) (lo hi blk off n c:Nat),Rp w (gZ ns .nil) lo hi (.slice (some ⟨blk,off,none⟩) n c)->n=ns.length/\∃ xs,mU w blk ns xs lo hi/\∀ j u,xs[j]?=some u->w.cell? ⟨blk,off+j,none⟩=some u
 | [],lo,hi,blk,off,n,c,h=>by
  obtain ⟨h1,a,c',e⟩:=h
  injection e with e1 e2
  exact ⟨by simpa using e2, [],h1,λj u hj=>by simp at hj⟩
 | m::ns,lo,hi,blk,off,n,c,h=>by
  simp only [gZ,List.foldr_cons] at h
  obtain ⟨blk',off',n',c',v,m1,m2,e,hl,hS,hc,hn,h1,h2⟩:=h
  injection e with e1 e2 e3
  injection e1 with e1
  injection e1 with e4 e5
  subst e4 e5 e2
  obtain ⟨h3,xs,h4,h5⟩:=Rp.els ns m2 hi blk (off+1) n' c' h2
  refine ⟨by simp [h3],v::xs,⟨m1,m2,hS,hn,h1,h4⟩,λj u hj=>?_⟩
  match j,hj with
  | 0,hj=>simp at hj;subst hj;exact hc
  | j+1,hj=>rw [show off+(j+1)=off+1+j by omega];exact h5 j u (by simpa using hj)
theorem mU.upd {w:World} {g:Nat} : ∀ (a b:List Nd) (n:Nd) (xs:List Value) (lo hi:Nat),mU w g (a++n::b) xs lo hi->∃ m1 m2 x,xs[a.length]?=some x/\lo<=m1/\m1<=m2/\m2<=hi/\¬ (m1<=g/\g<m2)/\b9 x/\Rp w n m1 m2 x/\
  ∀ w' n',w.heap.size<=w'.heap.size->(∀ q,lo<=q->q<hi->q≠g->¬ (m1<=q/\q<m2)->w'.heap[q]?=w.heap[q]?)->Rp w' n' m1 m2 x->mU w' g (a++n'::b) xs lo hi
 | [],b,n, [],lo,hi,h=>h.elim
 | [],b,n,x::xs,lo,hi,h=>by
  obtain ⟨m1,m2,hS,hn,hr,ht⟩:=h
  have hS':=hS
  have hle:=ht.le
  unfold Sub at hS'
  refine ⟨m1,m2,x,rfl,by omega,by omega,by omega,by omega,hn,hr,λw' n' hs hk hr'=>⟨m1,m2,hS,hn,hr',ht.frame hs λq h1 h2 h3=>hk q (by omega) h2 h3 (by omega)⟩⟩
 | m::a,b,n, [],lo,hi,h=>h.elim
 | m::a,b,n,x::xs,lo,hi,h=>by
  obtain ⟨m1,m2,hS,hn,hr,ht⟩:=h
  obtain ⟨p1,p2,y,e,l1,l2,l3,l4,l5,l6,l7⟩:=mU.upd a b n xs m2 hi ht
  have hS':=hS
  unfold Sub at hS'
  refine ⟨p1,p2,y,by simpa using e,by omega,l2,l3,l4,l5,l6,λw' n' hs hk hr'=>⟨m1,m2,hS,hn,hr.frame hs _ _ _ _ (λq h1 h2=>hk q (by omega) (by omega) (by omega) (by omega)) (λ_ _ _ _ e=>absurd e (hn _ _ _)),l7 w' n' hs (λq h1 h2 h3 h4=>hk q (by omega) h2 h3 h4) hr'⟩⟩
end Go.Proofs.YtgnncnhkgmhngaaGreatDoor
