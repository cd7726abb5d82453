import Derived.Test.YtgnncnhkgmhngaaGreatDoorJ13
import Derived.Deep.RegionLaw
import Derived.Test.YtgnncnhkgmhngaaGreatDoorJ16
set_option maxHeartbeats 4000000
set_option maxRecDepth 100000
namespace Go.Proofs.YtgnncnhkgmhngaaGreatDoor
open Go.RowKit Go.Sort
abbrev P3:=Sp.Bs×Sp.Tb×TV
def p3v (p:P3):List Value := [.string (bz p.1), .string p.2.2.name,p.2.2.cv,p.2.2.rv]
def p3s (ps:List P3):List Value:=ps.flatMap p3v
def p3l (ps:List P3):Sp.Lv:=ps.map fun p=>(p.1,p.2.1)
theorem p3s_snoc (ps:List P3) (p:P3):p3s (ps ++ [p])=p3s ps++p3v p:=by simp [p3s]
theorem p3s_len:∀ ps:List P3,(p3s ps).length=ps.length*4
 | []=>rfl
 | p::ps=>by
  have ih:=p3s_len ps
  simp only [p3s,List.flatMap_cons,List.length_append,List.length_cons] at ih ⊢
  rw [ih];simp [p3v];omega
theorem p3s_at:∀ (ps:List P3) (i d:Nat) (h:i<ps.length) (_hd:d<4),(p3s ps)[i*4+d]?=(p3v ps[i])[d]?
 | [],i,d,h,_=>by simp at h
 | p::ps,0,d,_,hd=>by
  simp only [p3s,List.flatMap_cons,List.getElem_cons_zero,Nat.zero_mul,Nat.zero_add]
  rw [List.getElem?_append_left (by simp [p3v];omega)]
 | p::ps,i+1,d,h,hd=>by
  have ih:=p3s_at ps i d (by simpa using h) hd
  simp only [p3s,List.flatMap_cons,List.getElem_cons_succ] at ih ⊢
  rw [List.getElem?_append_right (by simp [p3v];omega),<- ih]
  congr 1
  simp [p3v];omega
theorem p3l_snoc (ps:List P3) (p:P3):p3l (ps ++ [p])=p3l ps ++ [(p.1,p.2.1)]:=by simp [p3l]
def OwS (base k:Nat) (w:World) (v:Value) (ps:List P3):Prop:=w.ownsRow base 314 4 v ps.length (p3s ps)/\∀ p∈ps,Tb1 k w p.2.1 p.2.2
theorem OwS.svs {base k m:Nat} {w:World} {v:Value} {ps:List P3} (h:OwS base k w v ps) (hb:m<=base) (hl:ps.length<=1100):Svs k m w (p3l ps) v:=by
 refine ⟨by simpa [p3l] using hl,?_⟩
 obtain ⟨h1,h2⟩:=h
 have hlt:=ownsV_block h1
 obtain ⟨hn,h | ⟨g,cap,cur,hv,h0,hb',r1,r2,r3,r4⟩⟩:=h1
 ·left
  have:ps = []:=List.eq_nil_of_length_eq_zero h.2
  subst this
  exact ⟨rfl,h.1⟩
 ·right
  refine ⟨g,cap,by rw [hv];simp [p3l],by omega,(hlt g (by rw [hv];rfl)).2,fun i hi=>?_⟩
  have hi' : i<ps.length:=by simpa [p3l] using hi
  have hc:∀ d v,d<4->(p3v ps[i])[d]?=some v->w.cell? ⟨g,i*4+d,none⟩=some v:=fun d v hd e=>by
   rw [<- p3s_at ps i d hi' hd,<- r4,List.getElem?_take_of_lt (by omega)] at e
   simp [World.cell?,hb']
   simpa using e
  have e1:(p3l ps)[i]=(ps[i].1,ps[i].2.1):=by simp [p3l]
  rw [e1]
  exact ⟨ps[i].2.2,hc 0 _ (by omega) rfl,hc 1 _ (by omega) rfl,hc 2 _ (by omega) rfl,hc 3 _ (by omega) rfl,h2 _ (List.getElem_mem hi')⟩
theorem OwS.same {base k:Nat} {w w' : World} {v:Value} {ps:List P3} (h:OwS base k w v ps) (hk:k<=w.heap.size) (g:Low k w w') (hb:∀ b,v.ownBlock=some b->w'.heap[b]?=w.heap[b]?):OwS base k w' v ps:=by
 refine ⟨?_,fun p hp=>(h.2 p hp).low hk g⟩
 obtain ⟨hl,h | ⟨g',cap,cur,hv,h0,hb',r⟩⟩:=h.1
 ·exact ⟨hl, .inl h⟩
 ·subst hv;exact ⟨hl, .inr ⟨g',cap,cur,rfl,h0,(hb g' rfl).trans hb',r⟩⟩
theorem OwS.below {base k:Nat} {w w' : World} {v:Value} {ps:List P3} (h:OwS base k w v ps) (hk:k<=w.heap.size) (g:Below w.heap.size w w'):OwS base k w' v ps:=
 h.same hk (Ou.low (m:=0) (Ou.below g)) fun b e=>g.block b (ownsV_block h.1 b e).2
theorem OwS.kept {base k cb:Nat} {w w' : World} {v:Value} {ps:List P3} (h:OwS base k w v ps) (hk:k<=w.heap.size) (g:Kept cb w w') (h1:k<=cb) (h2:cb<base):OwS base k w' v ps:=
 h.same hk (Low.of_kept g h1) fun b e=>g.block b (ownsV_block h.1 b e).2 (by have:=(ownsV_block h.1 b e).1;omega)
theorem OwS.sl {base k:Nat} {w:World} {v:Value} {ps:List P3} (h:OwS base k w v ps):∃ a c,v = .slice a ps.length c:=by
 obtain ⟨hl,h | ⟨g',cap,cur,hv,_⟩⟩:=h.1
 ·exact ⟨none,0,by rw [h.1,h.2]⟩
 ·exact ⟨_,_,hv⟩
theorem fromC_cons (T:List Sp.Tb) (t k:Sp.Nm) (r:List (Sp.Nm×Sp.Nm)) (lv:Sp.Lv) (c:Sp.CS) :
  Sp.fromC T ((t,k)::r) lv c=Sp.fromC T r (lv ++ [(k.1,(Sp.tableC T t c).1)]) (if lv.any (fun x=>x.1 == k.1) then (Sp.tableC T t c).2.fail 4 k.2 else (Sp.tableC T t c).2):=by
 rw [Sp.fromC]
 simp only [Sp.tableC]
 cases Sp.findTb t.1 T <;> rfl
theorem Srcs.at_ {w:World} {blk:Nat} : ∀ (l:List (Sp.Nm×Sp.Nm)) (off i:Nat) (h:i<l.length),Srcs w blk off l->w.cell? ⟨blk,off+i*4,none⟩=some (.string (bz l[i].1.1))/\w.cell? ⟨blk,off+i*4+1,none⟩=some (.int .i64 (l[i].1.2:Nat))/\w.cell? ⟨blk,off+i*4+2,none⟩=some (.string (bz l[i].2.1))/\w.cell? ⟨blk,off+i*4+3,none⟩=some (.int .i64 (l[i].2.2:Nat))
 | [],_,i,h,_=>by simp at h
 | ((tw,ta),(cw,ca))::r,off,0,_,hs=>by obtain ⟨h1,h2,h3,h4,_⟩:=hs;simpa using ⟨h1,h2,h3,h4⟩
 | ((tw,ta),(cw,ca))::r,off,i+1,h,hs=>by
  obtain ⟨_,_,_,_,h5⟩:=hs
  have:=Srcs.at_ r (off+4) i (by simpa using h) h5
  rw [show off+(i+1)*4=off+4+i*4 by omega]
  simpa using this
theorem infoCS:(Tryz.prog.info? 314).map (fun i=>(i.zero,i.size,i.bytes))=some (some (.agg #[.string ⟨#[]⟩, .string ⟨#[]⟩, .slice none 0 0, .slice none 0 0]),4,80):=by kernel_rfl
def SrV (w:World) (src:List (Sp.Nm×Sp.Nm)) (v:Value):Prop:=(src = []/\v = .slice none 0 0)\/∃ blk c,v = .slice (some ⟨blk,0,none⟩) src.length c/\blk<w.heap.size/\Srcs w blk 0 src
theorem Bk.set0 {w:World} {q:Nat} {x y:Value} (h:Bk w q [x,y]) (x' : Value):Bk (w.setCell ⟨q,0,none⟩ x') q [x',y]:=by
 have c0:=h.k0
 have c1:=h.k1
 have lt:=h.lt
 have F:Hid (∀ j,w.frozen? ⟨q,j,none⟩=false):=h.f
 refine ⟨by simpa [World.setCell] using lt,fun j hj=>?_,fun j=>by have:=F.out j;go_simp⟩
 match j,hj with
 | 0,_=>simp only [List.getElem_cons_zero];go_simp
 | 1,_=>simp only [List.getElem_cons_succ,List.getElem_cons_zero];go_simp
theorem from_next {cb k b0 L g' kc' vc:Nat} {va:Option Addr} {tv iv:Value} {c:Sp.CS} {w w4 w5:World} {ps:List P3} {cw:Sp.Bs} {t:Sp.Tb} {tn:ByteArray} {tca tra:Option Addr} {tcl tcc trl trc:Nat} (hb0:b0=w.heap.size) (hL:L=ps.length) (HO:OwS (b0+1) k w4 (.slice va L vc) ps) (HB:Bk w4 b0 [.slice va L vc,iv]) (HC:CB cb tv c w4) (HT:Tb1 k w4 t ⟨tn,tca,tcl,tcc,tra,trl,trc⟩) (HK:Kept cb w w4)
  (hk:k<=w.heap.size) (hcb:cb<w.heap.size)
  (hown:w5.ownsRow (b0+1) 314 4 (.slice (some ⟨g',0,none⟩) (L+1) kc') (L+1) (p3s ps ++ [.string (bz cw), .string tn, .slice tca tcl tcc, .slice tra trl trc]))
  (hgrow:(w4.drew.alloc (.cells #[.string (bz cw), .string tn, .slice tca tcl tcc, .slice tra trl trc] 314)).grownBy w5 (Value.slice va L vc).ownBlock) :
  CB cb tv c (w5.setCell ⟨b0,0,none⟩ (.slice (some ⟨g',0,none⟩) (L+1) kc'))/\Bk (w5.setCell ⟨b0,0,none⟩ (.slice (some ⟨g',0,none⟩) (L+1) kc')) b0 [.slice (some ⟨g',0,none⟩) (L+1) kc',iv]/\OwS (b0+1) k (w5.setCell ⟨b0,0,none⟩ (.slice (some ⟨g',0,none⟩) (L+1) kc')) (.slice (some ⟨g',0,none⟩) (L+1) kc') (ps ++ [(cw,t,⟨tn,tca,tcl,tcc,tra,trl,trc⟩)])/\Kept cb w (w5.setCell ⟨b0,0,none⟩ (.slice (some ⟨g',0,none⟩) (L+1) kc')):=by
 subst hb0
 have hz:w4.heap.size<=w5.heap.size:=Nat.le_trans (by simp) hgrow.size
 have hbl:∀ q,q<=w.heap.size->w5.heap[q]?=w4.heap[q]?:=fun q hq=>by
  have hq4:q<w4.heap.size:=by have:=HB.lt;omega
  refine (hgrow.block q (by simp;omega) (fun e=>?_)).trans (Below.heap_alloc w4.drew _ q hq4)
  have:=(ownsV_block HO.1 q e.symm).1
  omega
 have hst:∀ q,q≠w.heap.size->(w5.setCell ⟨w.heap.size,0,none⟩ (.slice (some ⟨g',0,none⟩) (L+1) kc')).heap[q]?=w5.heap[q]?:=fun q hq=>Below.heap_setCell _ _ _ _ hq
 have hs6:(w5.setCell ⟨w.heap.size,0,none⟩ (.slice (some ⟨g',0,none⟩) (L+1) kc')).heap.size=w5.heap.size:=by simp [World.setCell]
 have hlow:Low k w4 (w5.setCell ⟨w.heap.size,0,none⟩ (.slice (some ⟨g',0,none⟩) (L+1) kc')):=⟨by omega,fun q hq _=>(hst q (by omega)).trans (hbl q (by omega))⟩
 have hk4:k<=w4.heap.size:=Nat.le_trans hk HK.size
 have hg':=ownsV_block hown g' rfl
 refine ⟨HC.same (by omega) ((hst cb (by omega)).trans (hbl cb (by omega))),(HB.same hz (hbl _ (Nat.le_refl _))).set0 _,⟨?_,fun p hp=>?_⟩,?_⟩
 ·rw [p3s_snoc,List.length_append,List.length_singleton,<- hL]
  exact owns_same hown (hst g' (by omega))
 ·rw [List.mem_append,List.mem_singleton] at hp
  rcases hp with hp | rfl
  ·exact (HO.2 p hp).low hk4 hlow
  ·exact HT.low hk4 hlow
 ·exact ⟨hgrow.os.trans HK.os,hgrow.tape.trans HK.tape,hgrow.output.trans HK.output,by have:=HK.size;omega,fun q hq hc=>(hst q (by omega)).trans ((hbl q (by omega)).trans (HK.block q hq hc))⟩
theorem from_any {cb k m:Nat} {tv:Value} {c:Sp.CS} {T:List Sp.Tb} {w:World} {src:List (Sp.Nm×Sp.Nm)} {fv iv:Value} {lvs:List Sp.Lv} (h:CB cb tv c w) (ht:Tbs k w T tv) (hs:Scp k m w lvs iv) (hsrc:SrV w src fv) (hfb:SIn 0 cb fv) (hsl:src.length<=1100) (hkc:k<=cb) (hcm:cb<m) (hm:m<=w.heap.size) :
  Calls Tryz.prog 227 #[.pointer (some ⟨cb,0,none⟩),fv,iv] w fun e w'=>∃ v,e = .returned v/\Scp k m w' ((Sp.fromC T src [] c).1::lvs) v/\CB cb tv ((Sp.fromC T src [] c).2.note ((Sp.fromC T src [] c).1::lvs)) w'/\Kept cb w w':=by
 obtain ⟨i0,ji,jz0,jz1,jz2⟩:=info_parts infoCS
 have HH:=hid h
 have HT:=hid ht
 have HS:=hid hs
 have HF:=hid hsrc
 obtain ⟨ia,rfl⟩:=hs.ptr
 have hkw' : Hid (k<=w.heap.size):=ht.2.1
 have hcw:=h.lt
 obtain ⟨fa,fc,rfl⟩:∃ a c,fv = .slice a src.length c:=by
  rcases hsrc with ⟨rfl,rfl⟩ | ⟨_,_,e,_⟩
  ·exact ⟨_,_,rfl⟩
  ·exact ⟨_,_,e⟩
 have HFB:=hid hfb
 obtain ⟨N,hN⟩:∃ N,N=src.length:=⟨_,rfl⟩
 have HN:=hid hN
 rw [<- hN] at hsl ⊢
 clear h ht hs hsrc hfb hN
 go_enter Tryz.func227,Tryz.ntmps227
 go_wp2_with fail
 go_loopw [16] (fun i wr=>∃ (j:Nat) (ps:List P3) (c' : Sp.CS) (v:Value),j<=N/\i = .int .i64 (j:Nat)/\Hid (ps.length=j)/\Hid (Sp.fromC T src [] c=Sp.fromC T (src.drop j) (p3l ps) c')/\Hid (CB cb tv c' wr)/\Hid (Bk wr w.heap.size [v, .pointer ia])/\Hid (OwS (w.heap.size+1) k wr v ps)/\Hid (Kept cb w wr)) (fun i _=>N - (intOf i).toNat)
 case atStart=>exact ⟨0, [],c, .slice none 0 0,Nat.zero_le _,rfl,rfl,rfl,HH.out.alloc _,Bk.new w #[.slice none 0 0, .pointer ia] _,⟨World.ownsRow_nil _ _ _ _,fun p hp=>by simp at hp⟩,(Kept.refl cb w).alloc _⟩
 case round=>
  obtain ⟨j,ps,c',v,hj,rfl,HPL,HP,HC,HB,HO,HK⟩:=hrel
  have hkr:Hid (k<=wr.heap.size):=Nat.le_trans hkw'.out HK.out.size
  have hcr:=HC.out.lt
  have hsr:=HB.out.lt
  by_cases hlt:j<N
  ·have hjz:j<src.length:=by have:=HN.out;omega
   obtain ⟨fb,rfl,hfl,hfs⟩:∃ fb,fa=some ⟨fb,0,none⟩/\fb<w.heap.size/\Srcs w fb 0 src:=by
    rcases HF.out with ⟨e,_⟩ | ⟨fb,fo,e,h1,h2⟩
    ·rw [e] at hjz;simp at hjz
    ·injection e with e;exact ⟨fb,e,h1,h2⟩
   have hfc:fb<cb:=(HFB.out fb 0 _ _ rfl).2
   obtain ⟨d0,d1,d2,d3⟩:=hfs.at_ src 0 j hjz
   rw [Nat.zero_add] at d0 d1 d2 d3
   have e0:=(HK.out.cell (p:=⟨fb,_,none⟩) hfl (by show fb≠cb;omega)).trans d0
   have e1:=(HK.out.cell (p:=⟨fb,_,none⟩) hfl (by show fb≠cb;omega)).trans d1
   have e2:=(HK.out.cell (p:=⟨fb,_,none⟩) hfl (by show fb≠cb;omega)).trans d2
   have e3:=(HK.out.cell (p:=⟨fb,_,none⟩) hfl (by show fb≠cb;omega)).trans d3
   clear d0 d1 d2 d3 hfs
   have HPn:Hid (Sp.fromC T src [] c=Sp.fromC T (src.drop (j+1)) (p3l ps ++ [(src[j].2.1,(Sp.tableC T src[j].1 c').1)]) (if (p3l ps).any (fun x=>x.1 == src[j].2.1) then (Sp.tableC T src[j].1 c').2.fail 4 src[j].2.2 else (Sp.tableC T src[j].1 c').2)):=by
    show _=_
    rw [HP.out,List.drop_eq_getElem_cons hjz]
    exact fromC_cons T src[j].1 src[j].2 _ _ _
   obtain ⟨⟨⟨tw,ta⟩,⟨cw,ca⟩⟩,hsj⟩:∃ x,x=src[j]:=⟨_,rfl⟩
   rw [<- hsj] at e0 e1 e2 e3 HPn
   clear hsj HP
   simp only [] at e0 e1 e2 e3
   have HT1:Hid (Tbs k (wr.alloc (.cells #[.string (bz tw), .int .i64 (ta:Nat), .string (bz cw), .int .i64 (ca:Nat)] 337)) T tv):=(HT.out.low (Low.of_kept HK.out hkc)).low (Low.of_gr ((Gr.refl _).alloc _))
   go_wp2_with fail
   refine (ctable_any (HC.out.alloc _) HT1.out (tw,ta)).mono ?_
   rintro e w2 ⟨tv2,rfl,hT2,hC2,hK2⟩
   have HK2:Hid (Kept cb wr w2):=((Kept.refl cb wr).alloc _).trans hK2
   have HX:Hid (Bk w2 wr.heap.size [.string (bz tw), .int .i64 (ta:Nat), .string (bz cw), .int .i64 (ca:Nat)]):=(Bk.new wr #[.string (bz tw), .int .i64 (ta:Nat), .string (bz cw), .int .i64 (ca:Nat)] 337).kept hK2 (by omega)
   have HC2:=hid hC2
   have HT2:=hid hT2
   have HB2:Hid (Bk w2 w.heap.size [v, .pointer ia]):=HB.out.kept HK2.out (by omega)
   have HO2:Hid (OwS (w.heap.size+1) k w2 v ps):=HO.out.kept hkr.out HK2.out hkc (by omega)
   have hz2:=HK2.out.size
   obtain ⟨tn,tca,tcl,tcc,tra,trl,trc⟩:=tv2
   have x0:=HX.out.k0
   have x1:=HX.out.k1
   have x2:=HX.out.k2
   have x3:=HX.out.k3
   have xl:=HX.out.lt
   clear hT2 hC2 hK2 e0 e1 e2 e3 HT1 HB HO HC
   go_wp2_with fail
   have G3:Hid (Gr w2 (w2.alloc (.cells #[.string tn, .slice tca tcl tcc, .slice tra trl trc] 187))):=(Gr.refl w2).alloc _
   have hk2:Hid (k<=w2.heap.size):=Nat.le_trans hkr.out hz2
   refine (shas_any k m w.heap.size (p3l ps) v (bz cw) _ (Nat.le_trans hk2.out G3.out.size) (Nat.lt_of_lt_of_le HB2.out.lt G3.out.size) ((G3.out.cell (p:=⟨w.heap.size,0,none⟩) HB2.out.lt).trans (HB2.out.c 0 (by simp))) ((HO2.out.below hk2.out G3.out.below).svs (by omega) (by have:=HPL.out;omega))).mono ?_
   rintro e w3 ⟨rfl,g3⟩
   rw [bz_list]
   have G4:Hid (Gr w2 w3):=G3.out.trans g3
   have HY:Hid (B3 w3 w2.heap.size (.string tn) (.slice tca tcl tcc) (.slice tra trl trc)):=(B3.new w2 _ _ _ _).gr g3
   have hz3:=G4.out.size
   have y2:=(G4.out.cell (p:=⟨wr.heap.size,2,none⟩) xl).trans x2
   have y3:=(G4.out.cell (p:=⟨wr.heap.size,3,none⟩) xl).trans x3
   clear g3 x0 x1 x2 x3 G3
   cases hany:(p3l ps).any (fun x=>x.1 == cw)
   ·have HE:Hid ((if (p3l ps).any (fun x=>x.1 == cw) then (Sp.tableC T (tw,ta) c').2.fail 4 ca else (Sp.tableC T (tw,ta) c').2)=(Sp.tableC T (tw,ta) c').2):=by show _=_;rw [hany];rfl
    have HC4:Hid (CB cb tv (Sp.tableC T (tw,ta) c').2 w3):=HC2.out.gr G4.out
    have HB4:Hid (Bk w3 w.heap.size [v, .pointer ia]):=HB2.out.below G4.out.below
    have HO4:Hid (OwS (w.heap.size+1) k w3 v ps):=HO2.out.below hk2.out G4.out.below
    have HT4:Hid (Tb1 k w3 (Sp.tableC T (tw,ta) c').1 ⟨tn,tca,tcl,tcc,tra,trl,trc⟩):=HT2.out.low hk2.out (Low.of_gr G4.out)
    have HY4:=HY
    have HK4:Hid (Kept cb w w3):=(HK.out.trans HK2.out).trans (Kept.gr G4.out)
    have hz4:w3.heap.size<=w3.heap.size:=Nat.le_refl _
    clear HC2 HB2 HO2 HT2
    go_wp2_with fail
    clear y3
    obtain ⟨va,vc,hv⟩:=HO4.out.sl
    obtain ⟨L,hL⟩:∃ L,L=ps.length:=⟨_,rfl⟩
    rw [<- hL] at hv
    subst hv
    have HLj:Hid (L=j):=by have:=HPL.out;show _=_;omega
    have hLb:L<=1100:=by have:=HLj.out;omega
    have s0:=HB4.out.k0
    have f0:=HB4.out.f 0
    have sl:=HB4.out.lt
    obtain ⟨zl,z0,z1,z2,z3,z4,z5⟩:=HY4.out
    have hO4:w3.ownsRow (w.heap.size+1) 314 4 (.slice va L vc) L (p3s ps):=by have h:=HO4.out.1;rw [<- hL] at h;exact h
    have hO5:(w3.drew.alloc (.cells #[.string (bz cw), .string tn, .slice tca tcl tcc, .slice tra trl trc] 314)).ownsRow (w.heap.size+1) 314 4 (.slice va L vc) L (p3s ps):=ownsV_below hO4 (((Below.refl _ w3).drew).alloc (Nat.le_refl _) _)
    have HNE:Hid (∀ b,(Value.slice va L vc).ownBlock=some b->w.heap.size+1<=b):=fun b e=>(ownsV_block hO4 b e).1
    clear hL
    go_region_law (refine step_append_lies _ (by rfl) _ _ _ (by rfl) (w.heap.size+1) 314 i0 (.agg #[.string ⟨#[]⟩, .string ⟨#[]⟩, .slice none 0 0, .slice none 0 0]) 4 80 Tryz.underlying315 ji jz0 jz1 jz2 rfl (by omega) (.slice va L vc) L (p3s ps) (by rfl) hO5 ⟨w3.heap.size,0,none⟩ 1 1 [.string (bz cw), .string tn, .slice tca tcl tcc, .slice tra trl trc] (by rfl) (by rfl) (World.news_of_block (cs:=#[.string (bz cw), .string tn, .slice tca tcl tcc, .slice tra trl trc]) (t:=314) (fr:=(0,0)) (heap_alloc_new w3.drew _)) (by intro u hu;simp at hu;rcases hu with rfl | rfl | rfl | rfl <;> rfl) (by omega) (by unfold maxLen;omega) (by omega) (by simp;omega) (w3.heap.size+1) (by simp) ?_;intro g' kc' w5 hown hgrow hat hlt';have s1:=(World.cell?_of_block (w:=w3.drew.alloc (.cells #[.string (bz cw), .string tn, .slice tca tcl tcc, .slice tra trl trc] 314)) (a:=⟨w.heap.size,0,none⟩) (hgrow.block w.heap.size (by simp;omega) (fun ee=>by have:=HNE.out _ ee.symm;omega))).trans (((Gr.refl w3).drew.alloc _ |>.cell (p:=⟨w.heap.size,0,none⟩) sl).trans s0);have f1:=(World.frozen?_of_block (w:=w3.drew.alloc (.cells #[.string (bz cw), .string tn, .slice tca tcl tcc, .slice tra trl trc] 314)) (a:=⟨w.heap.size,0,none⟩) (hgrow.block w.heap.size (by simp;omega) (fun ee=>by have:=HNE.out _ ee.symm;omega))).trans (((Gr.refl w3).drew.alloc _ |>.frozen (p:=⟨w.heap.size,0,none⟩) sl).trans f0))
    all_goals
     have HX5:Hid (CB cb tv (Sp.tableC T (tw,ta) c').2 (w5.setCell ⟨w.heap.size,0,none⟩ (.slice (some ⟨g',0,none⟩) (L+1) kc'))/\Bk (w5.setCell ⟨w.heap.size,0,none⟩ (.slice (some ⟨g',0,none⟩) (L+1) kc')) w.heap.size [.slice (some ⟨g',0,none⟩) (L+1) kc', .pointer ia]/\OwS (w.heap.size+1) k (w5.setCell ⟨w.heap.size,0,none⟩ (.slice (some ⟨g',0,none⟩) (L+1) kc')) (.slice (some ⟨g',0,none⟩) (L+1) kc') (ps ++ [(cw,(Sp.tableC T (tw,ta) c').1,⟨tn,tca,tcl,tcc,tra,trl,trc⟩)])/\Kept cb w (w5.setCell ⟨w.heap.size,0,none⟩ (.slice (some ⟨g',0,none⟩) (L+1) kc'))):=from_next rfl (HLj.out.trans HPL.out.symm) HO4.out HB4.out HC4.out HT4.out HK4.out hkw'.out hcw hown hgrow
     clear hown hgrow s0 f0 s1 f1 z0 z1 z2 z3 z4 z5 hO4 hO5 hat
     go_wp2_with fail
     go_roundw
     case rel=>exact ⟨j+1,_,_,_,by omega,by go_num,by show _=_;rw [List.length_append,HPL.out];rfl,by show _=_;rw [HPn.out,p3l_snoc,HE.out],HX5.out.1,HX5.out.2.1,HX5.out.2.2.1,HX5.out.2.2.2⟩
     case measure=>simp [intOf];omega
   ·have HE:Hid ((if (p3l ps).any (fun x=>x.1 == cw) then (Sp.tableC T (tw,ta) c').2.fail 4 ca else (Sp.tableC T (tw,ta) c').2)=(Sp.tableC T (tw,ta) c').2.fail 4 ca):=by show _=_;rw [hany];rfl
    go_wp2_with fail
    refine (cfail_any (HC2.out.gr G4.out) 4 ca).mono ?_
    rintro e w4 ⟨rfl,h4,k4⟩
    have HC4:=hid h4
    have HB4:Hid (Bk w4 w.heap.size [v, .pointer ia]):=(HB2.out.below G4.out.below).kept k4 (by omega)
    have HO4:Hid (OwS (w.heap.size+1) k w4 v ps):=(HO2.out.below hk2.out G4.out.below).kept (Nat.le_trans hk2.out hz3) k4 hkc (by omega)
    have HT4:Hid (Tb1 k w4 (Sp.tableC T (tw,ta) c').1 ⟨tn,tca,tcl,tcc,tra,trl,trc⟩):=(HT2.out.low hk2.out (Low.of_gr G4.out)).low (Nat.le_trans hk2.out hz3) (Low.of_kept k4 hkc)
    have HY4:Hid (B3 w4 w2.heap.size (.string tn) (.slice tca tcl tcc) (.slice tra trl trc)):=HY.out.keptB k4 (by omega)
    have HK4:Hid (Kept cb w w4):=((HK.out.trans HK2.out).trans (Kept.gr G4.out)).trans k4
    have hz4:=k4.size
    have y2':=(k4.cell (p:=⟨wr.heap.size,2,none⟩) (by show wr.heap.size<_;omega) (by show wr.heap.size≠cb;omega)).trans y2
    clear HC2 HB2 HO2 HT2 HY h4 k4 y2 y3
    go_wp2_with fail
    obtain ⟨va,vc,hv⟩:=HO4.out.sl
    obtain ⟨L,hL⟩:∃ L,L=ps.length:=⟨_,rfl⟩
    rw [<- hL] at hv
    subst hv
    have HLj:Hid (L=j):=by have:=HPL.out;show _=_;omega
    have hLb:L<=1100:=by have:=HLj.out;omega
    have s0:=HB4.out.k0
    have f0:=HB4.out.f 0
    have sl:=HB4.out.lt
    obtain ⟨zl,z0,z1,z2,z3,z4,z5⟩:=HY4.out
    have hO4:w4.ownsRow (w.heap.size+1) 314 4 (.slice va L vc) L (p3s ps):=by have h:=HO4.out.1;rw [<- hL] at h;exact h
    have hO5:(w4.drew.alloc (.cells #[.string (bz cw), .string tn, .slice tca tcl tcc, .slice tra trl trc] 314)).ownsRow (w.heap.size+1) 314 4 (.slice va L vc) L (p3s ps):=ownsV_below hO4 (((Below.refl _ w4).drew).alloc (Nat.le_refl _) _)
    have HNE:Hid (∀ b,(Value.slice va L vc).ownBlock=some b->w.heap.size+1<=b):=fun b e=>(ownsV_block hO4 b e).1
    clear hL
    go_region_law (refine step_append_lies _ (by rfl) _ _ _ (by rfl) (w.heap.size+1) 314 i0 (.agg #[.string ⟨#[]⟩, .string ⟨#[]⟩, .slice none 0 0, .slice none 0 0]) 4 80 Tryz.underlying315 ji jz0 jz1 jz2 rfl (by omega) (.slice va L vc) L (p3s ps) (by rfl) hO5 ⟨w4.heap.size,0,none⟩ 1 1 [.string (bz cw), .string tn, .slice tca tcl tcc, .slice tra trl trc] (by rfl) (by rfl) (World.news_of_block (cs:=#[.string (bz cw), .string tn, .slice tca tcl tcc, .slice tra trl trc]) (t:=314) (fr:=(0,0)) (heap_alloc_new w4.drew _)) (by intro u hu;simp at hu;rcases hu with rfl | rfl | rfl | rfl <;> rfl) (by omega) (by unfold maxLen;omega) (by omega) (by simp;omega) (w4.heap.size+1) (by simp) ?_;intro g' kc' w5 hown hgrow hat hlt';have s1:=(World.cell?_of_block (w:=w4.drew.alloc (.cells #[.string (bz cw), .string tn, .slice tca tcl tcc, .slice tra trl trc] 314)) (a:=⟨w.heap.size,0,none⟩) (hgrow.block w.heap.size (by simp;omega) (fun ee=>by have:=HNE.out _ ee.symm;omega))).trans (((Gr.refl w4).drew.alloc _ |>.cell (p:=⟨w.heap.size,0,none⟩) sl).trans s0);have f1:=(World.frozen?_of_block (w:=w4.drew.alloc (.cells #[.string (bz cw), .string tn, .slice tca tcl tcc, .slice tra trl trc] 314)) (a:=⟨w.heap.size,0,none⟩) (hgrow.block w.heap.size (by simp;omega) (fun ee=>by have:=HNE.out _ ee.symm;omega))).trans (((Gr.refl w4).drew.alloc _ |>.frozen (p:=⟨w.heap.size,0,none⟩) sl).trans f0))
    all_goals
     have HX5:Hid (CB cb tv ((Sp.tableC T (tw,ta) c').2.fail 4 ca) (w5.setCell ⟨w.heap.size,0,none⟩ (.slice (some ⟨g',0,none⟩) (L+1) kc'))/\Bk (w5.setCell ⟨w.heap.size,0,none⟩ (.slice (some ⟨g',0,none⟩) (L+1) kc')) w.heap.size [.slice (some ⟨g',0,none⟩) (L+1) kc', .pointer ia]/\OwS (w.heap.size+1) k (w5.setCell ⟨w.heap.size,0,none⟩ (.slice (some ⟨g',0,none⟩) (L+1) kc')) (.slice (some ⟨g',0,none⟩) (L+1) kc') (ps ++ [(cw,(Sp.tableC T (tw,ta) c').1,⟨tn,tca,tcl,tcc,tra,trl,trc⟩)])/\Kept cb w (w5.setCell ⟨w.heap.size,0,none⟩ (.slice (some ⟨g',0,none⟩) (L+1) kc'))):=from_next rfl (HLj.out.trans HPL.out.symm) HO4.out HB4.out HC4.out HT4.out HK4.out hkw'.out hcw hown hgrow
     clear hown hgrow s0 f0 s1 f1 z0 z1 z2 z3 z4 z5 hO4 hO5 hat
     go_wp2_with fail
     go_roundw
     case rel=>exact ⟨j+1,_,_,_,by omega,by go_num,by show _=_;rw [List.length_append,HPL.out];rfl,by show _=_;rw [HPn.out,p3l_snoc,HE.out],HX5.out.1,HX5.out.2.1,HX5.out.2.2.1,HX5.out.2.2.2⟩
     case measure=>simp [intOf];omega
  ·have HE:Hid (Sp.fromC T src [] c=(p3l ps,c')):=by show _=_;rw [HP.out,List.drop_of_length_le (by have:=HN.out;omega)];rfl
   have hsc:Scp k m wr (p3l ps::lvs) (.pointer (some ⟨w.heap.size,0,none⟩)):=⟨w.heap.size,v, .pointer ia,rfl,hm,hsr,HB.out.c 0 (by simp),HB.out.c 1 (by simp),HO.out.svs (by omega) (by have:=HPL.out;omega),HS.out.ou hkw'.out (Ou.kept HK.out hkc hcm)⟩
   have HNM:Hid (Calls Tryz.prog 262 #[.pointer (some ⟨cb,0,none⟩), .pointer (some ⟨w.heap.size,0,none⟩)] wr fun r w'=>r = .returned (.tuple #[])/\CB cb tv (c'.note (p3l ps::lvs)) w'/\Kept cb wr w'):=noteMuch_any HC.out hkr.out hsc
   have HSC:=hid hsc
   clear hsc
   go_wp2_with fail
   refine HNM.out.mono ?_
   rintro e w2 ⟨rfl,h2,k2⟩
   have H2:Hid (CB cb tv (c'.note (p3l ps::lvs)) w2/\Kept cb w w2/\Scp k m w2 (p3l ps::lvs) (.pointer (some ⟨w.heap.size,0,none⟩))):=⟨h2,HK.out.trans k2,HSC.out.ou hkr.out (Ou.kept k2 hkc hcm)⟩
   clear h2 k2 HNM
   go_wp2_with fail
   go_ret
   rw [HE.out]
   exact ⟨_,rfl,H2.out.2.2,H2.out.1,H2.out.2.1⟩
def Sp.Nd.dep:Sp.Nd->Nat
 | .cons h t=>max h.dep t.dep
 | .clause _ e=>e.dep
 | .op _ _ a=>a.dep
 | .kase a e=>max a.dep e.dep
 | .arms _ w _ t r=>max w.dep (max t.dep r.dep)
 | .within _ _ a q=>max a.dep q.dep
 | .comb _ _ _ x y=>max x.dep y.dep
 | .sel _ _ e _ w=>1+max e.dep w.dep
 | _=>0
structure En (T:List Sp.Tb) (k cb m:Nat) (tv:Value) (c:Sp.CS) (lvs:List Sp.Lv) (iv:Value) (lo hi:Nat) (w:World):Prop where
 ck:CB cb tv c w
 tb:Tbs k w T tv
 sc:Scp k m w lvs iv
 klo:k<=lo
 hic:hi<=cb
 cm:cb<m
 mw:m<=w.heap.size
theorem En.kw {T:List Sp.Tb} {k cb m:Nat} {tv:Value} {c:Sp.CS} {lvs:List Sp.Lv} {iv:Value} {lo hi:Nat} {w:World} (h:En T k cb m tv c lvs iv lo hi w):k<=w.heap.size:=h.tb.2.1
theorem En.next {T:List Sp.Tb} {k cb m:Nat} {tv:Value} {c c' : Sp.CS} {lvs:List Sp.Lv} {iv:Value} {lo hi lo' hi' : Nat} {w w' : World} (h:En T k cb m tv c lvs iv lo hi w) (hl:lo<=lo') (hh:hi'<=hi) (hle:lo'<=hi') (f:Fc cb lo' hi' w w') (hc:CB cb tv c' w'):En T k cb m tv c' lvs iv lo hi w':=by
 have h1:=h.klo
 have h2:=h.hic
 have h3:=h.cm
 exact ⟨hc,h.tb.low (Low.of_fc f (by omega) (by omega)),h.sc.ou h.kw (Ou.fc f (by omega) (by omega) (by omega) (by omega)),h1,h2,h3,Nat.le_trans h.mw f.size⟩
theorem En.part {T:List Sp.Tb} {k cb m:Nat} {tv:Value} {c:Sp.CS} {lvs:List Sp.Lv} {iv:Value} {lo hi lo' hi' : Nat} {w:World} (h:En T k cb m tv c lvs iv lo hi w) (hl:lo<=lo') (hh:hi'<=hi):En T k cb m tv c lvs iv lo' hi' w:=
 ⟨h.ck,h.tb,h.sc,by have:=h.klo;omega,by have:=h.hic;omega,h.cm,h.mw⟩
theorem En.kept {T:List Sp.Tb} {k cb m:Nat} {tv:Value} {c c' : Sp.CS} {lvs:List Sp.Lv} {iv:Value} {lo hi:Nat} {w w' : World} (h:En T k cb m tv c lvs iv lo hi w) (hlh:lo<=hi) (f:Kept cb w w') (hc:CB cb tv c' w'):En T k cb m tv c' lvs iv lo hi w':=
 h.next (Nat.le_refl _) (Nat.le_refl _) hlh (Fc.of f) hc
def ExC (T:List Sp.Tb) (nd:Sp.Nd):Prop:=∀ (k cb m lo hi:Nat) (tv ev iv:Value) (c:Sp.CS) (lvs:List Sp.Lv) (w:World),En T k cb m tv c lvs iv lo hi w->lvs.length+nd.dep<=100000->Rp w nd lo hi ev->
 Calls Tryz.prog 182 #[.pointer (some ⟨cb,0,none⟩),ev,iv] w fun r w'=>r = .returned (.int .i64 ((Sp.ck T nd lvs 0 c).1.headD 0))/\CB cb tv (Sp.ck T nd lvs 0 c).2.1 w'/\Rp w' (Sp.ck T nd lvs 0 c).2.2 lo hi ev/\Fc cb lo hi w w'
def ExsC (T:List Sp.Tb) (nd:Sp.Nd):Prop:=∀ (k cb m lo hi:Nat) (tv sv iv:Value) (c:Sp.CS) (lvs:List Sp.Lv) (w:World),En T k cb m tv c lvs iv lo hi w->lvs.length+nd.dep<=100000->Rp w nd lo hi sv->SIn 0 cb sv->
 Calls Tryz.prog 180 #[.pointer (some ⟨cb,0,none⟩),sv,iv] w fun r w'=>∃ v,r = .returned v/\OwI w.heap.size w' v (Sp.ck T nd lvs 0 c).1.dropLast/\CB cb tv (Sp.ck T nd lvs 0 c).2.1 w'/\Rp w' (Sp.ck T nd lvs 0 c).2.2 lo hi sv/\Fc cb lo hi w w'
def QuC (T:List Sp.Tb) (nd:Sp.Nd):Prop:=∀ (k cb m lo hi:Nat) (tv qv iv:Value) (c:Sp.CS) (lvs:List Sp.Lv) (w:World),En T k cb m tv c lvs iv lo hi w->lvs.length+nd.dep<=100000->Rp w nd lo hi qv->
 Calls Tryz.prog 141 #[.pointer (some ⟨cb,0,none⟩),qv,iv] w fun r w'=>∃ v,r = .returned v/\OwI w.heap.size w' v (Sp.ck T nd lvs 0 c).1/\(Sp.ck T nd lvs 0 c).1.length<=90000/\CB cb tv (Sp.ck T nd lvs 0 c).2.1 w'/\Rp w' (Sp.ck T nd lvs 0 c).2.2 lo hi qv/\Fc cb lo hi w w'
def ckL (T:List Sp.Tb) (lvs:List Sp.Lv):List Sp.Nd->Sp.CS->List Int×Sp.CS×List Sp.Nd
 | [],c=>([],c, [])
 | n::ns,c=>
  let r:=Sp.ck T n lvs 0 c
  let q:=ckL T lvs ns r.2.1
  (r.1.headD 0::q.1,q.2.1,r.2.2::q.2.2)
theorem ckL_app (T:List Sp.Tb) (lvs:List Sp.Lv):∀ (a b:List Sp.Nd) (c:Sp.CS),ckL T lvs (a++b) c=((ckL T lvs a c).1++(ckL T lvs b (ckL T lvs a c).2.1).1,(ckL T lvs b (ckL T lvs a c).2.1).2.1,(ckL T lvs a c).2.2++(ckL T lvs b (ckL T lvs a c).2.1).2.2)
 | [],b,c=>by simp [ckL]
 | n::a,b,c=>by simp [ckL,ckL_app T lvs a b]
theorem ckL_len (T:List Sp.Tb) (lvs:List Sp.Lv):∀ (a:List Sp.Nd) (c:Sp.CS),(ckL T lvs a c).1.length=a.length/\(ckL T lvs a c).2.2.length=a.length
 | [],c=>⟨rfl,rfl⟩
 | n::a,c=>by simp [ckL,ckL_len T lvs a]
theorem ck_one (T:List Sp.Tb) (N:Nat) (nd:Sp.Nd) (h:Sp.wf N nd .expr) (lvs:List Sp.Lv) (made:Int) (c:Sp.CS):(Sp.ck T nd lvs made c).1 = [(Sp.ck T nd lvs made c).1.headD 0]:=by
 cases nd with
 | nil=>simp [Sp.wf] at h
 | none=>simp [Sp.wf] at h
 | cons _ _=>simp [Sp.wf] at h
 | clause _ _=>simp [Sp.wf] at h
 | arms _ _ _ _ _=>simp [Sp.wf] at h
 | comb _ _ _ _ _=>simp [Sp.wf] at h
 | sel _ _ _ _ _=>simp [Sp.wf] at h
 | const _=>rfl
 | col _ _ _ _ _ _=>rfl
 | op _ _ _=>rfl
 | kase arms els=>cases els <;> rfl
 | within w a args q=>
  simp only [Sp.ck]
  split
  ·rfl
  ·split
   ·rfl
   ·split <;> rfl
def Sp.Nd.els:Sp.Nd->List Sp.Nd
 | .cons h t=>h::t.els
 | _ => []
theorem els_lapp (N:Nat):∀ nd:Sp.Nd,Sp.wf N nd .list->nd=Sp.lapp nd.els .nil/\nd.els.length=nd.len/\∀ n∈nd.els,Sp.wf N n .expr
 | .nil,_=>⟨rfl,rfl,fun n h=>by simp [Sp.Nd.els] at h⟩
 | .cons h t,hw=>by
  obtain ⟨_,h1,h2⟩:=hw
  obtain ⟨e1,e2,e3⟩:=els_lapp N t h2
  refine ⟨?_,by simp [Sp.Nd.els,Sp.Nd.len,e2],fun n hn=>?_⟩
  ·simp only [Sp.Nd.els,Sp.lapp,List.foldr_cons]
   congr 1
  ·simp only [Sp.Nd.els,List.mem_cons] at hn
   rcases hn with rfl | hn
   ·exact h1
   ·exact e3 n hn
 | .none,h=>by simp [Sp.wf] at h
 | .clause _ _,h=>by simp [Sp.wf] at h
 | .const _,h=>by simp [Sp.wf] at h
 | .col _ _ _ _ _ _,h=>by simp [Sp.wf] at h
 | .op _ _ _,h=>by simp [Sp.wf] at h
 | .kase _ _,h=>by simp [Sp.wf] at h
 | .arms _ _ _ _ _,h=>by simp [Sp.wf] at h
 | .within _ _ _ _,h=>by simp [Sp.wf] at h
 | .comb _ _ _ _ _,h=>by simp [Sp.wf] at h
 | .sel _ _ _ _ _,h=>by simp [Sp.wf] at h
theorem ck_lapp (T:List Sp.Tb) (N:Nat) (lvs:List Sp.Lv):∀ (ns:List Sp.Nd) (c:Sp.CS),(∀ n∈ns,Sp.wf N n .expr)->Sp.ck T (Sp.lapp ns .nil) lvs 0 c=((ckL T lvs ns c).1 ++ [0],(ckL T lvs ns c).2.1,Sp.lapp (ckL T lvs ns c).2.2 .nil)
 | [],c,_=>rfl
 | n::ns,c,h=>by
  have ih:=ck_lapp T N lvs ns (Sp.ck T n lvs 0 c).2.1 (fun x hx=>h x (by simp [hx]))
  have h1:=ck_one T N n (h n (by simp)) lvs 0 c
  simp only [Sp.lapp,List.foldr_cons] at ih ⊢
  simp only [Sp.ck,ih,ckL]
  rw [h1]
  simp
theorem dep_lapp:∀ (ns:List Sp.Nd) (n:Sp.Nd),n∈ns->n.dep<=(Sp.lapp ns .nil).dep
 | m::ns,n,h=>by
  simp only [Sp.lapp,List.foldr_cons,Sp.Nd.dep]
  simp only [List.mem_cons] at h
  rcases h with rfl | h
  ·omega
  ·have:=dep_lapp ns n h
   simp only [Sp.lapp] at this
   omega
theorem Rp.els {w:World} : ∀ (ns:List Sp.Nd) (lo hi blk off n c:Nat),Rp w (Sp.lapp ns .nil) lo hi (.slice (some ⟨blk,off,none⟩) n c)->n=ns.length/\∃ xs,ElR w blk ns xs lo hi/\∀ j u,xs[j]?=some u->w.cell? ⟨blk,off+j,none⟩=some u
 | [],lo,hi,blk,off,n,c,h=>by
  obtain ⟨h1,a,c',e⟩:=h
  injection e with e1 e2
  exact ⟨by simpa using e2, [],h1,fun j u hj=>by simp at hj⟩
 | m::ns,lo,hi,blk,off,n,c,h=>by
  simp only [Sp.lapp,List.foldr_cons] at h
  obtain ⟨blk',off',n',c',v,m1,m2,e,hl,hS,hc,hn,h1,h2⟩:=h
  injection e with e1 e2 e3
  injection e1 with e1
  injection e1 with e4 e5
  subst e4 e5 e2
  obtain ⟨h3,xs,h4,h5⟩:=Rp.els ns m2 hi blk (off+1) n' c' h2
  refine ⟨by simp [h3],v::xs,⟨m1,m2,hS,hn,h1,h4⟩,fun j u hj=>?_⟩
  match j,hj with
  | 0,hj=>simp at hj;subst hj;exact hc
  | j+1,hj=>rw [show off+(j+1)=off+1+j by omega];exact h5 j u (by simpa using hj)
theorem ElR.upd {w:World} {g:Nat} : ∀ (a b:List Sp.Nd) (n:Sp.Nd) (xs:List Value) (lo hi:Nat),ElR w g (a++n::b) xs lo hi->∃ m1 m2 x,xs[a.length]?=some x/\lo<=m1/\m1<=m2/\m2<=hi/\¬ (m1<=g/\g<m2)/\NoSl x/\Rp w n m1 m2 x/\
  ∀ w' n',w.heap.size<=w'.heap.size->(∀ q,lo<=q->q<hi->q≠g->¬ (m1<=q/\q<m2)->w'.heap[q]?=w.heap[q]?)->Rp w' n' m1 m2 x->ElR w' g (a++n'::b) xs lo hi
 | [],b,n, [],lo,hi,h=>h.elim
 | [],b,n,x::xs,lo,hi,h=>by
  obtain ⟨m1,m2,hS,hn,hr,ht⟩:=h
  have hS':=hS
  have hle:=ht.le
  unfold Sub at hS'
  refine ⟨m1,m2,x,rfl,by omega,by omega,by omega,by omega,hn,hr,fun w' n' hs hk hr'=>⟨m1,m2,hS,hn,hr',ht.frame hs fun q h1 h2 h3=>hk q (by omega) h2 h3 (by omega)⟩⟩
 | m::a,b,n, [],lo,hi,h=>h.elim
 | m::a,b,n,x::xs,lo,hi,h=>by
  obtain ⟨m1,m2,hS,hn,hr,ht⟩:=h
  obtain ⟨p1,p2,y,e,l1,l2,l3,l4,l5,l6,l7⟩:=ElR.upd a b n xs m2 hi ht
  have hS':=hS
  unfold Sub at hS'
  refine ⟨p1,p2,y,by simpa using e,by omega,l2,l3,l4,l5,l6,fun w' n' hs hk hr'=>⟨m1,m2,hS,hn,hr.frame hs _ _ _ _ (fun q h1 h2=>hk q (by omega) (by omega) (by omega) (by omega)) (fun _ _ _ _ e=>absurd e (hn _ _ _)),l7 w' n' hs (fun q h1 h2 h3 h4=>hk q (by omega) h2 h3 h4) hr'⟩⟩
end Go.Proofs.YtgnncnhkgmhngaaGreatDoor
