import Derived.Test.YtgnncnhkgmhngaaGreatDoorJ12
import Derived.Test.YtgnncnhkgmhngaaGreatDoorJ21
set_option maxHeartbeats 4000000
set_option maxRecDepth 100000
namespace Go.Proofs.YtgnncnhkgmhngaaGreatDoor
open Sp
open Tryz
open Go.RowKit Go.Sort
theorem Kl {bT name:Sp.Bs} {lv:Sp.Lv} {i:Nat} {more:List Nat} (h:cE bT name lv=i::more):i<lv.length:=by
 have:i∈cE bT name lv:=by rw [h];simp
 unfold cE at this
 rw [List.mem_filter,List.mem_range] at this
 exact this.1
theorem MV (bT name:Sp.Bs) (lv:Sp.Lv):(cE bT name lv).length<=lv.length:=by rw [<- xZ];exact x6 _ _ _ _
structure o9 (w:World) (nb:Nat) (bT name:Sp.Bs) (a o sr ce:Int):Prop where
 lt:nb<w.heap.size
 c0:w.cell? ⟨nb,0,none⟩=some (.string (bz bT))
 c1:w.cell? ⟨nb,1,none⟩=some (.string (bz name))
 c2:w.cell? ⟨nb,2,none⟩=some (.int .i64 a)
 c3:w.cell? ⟨nb,3,none⟩=some (.int .i64 o)
 c4:w.cell? ⟨nb,4,none⟩=some (.int .i64 sr)
 c5:w.cell? ⟨nb,5,none⟩=some (.int .i64 ce)
 fz:∀ j,w.frozen? ⟨nb,j,none⟩=false
theorem o9.same {w w' : World} {nb:Nat} {bT name:Sp.Bs} {a o sr ce:Int} (h:o9 w nb bT name a o sr ce) (hs:w.heap.size<=w'.heap.size) (e:w'.heap[nb]?=w.heap[nb]?):o9 w' nb bT name a o sr ce:=by
 have hc:∀ o,w'.cell? ⟨nb,o,none⟩=w.cell? ⟨nb,o,none⟩:=λo=>dV (w:=w) (a:=⟨nb,o,none⟩) e
 have hf:∀ o,w'.frozen? ⟨nb,o,none⟩=w.frozen? ⟨nb,o,none⟩:=λo=>Bo (w:=w) (a:=⟨nb,o,none⟩) e
 exact ⟨b6 h.lt hs,(hc _).trans h.c0,(hc _).trans h.c1,(hc _).trans h.c2,(hc _).trans h.c3,(hc _).trans h.c4,(hc _).trans h.c5,λj=>(hf j).trans (h.fz j)⟩
theorem o9.below {w w' : World} {nb:Nat} {bT name:Sp.Bs} {a o sr ce:Int} (h:o9 w nb bT name a o sr ce) (g:Below w.heap.size w w'):o9 w' nb bT name a o sr ce:=h.same g.size (g.block nb h.lt)
theorem o9.JO {w:World} {nb:Nat} {bT name:Sp.Bs} {a o sr ce:Int} (h:o9 w nb bT name a o sr ce) (x:Int):o9 (w.setCell ⟨nb,3,none⟩ (.int .i64 x)) nb bT name a x sr ce:=by
 obtain ⟨lt,c0,c1,c2,c3,c4,c5,fz⟩:=h
 exact ⟨by simpa [World.setCell] using lt,by go_simp,by go_simp,by go_simp,by go_simp,by go_simp,by go_simp,λj=>by have:=fz j;go_simp⟩
theorem o9.Vm {w:World} {nb:Nat} {bT name:Sp.Bs} {a o sr ce:Int} (h:o9 w nb bT name a o sr ce) (x:Int):o9 (w.setCell ⟨nb,4,none⟩ (.int .i64 x)) nb bT name a o x ce:=by
 obtain ⟨lt,c0,c1,c2,c3,c4,c5,fz⟩:=h
 exact ⟨by simpa [World.setCell] using lt,by go_simp,by go_simp,by go_simp,by go_simp,by go_simp,by go_simp,λj=>by have:=fz j;go_simp⟩
theorem o9.SA {w:World} {nb:Nat} {bT name:Sp.Bs} {a o sr ce:Int} (h:o9 w nb bT name a o sr ce) (x:Int):o9 (w.setCell ⟨nb,5,none⟩ (.int .i64 x)) nb bT name a o sr x:=by
 obtain ⟨lt,c0,c1,c2,c3,c4,c5,fz⟩:=h
 exact ⟨by simpa [World.setCell] using lt,by go_simp,by go_simp,by go_simp,by go_simp,by go_simp,by go_simp,λj=>by have:=fz j;go_simp⟩
theorem D6.cO {k m nb:Nat} {w w' : World} {lv:Sp.Lv} {v:Value} (hk:k<=w.heap.size) (h:D6 k m w lv v) (g:Kept nb w w') (h1:k<=nb) (h2:nb<m):D6 k m w' lv v:=h.ou hk (Ou.kept g h1 h2)
theorem Hy {k m sb nb:Nat} {lv:Sp.Lv} {sv:Value} {w:World} {bT name:Sp.Bs} {a o sr ce:Int} {i:Nat} {more:List Nat} (hkw:k<=w.heap.size) (hsb:sb<w.heap.size) (hsn:nb≠sb) (hkn:k<=nb) (hnm:nb<m) (c0:w.cell? ⟨sb,0,none⟩=some sv) (hl:D6 k m w lv sv)
  (hn:o9 w nb bT name a o sr ce) (hi:cE bT name lv=i::more) :
  Calls prog 257 #[.pointer (some ⟨sb,0,none⟩), .pointer (some ⟨nb,0,none⟩)] w λe w'=>∃ t,lv[i]?.map (·.2)=some t/\e = .returned (.bool (more.isEmpty&&decide (0<=cellOf name t.cols)))/\o9 w' nb bT name a o (i:Int) (cellOf name t.cols)/\Kept nb w w':=by
 have hlt:=Kl hi
 have hln:=MV bT name lv
 have hlv:=hl.1
 rw [hi] at hln
 obtain ⟨b,cp,rfl,hbm,hsr⟩:∃ b c,sv = .slice (some ⟨b,0,none⟩) lv.length c/\m<=b/\Pu k w b lv:=by
  rcases hl.2 with ⟨rfl,_⟩ | h
  ·simp at hlt
  ·exact h
 have HN:=hid hn
 have HS:=hid hsr
 have HT:Hid (Calls prog 256 #[.pointer (some ⟨sb,0,none⟩), .pointer (some ⟨nb,0,none⟩)] w λe w'=>∃ v,e = .returned v/\fB w.heap.size w' v (eO (cE bT name lv))/\Below w.heap.size w w'):=oR hkw hsb c0 hl hn.lt hn.c0 hn.c1
 have eJ:=hid hkw
 have hnlt:=hn.lt
 have hbw:=hsr.lb
 clear hl hn hsr hkw
 go_enter func257,ntmps257
 go_wp2_with fail
 refine HT.out.mono ?_
 rintro e w1 ⟨v,rfl,ho,hb1⟩
 rw [hi] at ho
 obtain ⟨g,go,gc,rfl,hg⟩:∃ g go gc,v = .slice (some ⟨g,go,none⟩) (more.length+1) gc/\Hi w1 g go (eO (i::more)):=by
  rcases ho.si with ⟨_,h⟩ | ⟨g,go,gc,e,h⟩
  ·simp at h
  ·exact ⟨g,go,gc,by simpa using e,h⟩
 have g0:=hg.n 0 (by simp)
 simp only [Nat.add_zero,List.map_cons,List.getElem_cons_zero] at g0
 have Jg:=hid (HN.out.below hb1)
 have q4:=Jg.out.c4
 have f4:=Jg.out.fz 4
 have HB1:=hid hb1
 have hz:=hb1.size
 clear HT hg ho hb1
 go_wp2_with fail
 have PR:Hid (o9 (w1.setCell ⟨nb,4,none⟩ (.int .i64 (i:Int))) nb bT name a o (i:Int) ce):=Jg.out.Vm _
 have aY:Hid (Kept nb w (w1.setCell ⟨nb,4,none⟩ (.int .i64 (i:Int)))):=(Kept.below HB1.out).setCell 4 _
 have hz2:(w1.setCell ⟨nb,4,none⟩ (.int .i64 (i:Int))).heap.size=w1.heap.size:=by simp [World.setCell]
 clear g0 q4 f4 Jg HB1
 generalize w1.setCell ⟨nb,4,none⟩ (.int .i64 (i:Int))=w2 at *
 have k0:=(aY.out.cell (p:=⟨sb,0,none⟩) hsb (Ne.symm hsn)).trans c0
 obtain ⟨tv,d0,d1,d2,d3,ht⟩:=(HS.out.same eJ.out (Low.kT aY.out hkn) (aY.out.block b hbw (by omega))).at_ i hlt
 have HT:=hid ht
 have HC:Hid (∀ w3,Gr w2 w3->Calls prog 178 #[oW tv, .string (bz name)] w3 λe w'=>e = .returned (.int .i64 (cellOf name lv[i].2.cols))/\Gr w3 w'):=λw3 g=>iQ (ht.low (cF eJ.out aY.out.size) (Low.eA g)) name
 obtain ⟨tn,ca,cl,cc,ra,rl,rc⟩:=tv
 obtain ⟨Xz,n0,n1,n2,n3,n4,n5,nf⟩:=PR.out
 have f5:=nf 5
 clear nf ht
 have HV:Hid (lv[i]?.map (·.2)=some lv[i].2):=by show _=_;rw [tC hlt];rfl
 generalize lv[i].2=t at *
 have hi1:(i:Int)<(lv.length:Int):=by omega
 have hbn:b≠nb:=by omega
 go_region_held3 (λw'=>w'.cell? ⟨sb,0,none⟩=some (.slice (some ⟨b,0,none⟩) lv.length cp)/\w'.cell? ⟨nb,4,none⟩=some (.int .i64 (i:Int))/\w'.cell? ⟨nb,1,none⟩=some (.string (bz name))/\w'.cell? ⟨b,i*4+1,none⟩=some (.string tn)/\w'.cell? ⟨b,i*4+2,none⟩=some (.slice ca cl cc)/\w'.cell? ⟨b,i*4+3,none⟩=some (.slice ra rl rc)) (first | go_keep | exact ⟨k0,n4,n1,d1,d2,d3⟩ | exact ⟨y0,y1,y2,y3,y4,y5⟩) ((go_at_call 178;refine (HC.out _ ((Gr.refl _).drew)).mono ?_;rintro e w3 ⟨rfl,g3⟩;have gA:Gr w2 w3:=((Gr.refl _).drew).trans g3;have hN3:=PR.out.below gA.below;have p5:=hN3.c5;have p0:=hN3.fz 5;have x0:=(gA.cell (p:=⟨sb,0,none⟩) (by show sb<_;omega)).trans k0;have x1:=(gA.cell (p:=⟨nb,4,none⟩) Xz).trans n4;have x2:=(gA.cell (p:=⟨nb,1,none⟩) Xz).trans n1;have x3:=(gA.cell (p:=⟨b,i*4+1,none⟩) (by show b<_;omega)).trans d1;have x4:=(gA.cell (p:=⟨b,i*4+2,none⟩) (by show b<_;omega)).trans d2;have x5:=(gA.cell (p:=⟨b,i*4+3,none⟩) (by show b<_;omega)).trans d3;have hP:=hN3.SA (cellOf name t.cols);have y1:=hP.c4;have y2:=hP.c1;have y0:=(dV (w:=w3) (a:=⟨sb,0,none⟩) (c6 w3 ⟨nb,5,none⟩ (.int .i64 (cellOf name t.cols)) sb (Ne.symm hsn))).trans x0;have y3:=(dV (w:=w3) (a:=⟨b,i*4+1,none⟩) (c6 w3 ⟨nb,5,none⟩ (.int .i64 (cellOf name t.cols)) b hbn)).trans x3;have y4:=(dV (w:=w3) (a:=⟨b,i*4+2,none⟩) (c6 w3 ⟨nb,5,none⟩ (.int .i64 (cellOf name t.cols)) b hbn)).trans x4;have y5:=(dV (w:=w3) (a:=⟨b,i*4+3,none⟩) (c6 w3 ⟨nb,5,none⟩ (.int .i64 (cellOf name t.cols)) b hbn)).trans x5;try exact ⟨x0,x1,x2,x3,x4,x5⟩))
 have HP:Hid (o9 (w3.setCell ⟨nb,5,none⟩ (.int .i64 (cellOf name t.cols))) nb bT name a o (i:Int) (cellOf name t.cols)):=hN3.SA _
 have HK:Hid (Kept nb w (w3.setCell ⟨nb,5,none⟩ (.int .i64 (cellOf name t.cols)))):=(aY.out.trans (Kept.gr gA)).setCell 5 _
 have r5:=HP.out.c5
 clear hP hN3 y0 y1 y2 y3 y4 y5 x0 x1 x2 x3 x4 x5 p5 p0 gA g3 k0 d0 d1 d2 d3 n0 n1 n2 n3 n4 n5 HC c0
 try clear hHeld
 generalize w3.setCell ⟨nb,5,none⟩ (.int .i64 (cellOf name t.cols))=w4 at *
 cases more with
 | nil=>
  go_wp2_with fail
  go_ret
  exact ⟨_,HV.out,by simp,HP.out,HK.out⟩
 | cons x more=>
  have hne:((((x::more).length+1:Nat):Int) == 1)=false:=by simp;omega
  go_wp2_with fail
  go_ret
  exact ⟨_,HV.out,by simp,HP.out,HK.out⟩
theorem Fc.Vn {cb nb:Nat} {w w' : World} (h:Kept nb w w') (hs:∃ s,w.cell? ⟨nb,0,none⟩=some (.string s)):Fc cb nb (nb+1) w w':=⟨h.os,h.tape,h.output,h.size,λk hk _ hn=>h.block k hk (by omega),λk hk _ hx=>h.block k hk (λe=>by
 obtain ⟨s,e1⟩:=hs
 obtain ⟨a,n,c,e2⟩:=hx
 rw [e,e1] at e2
 cases e2)⟩
theorem Ez (bT name:Sp.Bs) (a o sr:Nat) (ce:Int) (c:CS):column bT name a o sr ce [] c=(0,c.fail 4 a, .col bT name a o sr ce):=rfl
theorem EA (bT name:Sp.Bs) (a o sr:Nat) (ce:Int) (c:CS) (lv:Sp.Lv) (r:List Sp.Lv) (h:cE bT name lv = []):column bT name a o sr ce (lv::r) c=column bT name a (o+1) sr ce r c:=by
 rw [column,h]
theorem EB (bT name:Sp.Bs) (a o sr:Nat) (ce:Int) (c:CS) (lv:Sp.Lv) (r:List Sp.Lv) (i:Nat) (more:List Nat) (t:Sp.Tb) (h:cE bT name lv=i::more) (ht:lv[i]?.map (·.2)=some t) (hy:(more.isEmpty&&decide (0<=cellOf name t.cols))=true) :
  column bT name a o sr ce (lv::r) c=(((t.cols[(cellOf name t.cols).toNat]?).map (·.2)).getD 0,c, .col bT name a o i (cellOf name t.cols)):=by
 rw [column,h];simp only [ht,Option.getD_some,hy,if_true]
theorem BZ (bT name:Sp.Bs) (a o sr:Nat) (ce:Int) (c:CS) (lv:Sp.Lv) (r:List Sp.Lv) (i:Nat) (more:List Nat) (t:Sp.Tb) (h:cE bT name lv=i::more) (ht:lv[i]?.map (·.2)=some t) (hy:(more.isEmpty&&decide (0<=cellOf name t.cols))=false) :
  column bT name a o sr ce (lv::r) c=(0,c.fail 4 a, .col bT name a o i (cellOf name t.cols)):=by
 rw [column,h];simp only [ht,Option.getD_some,hy];rfl
theorem B0 {cb k m nb:Nat} {tv:Value} {c:CS} {w:World} {bT name:Sp.Bs} {a sr:Nat} {o ce:Int} {aC:List Sp.Lv} {iv:Value} (h:CB cb tv c w) (hkw:k<=w.heap.size) (hn:o9 w nb bT name (a:Nat) o (sr:Nat) ce) (hs:v8 k m w aC iv) (_hkc:k<=cb) (hkn:k<=nb) (hnc:nb<cb) (hcm:cb<m) (hlv:aC.length<=100000) :
  Calls prog 221 #[.pointer (some ⟨cb,0,none⟩), .pointer (some ⟨nb,0,none⟩),iv] w λe w'=>∃ (o' Vo : Nat) (Vp : Int),(column bT name a 0 sr ce aC c).2.2 = .col bT name a o' Vo Vp/\e = .returned (.int .i64 (column bT name a 0 sr ce aC c).1)/\o9 w' nb bT name (a:Nat) (o' : Nat) (Vo : Nat) Vp/\CB cb tv (column bT name a 0 sr ce aC c).2.1 w'/\Fc cb nb (nb+1) w w':=by
 have HH:=hid h
 have HS:=hid hs
 have HN:=hid hn
 have eJ:=hid hkw
 obtain ⟨ia,rfl⟩:=hs.ptr
 have q3:=hn.c3
 have f3:=hn.fz 3
 have hnw:=hn.lt
 have hcw:=h.lt
 clear h hs hkw hn
 go_enter func221,ntmps221
 go_wp2_with fail
 have Jg:Hid (o9 (w.setCell ⟨nb,3,none⟩ (.int .i64 0)) nb bT name (a:Nat) 0 (sr:Nat) ce):=HN.out.JO 0
 have bD:Hid (Kept nb w (w.setCell ⟨nb,3,none⟩ (.int .i64 0))):=(Kept.refl nb w).setCell 3 _
 clear q3 f3
 generalize w.setCell ⟨nb,3,none⟩ (.int .i64 0)=w1 at *
 have JT:Hid (v8 k m w1 aC (.pointer ia)):=HS.out.ou eJ.out (Ou.kept bD.out hkn (by omega))
 go_loopg [2] aC.length (λgm iv wr=>∃ (rest:List Sp.Lv) (o:Nat),gm=rest.length/\o+rest.length=aC.length/\Hid (v8 k m wr rest iv)/\Hid (Kept nb w wr)/\Hid (o9 wr nb bT name (a:Nat) (o:Nat) (sr:Nat) ce)/\Hid (column bT name a 0 sr ce aC c=column bT name a o sr ce rest c))
 case atStart=>exact ⟨aC,0,rfl,by omega,JT,bD,Jg,rfl⟩
 case round=>
  obtain ⟨rest,o,rfl,ho,Jf,HK,Mb,HP⟩:=hrel
  have HC:Hid (CB cb tv c wr):=HH.out.same HK.out.size (HK.out.block cb hcw (by omega))
  have hkr:Hid (k<=wr.heap.size):=cF eJ.out HK.out.size
  cases rest with
  | nil=>
   have e:=Jf.out
   simp only [v8] at e
   subst e
   have q2:=Mb.out.c2
   go_wp2_with fail
   refine (cW HC.out 4 a).mono ?_
   rintro e w2 ⟨rfl,h2,k2⟩
   have HR:Hid (CB cb tv (c.fail 4 a) w2/\Fc cb nb (nb+1) w w2/\o9 w2 nb bT name (a:Nat) (o:Nat) (sr:Nat) ce):=⟨h2,(Fc.Vn HK.out ⟨_,HN.out.c0⟩).trans (Fc.of k2),Mb.out.same k2.size (k2.block nb Mb.out.lt (by omega))⟩
   clear h2 k2 q2
   go_wp2_with fail
   go_ret
   rw [HP.out,Ez]
   exact ⟨o,sr,ce,rfl,rfl,HR.out.2.2,HR.out.1,HR.out.2.1⟩
  | cons lv r=>
   obtain ⟨sb,sv,ov,rfl,hb,hl,c0,c1,hsv,hr⟩:=Jf.out
   have HT:Hid (Calls prog 256 #[.pointer (some ⟨sb,0,none⟩), .pointer (some ⟨nb,0,none⟩)] wr λe w'=>∃ v,e = .returned v/\fB wr.heap.size w' v (eO (cE bT name lv))/\Below wr.heap.size wr w'):=oR hkr.out hl c0 hsv Mb.out.lt Mb.out.c0 Mb.out.c1
   have HR:=hid hr
   have Ra:=hid hsv
   obtain ⟨oa,rfl⟩:=hr.ptr
   clear hsv hr
   go_wp2_with fail
   refine HT.out.mono ?_
   rintro e w2 ⟨v,rfl,ho2,hb2⟩
   have HB2:=hid hb2
   have PR:=hid (Mb.out.below hb2)
   have c1':=(hb2.cell (p:=⟨sb,1,none⟩) hl).trans c1
   obtain ⟨va,vc,rfl⟩:=ho2.sl
   cases hT:cE bT name lv with
   | nil=>
    rw [show (eO ([]:List Nat)).length=0 from rfl]
    have q3:=PR.out.c3
    have f3:=PR.out.fz 3
    have HP2:Hid (column bT name a 0 sr ce aC c=column bT name a (o+1) sr ce r c):=by show _=_;rw [HP.out,EA _ _ _ _ _ _ _ _ _ hT]
    have ho' : o<100000:=by simp at ho;omega
    clear hb2 ho2 hT HT
    go_wp2_with fail
    go_roundg r.length
    case measure=>simp
    case rel=>exact ⟨r,o+1,rfl,by simp at ho;omega,(HR.out.ou hkr.out (Ou.below HB2.out)).ou (cF hkr.out HB2.out.size) (Ou.kept ((Kept.refl nb w2).setCell 3 _) hkn (by omega)),(HK.out.trans (Kept.below HB2.out)).setCell 3 _,PR.out.JO _,HP2.out⟩
   | cons i more=>
    rw [show (eO (i::more)).length=more.length+1 by simp]
    have HM:Hid (Calls prog 257 #[.pointer (some ⟨sb,0,none⟩), .pointer (some ⟨nb,0,none⟩)] w2 λe w'=>∃ t,lv[i]?.map (·.2)=some t/\e = .returned (.bool (more.isEmpty&&decide (0<=cellOf name t.cols)))/\o9 w' nb bT name (a:Nat) (o:Nat) (i:Int) (cellOf name t.cols)/\Kept nb w2 w'):=
     Hy (cF hkr.out HB2.out.size) (b6 hl HB2.out.size) (by omega) hkn (by omega) ((HB2.out.cell (p:=⟨sb,0,none⟩) hl).trans c0) (Ra.out.ou hkr.out (Ou.below HB2.out)) PR.out hT
    have Ug:=hid hT
    have hne:((((more.length+1:Nat)):Int) == 0)=false:=by simp;omega
    have hlt:=Kl hT
    clear hb2 ho2 hT HT c1'
    go_wp2_with fail
    refine HM.out.mono ?_
    rintro e w3 ⟨t,ht,rfl,hn3,hk3⟩
    have Mc:=hid hn3
    have bL:Hid (Kept nb wr w3):=(Kept.below HB2.out).trans hk3
    have Vq:=hid ht
    clear hn3 hk3 HM
    cases hy:(more.isEmpty&&decide (0<=cellOf name t.cols))
    ·have q2:=Mc.out.c2
     have Hz:Hid (CB cb tv c w3):=HC.out.same bL.out.size (bL.out.block cb HC.out.lt (by omega))
     go_wp2_with fail
     refine (cW Hz.out 4 a).mono ?_
     rintro e w4 ⟨rfl,h4,k4⟩
     have HR4:Hid (CB cb tv (c.fail 4 a) w4/\Fc cb nb (nb+1) w w4/\o9 w4 nb bT name (a:Nat) (o:Nat) (i:Int) (cellOf name t.cols)):=⟨h4,(Fc.Vn (HK.out.trans bL.out) ⟨_,HN.out.c0⟩).trans (Fc.of k4),Mc.out.same k4.size (k4.block nb Mc.out.lt (by omega))⟩
     clear h4 k4 q2
     go_wp2_with fail
     go_ret
     rw [HP.out,BZ _ _ _ _ _ _ _ _ _ _ _ t Ug.out Vq.out hy]
     exact ⟨o,i,_,rfl,rfl,HR4.out.2.2,HR4.out.1,HR4.out.2.1⟩
    ·obtain ⟨b,cp,rfl,hbm,hsr⟩:∃ b c,sv = .slice (some ⟨b,0,none⟩) lv.length c/\m<=b/\Pu k wr b lv:=by
      rcases Ra.out.2 with ⟨rfl,_⟩ | h
      ·simp at hlt
      ·exact h
     have hlv1:=Ra.out.1
     obtain ⟨tv',d0,d1,d2,d3,htb⟩:=(hsr.same hkr.out (Low.kT bL.out hkn) (bL.out.block b hsr.lb (by omega))).at_ i hlt
     have ht2:lv[i].2=t:=by have:=Vq.out;rw [tC hlt] at this;exact Option.some.inj this
     rw [ht2] at htb
     have hy2:0<=cellOf name t.cols:=by simp at hy;exact hy.2
     have hcl:=iL name t.cols
     obtain ⟨qX,A8,e1,e2,hck,hcols⟩:∃ b off,tv'.ca=some ⟨b,off,none⟩/\tv'.cl=t.cols.length/\b<k/\oI w3 b off (t.cols.map λx=>(bz x.1,x.2)):=by
      rcases htb.cols with ⟨e,_⟩ | h
      ·rw [e] at hy2;simp [cellOf] at hy2
      ·exact h
     obtain ⟨q,hq⟩:∃ q:Nat,cellOf name t.cols=(q:Int):=⟨(cellOf name t.cols).toNat,by omega⟩
     have Up:q<t.cols.length:=by omega
     have hqi:(q:Int)<(t.cols.length:Int):=by omega
     have f1:=hcols.t q (by simpa using Up)
     simp only [List.getElem_map] at f1
     obtain ⟨tn,ca,cl,cc,ra,rl,rc⟩:=tv'
     simp only [] at e1 e2
     subst e1 e2
     have XA : w3.cell? ⟨b,i*4+2,none⟩=some (.slice (some ⟨qX,A8,none⟩) t.cols.length cc):=d2
     clear d2 d3 d0 d1
     have k0:=(bL.out.cell (p:=⟨sb,0,none⟩) hl (by show sb≠nb;omega)).trans c0
     have n4:=Mc.out.c4
     have n5:=Mc.out.c5
     rw [hq] at n5
     have HE:Hid (((t.cols[(cellOf name t.cols).toNat]?).map (·.2)).getD 0=t.cols[q].2):=by show _=_;rw [hq,Int.toNat_natCast,tC Up];rfl
     have HF:Hid (column bT name a 0 sr ce aC c=(t.cols[q].2,c, .col bT name a o i (cellOf name t.cols))):=by show _=_;rw [HP.out,EB _ _ _ _ _ _ _ _ _ _ _ t Ug.out Vq.out hy,HE.out]
     have Hz:Hid (CB cb tv c w3):=HC.out.same bL.out.size (bL.out.block cb HC.out.lt (by omega))
     have hi1:(i:Int)<(lv.length:Int):=by omega
     have hcn:t.cols.length<=50:=htb.iI
     clear htb hcols hsr hcl ht2 HE hy2
     generalize t.cols[q].2=ty at f1 HF
     go_wp2_with fail
     go_region
     go_wp2_with fail
     go_ret
     rw [HF.out]
     exact ⟨o,i,_,rfl,rfl,Mc.out.same (by simp) rfl,Hz.out.same (by simp) rfl,(Fc.Vn (HK.out.trans bL.out) ⟨_,HN.out.c0⟩).drewN _⟩
open Go.RowKit
def Vr (v:Value):Prop:=∃ a x,v = .agg #[.int .i64 a,x]/\rD x
theorem Ga {b c cap len:Nat} {s:Sp.Bs} {n:Nat} {σ:St} {w:World} (IA:All b c cap len s n) (hn:n<=900000) (hm:32*rem s σ+10<=n) (hp:PS b c cap len s 0 σ w) :
  Calls prog 128 #[.pointer (some ⟨b,0,none⟩)] w (aX b c cap len s 0 (rowT s n σ) w Vr λw' v=>∃ x,v = .agg #[.int .i64 (σ.at_ s:Nat),x]/\rD x/\Rq w' (Sp.tr s n .list 0 .nil (σ.must s [40])) (w.heap.size+1) w'.heap.size x):=by
 have hbw:=hp.lb
 have hcw:=hp.lc
 have hr:=cA s [40] σ
 obtain ⟨i,wd,hi,tc,PK⟩:=bG (hp.alloc (.cells #[.int .i64 0, .slice none 0 0] 239))
 have jV:Hid (σ.aA=true->aP s (pos s i)=σ.at_ s):=λhl=>(dW hi tc hl).1
 have HH:Hid (PS b c cap len s 0 σ (w.alloc (.cells #[.int .i64 0, .slice none 0 0] 239))):=hp.alloc _
 have pY:Hid (Kept b w (w.alloc (.cells #[.int .i64 0, .slice none 0 0] 239))):=(Kept.refl b w).alloc _
 have HB0:Hid (Bk (w.alloc (.cells #[.int .i64 0, .slice none 0 0] 239)) w.heap.size [.int .i64 0, .slice none 0 0]):=Bk.new _ _ _
 have gP:Hid (∀ w',w'=w.alloc (.cells #[.int .i64 0, .slice none 0 0] 239)->Calls prog 75 #[.pointer (some ⟨b,0,none⟩)] w' λr w''=>r = .returned (.agg #[.int .i64 (kn (aE s (pos s i))), .int .i64 (aP s (pos s i):Nat), .string wd])/\Below (w.alloc (.cells #[.int .i64 0, .slice none 0 0] 239)).heap.size (w.alloc (.cells #[.int .i64 0, .slice none 0 0] 239)) w''):=λw' e=>by subst e;exact PK
 have yE:=hid IA
 clear hp tc hi PK IA
 generalize kn (aE s (pos s i))=kk at *
 generalize aP s (pos s i)=aa at *
 have hfd:=t7
 go_enter func128,ntmps128
 go_wp2_with fail
 refine (gP.out _ rfl).mono ?_
 clear gP
 rintro r w1 ⟨rfl,hb1⟩
 generalize w.alloc (.cells #[.int .i64 0, .slice none 0 0] 239)=w0 at *
 have bP:=hid (HH.out.below hb1)
 have bD:Hid (Kept b w w1):=pY.out.trans (Kept.below hb1)
 have HB1:=hid (HB0.out.below hb1)
 clear hb1 HH pY HB0
 go_wp2_with fail
 refine (cG bP.out [40] (by decide)).mono ?_
 rintro r w2 ⟨rfl,hp2,hk2⟩
 have HP2:=hid hp2
 have aY:=hid (bD.out.trans hk2)
 have HB2:Hid (Bk w2 w.heap.size [.int .i64 0, .slice none 0 0]):=HB1.out.kept hk2 (by omega)
 clear hp2 hk2 HB1 bP bD
 go_wp2_with fail
 refine (yE.out.list 0 _ _ (by omega) (by show 32*rem s _+10<=n;omega) HP2.out).mono ?_
 rintro r w3 ⟨v3,rfl,hp3,hk3,⟨sa,sn,sc,rfl⟩,hr3⟩
 have dJ:=hid hp3
 have bL:=hid (aY.out.trans hk3)
 have HR3:=hid hr3
 have HB3:Hid (Bk w3 w.heap.size [.int .i64 0, .slice none 0 0]):=HB2.out.kept hk3 (by omega)
 have hz2:w.heap.size+1<=w2.heap.size:=HB2.out.lt
 have hz3:=hk3.size
 clear hp3 hk3 hr3
 go_wp2_with fail
 refine (cG dJ.out [41] (by decide)).mono ?_
 rintro r w4 ⟨rfl,gJ,hk4⟩
 have iD:=hid gJ
 have eS:=hid hk4
 have hB4:=HB3.out.kept hk4 (by omega)
 have tH:=hk4.size
 have c0:=hB4.c 0 (by decide)
 have c1:=hB4.c 1 (by decide)
 have f0:=hB4.f 0
 have f1:=hB4.f 1
 simp only [List.getElem_cons_zero,List.getElem_cons_succ] at c0 c1
 clear gJ hk4 hB4
 go_wp2_with fail
 exact cV (v := .agg #[.int .i64 aa, .slice sa sn sc]) (by simp [results,results128,go_sem, *]) rfl ⟨_,rfl,(iD.out.put w.heap.size 0 (by omega) (by omega) _).put w.heap.size 1 (by omega) (by omega) _,((bL.out.trans eS.out).aI (by simp) _).aI (by simp) _,⟨_,_,rfl,_,_,_,rfl⟩,λhl=>⟨.slice sa sn sc,by rw [jV.out (bK (dU (bK hl)))],⟨_,_,_,rfl⟩,by
  have q:=((HR3.out (bK hl)).kept eS.out (by omega) (aF _))
  have e:∀ k,w2.heap.size<=k->((w4.setCell ⟨w.heap.size,0,none⟩ (.int .i64 aa)).setCell ⟨w.heap.size,1,none⟩ (.slice sa sn sc)).heap[k]?=w4.heap[k]?:=λk hk=>by
   rw [c6 _ _ _ _ (by simp;omega),c6 _ _ _ _ (by simp;omega)]
  exact Rq.wide ⟨q.1.frame (by simp [World.setCell]) _ _ _ _ (λk h1 h2=>e k h1) (λblk off n c ee=>e blk (q.2 blk off n c ee).1),q.2⟩ hz2 (by simp [World.setCell];omega)⟩⟩
def Vs (v:Value):Prop:=∃ x a q y,v = .agg #[.string x, .int .i64 a, .int .i64 q,y]/\aR y
theorem set_any {b c cap len:Nat} {s:Sp.Bs} {n:Nat} {σ:St} {w:World} (IA:All b c cap len s n) (hn:n<=900000) (hm:32*rem s σ+9<=n) (hp:PS b c cap len s 0 σ w) :
  Calls prog 131 #[.pointer (some ⟨b,0,none⟩)] w (aX b c cap len s 0 (pT s n σ) w Vs λw' v=>∃ y,v = .agg #[.string (bz (σ.nm s).1), .int .i64 ((σ.nm s).2:Nat), .int .i64 ((σ.aD s).at_ s:Nat),y]/\aR y/\Rp w' (Sp.tr s n .expr 0 .nil ((σ.aD s).must s [61])) (w.heap.size+1) w'.heap.size y):=by
 have hbw:=hp.lb
 have hcw:=hp.lc
 have hr:=dT s σ
 have hr2:=cA s [61] (σ.aD s)
 have HH:Hid (PS b c cap len s 0 σ (w.alloc (.cells #[.string ⟨#[]⟩, .int .i64 0, .int .i64 0, .nilIface] 249))):=hp.alloc _
 have pY:Hid (Kept b w (w.alloc (.cells #[.string ⟨#[]⟩, .int .i64 0, .int .i64 0, .nilIface] 249))):=(Kept.refl b w).alloc _
 have HB0:Hid (Bk (w.alloc (.cells #[.string ⟨#[]⟩, .int .i64 0, .int .i64 0, .nilIface] 249)) w.heap.size [.string ⟨#[]⟩, .int .i64 0, .int .i64 0, .nilIface]):=Bk.new _ _ _
 have yE:=hid IA
 clear hp IA
 go_enter func131,ntmps131
 go_wp2_with fail
 generalize w.alloc (.cells #[.string ⟨#[]⟩, .int .i64 0, .int .i64 0, .nilIface] 249)=w0 at *
 refine (name_any HH.out).mono ?_
 rintro r w1 ⟨v1,rfl,hp1,hk1,⟨oB,a1,rfl⟩,hr1⟩
 have bP:Hid (PS b c cap len s 0 (σ.aD s) (w1.alloc (.cells #[.string oB, .int .i64 a1] 165))):=hp1.alloc _
 have bD:Hid (Kept b w (w1.alloc (.cells #[.string oB, .int .i64 a1] 165))):=(pY.out.trans hk1).alloc _
 have HB1:Hid (Bk (w1.alloc (.cells #[.string oB, .int .i64 a1] 165)) w.heap.size [.string ⟨#[]⟩, .int .i64 0, .int .i64 0, .nilIface]):=(HB0.out.kept hk1 (by omega)).alloc _
 have qY:Hid (Bk (w1.alloc (.cells #[.string oB, .int .i64 a1] 165)) w1.heap.size [.string oB, .int .i64 a1]):=Bk.new _ _ _
 have hz1:w.heap.size+1<=w1.heap.size:=b6 HB0.out.lt hk1.size
 have HR1:Hid ((σ.aD s).aA=true->oB=bz (σ.nm s).1/\a1=((σ.nm s).2:Nat)):=λhl=>mY (hr1 hl)
 clear hp1 hk1 hr1 HH HB0 pY
 go_wp2_with fail
 refine (kZ (n:=n) bP.out [61] (by decide) (λw' hp'=>yE.out.expr 0 _ _ (by omega) (by show 32*rem s _+9<=n;omega) hp')).mono ?_
 generalize hw1:(w1.alloc (.cells #[.string oB, .int .i64 a1] 165))=w1' at *
 have hz1' : w1.heap.size<=w1'.heap.size:=by rw [<- hw1];simp
 clear hw1
 rintro r w2 ⟨v2,rfl,hp2,hk2,⟨a2,x2,rfl,hi2⟩,hr2'⟩
 have HP2:Hid (PS b c cap len s 0 (pT s n σ) (w2.alloc (.cells #[.int .i64 a2,x2] 244))):=hp2.alloc _
 have aY:=hid (bD.out.trans hk2)
 have HI2:=hid hi2
 have HR2:Hid ((pT s n σ).aA=true->a2=((σ.aD s).at_ s:Nat)/\Rp w2 (Sp.tr s n .expr 0 .nil ((σ.aD s).must s [61])) (w1'.heap.size+1) w2.heap.size x2):=λhl=>by
  obtain ⟨x,e,_,r⟩:=hr2' hl
  obtain ⟨e0,e1⟩:=J5 e
  subst e0 e1
  exact ⟨rfl,r⟩
 have hX2:=(qY.out.kept hk2 (by omega)).alloc (.cells #[.int .i64 a2,x2] 244)
 have hB2:=(HB1.out.kept hk2 (by omega)).alloc (.cells #[.int .i64 a2,x2] 244)
 have hZ2:=Bk.new w2 #[.int .i64 a2,x2] 244
 have hz2:=hk2.size
 have x0:=hX2.c 0 (by simp)
 have x1:=hX2.c 1 (by simp)
 have y0:=hZ2.c 0 (by simp)
 have y1:=hZ2.c 1 (by simp)
 have c0:=hB2.c 0 (by decide)
 have c1:=hB2.c 1 (by decide)
 have c2:=hB2.c 2 (by decide)
 have c3:=hB2.c 3 (by decide)
 have f0:=hB2.f 0
 have f1:=hB2.f 1
 have f2:=hB2.f 2
 have f3:=hB2.f 3
 simp only [List.getElem_cons_zero,List.getElem_cons_succ] at x0 x1 y0 y1 c0 c1 c2 c3
 have hv2:=hi2.cells
 unfold Value.cells at hv2
 have hst2:=λa m w=>hi2.st a m w
 clear hp2 hk2 hi2 hr2' hX2 hB2 hZ2
 go_wp2_with fail
 refine cV (v := .agg #[.string oB, .int .i64 a1, .int .i64 a2,x2]) (by simp [results,results131,go_sem, *]) rfl ⟨_,rfl,?_,?_,⟨_,_,_,_,rfl,HI2.out⟩,λhl=>?_⟩
 ·exact (((HP2.out.put w.heap.size 0 (by omega) (by omega) _).put w.heap.size 1 (by omega) (by omega) _).put w.heap.size 2 (by omega) (by omega) _).put w.heap.size 3 (by omega) (by omega) _
 ·exact ((((aY.out.alloc _).aI (by simp) _).aI (by simp) _).aI (by simp) _).aI (by simp) _
 ·obtain ⟨e3,r⟩:=HR2.out hl
  obtain ⟨e1,e2⟩:=HR1.out (bK (dU hl))
  subst e1 e2 e3
  refine ⟨x2,rfl,HI2.out,?_⟩
  have e:∀ k,w.heap.size<k->k<w2.heap.size->(((((w2.alloc (Obj.cells #[Value.int IntKind.i64 ((σ.aD s).at_ s:Nat),x2] 244)).setCell ⟨w.heap.size,0,none⟩ (.string (bz (σ.nm s).1))).setCell ⟨w.heap.size,1,none⟩ (.int .i64 ((σ.nm s).2:Nat))).setCell ⟨w.heap.size,2,none⟩ (.int .i64 ((σ.aD s).at_ s:Nat))).setCell ⟨w.heap.size,3,none⟩ x2).heap[k]?=w2.heap[k]?:=λk h1 h2=>by
   rw [c6 _ _ _ _ (by simp;omega),c6 _ _ _ _ (by simp;omega),c6 _ _ _ _ (by simp;omega),c6 _ _ _ _ (by simp;omega)]
   exact lK _ _ _ h2
  have q:=r.frame (w':=(((((w2.alloc (Obj.cells #[Value.int IntKind.i64 ((σ.aD s).at_ s:Nat),x2] 244)).setCell ⟨w.heap.size,0,none⟩ (.string (bz (σ.nm s).1))).setCell ⟨w.heap.size,1,none⟩ (.int .i64 ((σ.nm s).2:Nat))).setCell ⟨w.heap.size,2,none⟩ (.int .i64 ((σ.aD s).at_ s:Nat))).setCell ⟨w.heap.size,3,none⟩ x2)) (by simp [World.setCell]) _ _ _ _ (λk h1 h2=>e k (by omega) h2) (λ_ _ _ _ ee=>absurd ee (HI2.out.bC _ _ _))
  exact Rp.wide _ _ _ _ _ _ q (by omega) (by simp [World.setCell])
def gX {α:Type} (P:World->α->List Value->Nat->Nat->Prop) (w:World) (g:Nat):List α->List (List Value)->Nat->Nat->Prop
 | [], [],lo,hi=>lo<=hi
 | n::ns,x::xs,lo,hi=>∃ m1 m2,Sub lo hi g m1 m2/\P w n x m1 m2/\gX P w g ns xs m2 hi
 | _,_,_,_=>False
theorem gX.le {α:Type} {P:World->α->List Value->Nat->Nat->Prop} {w:World} {g:Nat} : ∀ {ns:List α} {xs:List (List Value)} {lo hi:Nat},gX P w g ns xs lo hi->lo<=hi
 | [], [],_,_,h=>h
 | _::_,_::_,lo,hi,h=>by obtain ⟨a1,a2,hS,_⟩:=h;unfold Sub at hS;omega
 | [],_::_,_,_,h=>h.elim
 | _::_, [],_,_,h=>h.elim
theorem gX.snoc {α:Type} {P:World->α->List Value->Nat->Nat->Prop} {w:World} {g:Nat} {m1 m2:Nat} {n:α} {x:List Value} (h12:m1<=m2) (h3:P w n x m1 m2) (h4:¬ (m1<=g/\g<m2)):∀ {ns:List α} {xs:List (List Value)} {lo hi:Nat},gX P w g ns xs lo hi->hi<=m1->gX P w g (ns ++ [n]) (xs ++ [x]) lo m2
 | [], [],lo,hi,h,h1=>⟨m1,m2,by have:lo<=hi:=h;unfold Sub;omega,h3,aF _⟩
 | n'::ns,x'::xs,lo,hi,h,h1=>by
  obtain ⟨a1,a2,hS,hp,ht⟩:=h
  exact ⟨a1,a2,by unfold Sub at hS ⊢;omega,hp,gX.snoc h12 h3 h4 ht h1⟩
 | [],_::_,_,_,h,_=>h.elim
 | _::_, [],_,_,h,_=>h.elim
theorem gX.move {α:Type} {P:World->α->List Value->Nat->Nat->Prop} {w:World} {g g' : Nat} : ∀ {ns:List α} {xs:List (List Value)} {lo hi:Nat},gX P w g ns xs lo hi->hi<=g'->gX P w g' ns xs lo hi
 | [], [],_,_,h,_=>h
 | n::ns,x::xs,lo,hi,h,hg=>by
  obtain ⟨a1,a2,hS,hp,ht⟩:=h
  have:=ht.le
  exact ⟨a1,a2,by unfold Sub at hS ⊢;omega,hp,ht.move hg⟩
 | [],_::_,_,_,h,_=>h.elim
 | _::_, [],_,_,h,_=>h.elim
theorem gX.frame {α:Type} {P:World->α->List Value->Nat->Nat->Prop} {w w' : World} {g:Nat} (hP:∀ n x m1 m2,P w n x m1 m2->(∀ k,m1<=k->k<m2->w'.heap[k]?=w.heap[k]?)->P w' n x m1 m2):∀ {ns:List α} {xs:List (List Value)} {lo hi:Nat},gX P w g ns xs lo hi->(∀ k,lo<=k->k<hi->k≠g->w'.heap[k]?=w.heap[k]?)->gX P w' g ns xs lo hi
 | [], [],_,_,h,_=>h
 | n::ns,x::xs,lo,hi,h,hk=>by
  obtain ⟨a1,a2,hS,hp,ht⟩:=h
  have:=ht.le
  unfold Sub at hS
  exact ⟨a1,a2,hS,hP _ _ _ _ hp (λk h1 h2=>hk k (by omega) (by omega) (by omega)),ht.frame hP λk h1 h2 h3=>hk k (by omega) h2 h3⟩
 | [],_::_,_,_,h,_=>h.elim
 | _::_, [],_,_,h,_=>h.elim
def fZ (w:World) (n:Nat×Nd) (x:List Value) (m1 m2:Nat):Prop:=∃ v,x = [.int .i64 (n.1:Int),v]/\Rq w n.2 m1 m2 v
theorem fZ.frame {w w' : World} (hs:w.heap.size<=w'.heap.size) (n:Nat×Nd) (x:List Value) (m1 m2:Nat) (h:fZ w n x m1 m2) (hk:∀ k,m1<=k->k<m2->w'.heap[k]?=w.heap[k]?):fZ w' n x m1 m2:=by
 obtain ⟨v,e,r⟩:=h
 exact ⟨v,e,r.1.frame hs _ _ _ _ hk (λblk off n c ee=>hk blk (r.2 blk off n c ee).1 (r.2 blk off n c ee).2),r.2⟩
def f7 (w:World) (n:Nm×Nat×Nd) (x:List Value) (m1 m2:Nat):Prop:=∃ v,x = [.string (bz n.1.1), .int .i64 (n.1.2:Int), .int .i64 (n.2.1:Int),v]/\b9 v/\Rp w n.2.2 m1 m2 v
theorem f7.frame {w w' : World} (hs:w.heap.size<=w'.heap.size) (n:Nm×Nat×Nd) (x:List Value) (m1 m2:Nat) (h:f7 w n x m1 m2) (hk:∀ k,m1<=k->k<m2->w'.heap[k]?=w.heap[k]?):f7 w' n x m1 m2:=by
 obtain ⟨v,e,hn,r⟩:=h
 exact ⟨v,e,hn,r.frame hs _ _ _ _ hk (λ_ _ _ _ ee=>absurd ee (hn _ _ _))⟩
end Go.Proofs.YtgnncnhkgmhngaaGreatDoor
