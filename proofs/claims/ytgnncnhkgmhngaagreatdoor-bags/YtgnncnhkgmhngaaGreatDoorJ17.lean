import Derived.Test.YtgnncnhkgmhngaaGreatDoorJ12
import Derived.Test.YtgnncnhkgmhngaaGreatDoorJ16
set_option maxHeartbeats 4000000
set_option maxRecDepth 100000
namespace Go.Proofs.YtgnncnhkgmhngaaGreatDoor
open Sp
open Go.RowKit Go.Sort
theorem I2 {bU name:Sp.Bs} {lv:Sp.Lv} {i:Nat} {more:List Nat} (h:b7 bU name lv=i::more):i<lv.length:=by
 have:i∈b7 bU name lv:=by rw [h];simp
 unfold b7 at this
 rw [List.mem_filter,List.mem_range] at this
 exact this.1
theorem K2 (bU name:Sp.Bs) (lv:Sp.Lv):(b7 bU name lv).length<=lv.length:=by rw [<- wQ];exact wR _ _ _ _
structure oK (w:World) (nb:Nat) (bU name:Sp.Bs) (a o sr ce:Int):Prop where
 lt:nb<w.heap.size
 c0:w.cell? ⟨nb,0,none⟩=some (.string (bz bU))
 c1:w.cell? ⟨nb,1,none⟩=some (.string (bz name))
 c2:w.cell? ⟨nb,2,none⟩=some (.int .i64 a)
 c3:w.cell? ⟨nb,3,none⟩=some (.int .i64 o)
 c4:w.cell? ⟨nb,4,none⟩=some (.int .i64 sr)
 c5:w.cell? ⟨nb,5,none⟩=some (.int .i64 ce)
 fz:∀ j,w.frozen? ⟨nb,j,none⟩=false
theorem oK.same {w w' : World} {nb:Nat} {bU name:Sp.Bs} {a o sr ce:Int} (h:oK w nb bU name a o sr ce) (hs:w.heap.size<=w'.heap.size) (e:w'.heap[nb]?=w.heap[nb]?):oK w' nb bU name a o sr ce:=by
 have hc:∀ o,w'.cell? ⟨nb,o,none⟩=w.cell? ⟨nb,o,none⟩:=λo=>fB (w:=w) (a:=⟨nb,o,none⟩) e
 have hf:∀ o,w'.frozen? ⟨nb,o,none⟩=w.frozen? ⟨nb,o,none⟩:=λo=>wF (w:=w) (a:=⟨nb,o,none⟩) e
 exact ⟨bY h.lt hs,(hc _).trans h.c0,(hc _).trans h.c1,(hc _).trans h.c2,(hc _).trans h.c3,(hc _).trans h.c4,(hc _).trans h.c5,λj=>(hf j).trans (h.fz j)⟩
theorem oK.below {w w' : World} {nb:Nat} {bU name:Sp.Bs} {a o sr ce:Int} (h:oK w nb bU name a o sr ce) (g:Below w.heap.size w w'):oK w' nb bU name a o sr ce:=h.same g.size (g.block nb h.lt)
theorem oK.IF {w:World} {nb:Nat} {bU name:Sp.Bs} {a o sr ce:Int} (h:oK w nb bU name a o sr ce) (x:Int):oK (w.setCell ⟨nb,3,none⟩ (.int .i64 x)) nb bU name a x sr ce:=by
 obtain ⟨lt,c0,c1,c2,c3,c4,c5,fz⟩:=h
 exact ⟨by simpa [World.setCell] using lt,by go_simp,by go_simp,by go_simp,by go_simp,by go_simp,by go_simp,λj=>by have:=fz j;go_simp⟩
theorem oK.Tq {w:World} {nb:Nat} {bU name:Sp.Bs} {a o sr ce:Int} (h:oK w nb bU name a o sr ce) (x:Int):oK (w.setCell ⟨nb,4,none⟩ (.int .i64 x)) nb bU name a o x ce:=by
 obtain ⟨lt,c0,c1,c2,c3,c4,c5,fz⟩:=h
 exact ⟨by simpa [World.setCell] using lt,by go_simp,by go_simp,by go_simp,by go_simp,by go_simp,by go_simp,λj=>by have:=fz j;go_simp⟩
theorem oK.P0 {w:World} {nb:Nat} {bU name:Sp.Bs} {a o sr ce:Int} (h:oK w nb bU name a o sr ce) (x:Int):oK (w.setCell ⟨nb,5,none⟩ (.int .i64 x)) nb bU name a o sr x:=by
 obtain ⟨lt,c0,c1,c2,c3,c4,c5,fz⟩:=h
 exact ⟨by simpa [World.setCell] using lt,by go_simp,by go_simp,by go_simp,by go_simp,by go_simp,by go_simp,λj=>by have:=fz j;go_simp⟩
theorem Dk.cF {k m nb:Nat} {w w' : World} {lv:Sp.Lv} {v:Value} (hk:k<=w.heap.size) (h:Dk k m w lv v) (g:Kept nb w w') (h1:k<=nb) (h2:nb<m):Dk k m w' lv v:=h.ou hk (Ou.kept g h1 h2)
theorem Gp {k m sb nb:Nat} {lv:Sp.Lv} {sv:Value} {w:World} {bU name:Sp.Bs} {a o sr ce:Int} {i:Nat} {more:List Nat} (hkw:k<=w.heap.size) (hsb:sb<w.heap.size) (hsn:nb≠sb) (hkn:k<=nb) (hnm:nb<m) (c0:w.cell? ⟨sb,0,none⟩=some sv) (hl:Dk k m w lv sv)
  (hn:oK w nb bU name a o sr ce) (hi:b7 bU name lv=i::more) :
  Calls Tryz.prog 257 #[.pointer (some ⟨sb,0,none⟩), .pointer (some ⟨nb,0,none⟩)] w λe w'=>∃ t,lv[i]?.map (·.2)=some t/\e = .returned (.bool (more.isEmpty&&decide (0<=cellOf name t.cols)))/\oK w' nb bU name a o (i:Int) (cellOf name t.cols)/\Kept nb w w':=by
 have hlt:=I2 hi
 have hln:=K2 bU name lv
 have hlv:=hl.1
 rw [hi] at hln
 obtain ⟨b,cp,rfl,hbm,hsr⟩:∃ b c,sv = .slice (some ⟨b,0,none⟩) lv.length c/\m<=b/\NC k w b lv:=by
  rcases hl.2 with ⟨rfl,_⟩ | h
  ·simp at hlt
  ·exact h
 have HN:=hid hn
 have HS:=hid hsr
 have HT:Hid (Calls Tryz.prog 256 #[.pointer (some ⟨sb,0,none⟩), .pointer (some ⟨nb,0,none⟩)] w λe w'=>∃ v,e = .returned v/\dX w.heap.size w' v (eH (b7 bU name lv))/\Below w.heap.size w w'):=n7 hkw hsb c0 hl hn.lt hn.c0 hn.c1
 have fC:=hid hkw
 have hnlt:=hn.lt
 have hbw:=hsr.lb
 clear hl hn hsr hkw
 go_enter Tryz.func257,Tryz.ntmps257
 go_wp2_with fail
 refine HT.out.mono ?_
 rintro e w1 ⟨v,rfl,ho,hb1⟩
 rw [hi] at ho
 obtain ⟨g,go,gc,rfl,hg⟩:∃ g go gc,v = .slice (some ⟨g,go,none⟩) (more.length+1) gc/\Hi w1 g go (eH (i::more)):=by
  rcases ho.si with ⟨_,h⟩ | ⟨g,go,gc,e,h⟩
  ·simp at h
  ·exact ⟨g,go,gc,by simpa using e,h⟩
 have g0:=hg.n 0 (by simp)
 simp only [Nat.add_zero,List.map_cons,List.getElem_cons_zero] at g0
 have vG:=hid (HN.out.below hb1)
 have q4:=vG.out.c4
 have f4:=vG.out.fz 4
 have HB1:=hid hb1
 have hz:=hb1.size
 clear HT hg ho hb1
 go_wp2_with fail
 have Kz:Hid (oK (w1.setCell ⟨nb,4,none⟩ (.int .i64 (i:Int))) nb bU name a o (i:Int) ce):=vG.out.Tq _
 have aY:Hid (Kept nb w (w1.setCell ⟨nb,4,none⟩ (.int .i64 (i:Int)))):=(Kept.below HB1.out).setCell 4 _
 have hz2:(w1.setCell ⟨nb,4,none⟩ (.int .i64 (i:Int))).heap.size=w1.heap.size:=by simp [World.setCell]
 clear g0 q4 f4 vG HB1
 generalize w1.setCell ⟨nb,4,none⟩ (.int .i64 (i:Int))=w2 at *
 have k0:=(aY.out.cell (p:=⟨sb,0,none⟩) hsb (Ne.symm hsn)).trans c0
 obtain ⟨tv,d0,d1,d2,d3,ht⟩:=(HS.out.same fC.out (Low.kE aY.out hkn) (aY.out.block b hbw (by omega))).at_ i hlt
 have HT:=hid ht
 have HC:Hid (∀ w3,Gr w2 w3->Calls Tryz.prog 178 #[sE tv, .string (bz name)] w3 λe w'=>e = .returned (.int .i64 (cellOf name lv[i].2.cols))/\Gr w3 w'):=λw3 g=>oG (ht.low (cE fC.out aY.out.size) (Low.dZ g)) name
 obtain ⟨tn,ca,cl,cc,ra,rl,rc⟩:=tv
 obtain ⟨Vq,n0,n1,n2,n3,n4,n5,nf⟩:=Kz.out
 have f5:=nf 5
 clear nf ht
 have HV:Hid (lv[i]?.map (·.2)=some lv[i].2):=by show _=_;rw [rI hlt];rfl
 generalize lv[i].2=t at *
 have hi1:(i:Int)<(lv.length:Int):=by omega
 have hbn:b≠nb:=by omega
 go_region_held3 (λw'=>w'.cell? ⟨sb,0,none⟩=some (.slice (some ⟨b,0,none⟩) lv.length cp)/\w'.cell? ⟨nb,4,none⟩=some (.int .i64 (i:Int))/\w'.cell? ⟨nb,1,none⟩=some (.string (bz name))/\w'.cell? ⟨b,i*4+1,none⟩=some (.string tn)/\w'.cell? ⟨b,i*4+2,none⟩=some (.slice ca cl cc)/\w'.cell? ⟨b,i*4+3,none⟩=some (.slice ra rl rc)) (first | go_keep | exact ⟨k0,n4,n1,d1,d2,d3⟩ | exact ⟨y0,y1,y2,y3,y4,y5⟩) ((go_at_call 178;refine (HC.out _ ((Gr.refl _).drew)).mono ?_;rintro e w3 ⟨rfl,g3⟩;have gA:Gr w2 w3:=((Gr.refl _).drew).trans g3;have hN3:=Kz.out.below gA.below;have p5:=hN3.c5;have p0:=hN3.fz 5;have x0:=(gA.cell (p:=⟨sb,0,none⟩) (by show sb<_;omega)).trans k0;have x1:=(gA.cell (p:=⟨nb,4,none⟩) Vq).trans n4;have x2:=(gA.cell (p:=⟨nb,1,none⟩) Vq).trans n1;have x3:=(gA.cell (p:=⟨b,i*4+1,none⟩) (by show b<_;omega)).trans d1;have x4:=(gA.cell (p:=⟨b,i*4+2,none⟩) (by show b<_;omega)).trans d2;have x5:=(gA.cell (p:=⟨b,i*4+3,none⟩) (by show b<_;omega)).trans d3;have hP:=hN3.P0 (cellOf name t.cols);have y1:=hP.c4;have y2:=hP.c1;have y0:=(fB (w:=w3) (a:=⟨sb,0,none⟩) (dQ w3 ⟨nb,5,none⟩ (.int .i64 (cellOf name t.cols)) sb (Ne.symm hsn))).trans x0;have y3:=(fB (w:=w3) (a:=⟨b,i*4+1,none⟩) (dQ w3 ⟨nb,5,none⟩ (.int .i64 (cellOf name t.cols)) b hbn)).trans x3;have y4:=(fB (w:=w3) (a:=⟨b,i*4+2,none⟩) (dQ w3 ⟨nb,5,none⟩ (.int .i64 (cellOf name t.cols)) b hbn)).trans x4;have y5:=(fB (w:=w3) (a:=⟨b,i*4+3,none⟩) (dQ w3 ⟨nb,5,none⟩ (.int .i64 (cellOf name t.cols)) b hbn)).trans x5;try exact ⟨x0,x1,x2,x3,x4,x5⟩))
 have HP:Hid (oK (w3.setCell ⟨nb,5,none⟩ (.int .i64 (cellOf name t.cols))) nb bU name a o (i:Int) (cellOf name t.cols)):=hN3.P0 _
 have HK:Hid (Kept nb w (w3.setCell ⟨nb,5,none⟩ (.int .i64 (cellOf name t.cols)))):=(aY.out.trans (Kept.gr gA)).setCell 5 _
 have r5:=HP.out.c5
 clear hP hN3 y0 y1 y2 y3 y4 y5 x0 x1 x2 x3 x4 x5 p5 p0 gA g3 k0 d0 d1 d2 d3 n0 n1 n2 n3 n4 n5 HC c0
 try clear hHeld
 generalize w3.setCell ⟨nb,5,none⟩ (.int .i64 (cellOf name t.cols))=w4 at *
 cases more with
 | nil=>
  go_wp2_with fail
  go_ret
  exact ⟨_,HV.out,by simp,HP.out,HK.out⟩
 | cons x more=>
  have hne:((((x::more).length+1:Nat):Int) == 1)=false:=by simp;omega
  go_wp2_with fail
  go_ret
  exact ⟨_,HV.out,by simp,HP.out,HK.out⟩
theorem Fc.Tr {cb nb:Nat} {w w' : World} (h:Kept nb w w') (hs:∃ s,w.cell? ⟨nb,0,none⟩=some (.string s)):Fc cb nb (nb+1) w w':=⟨h.os,h.tape,h.output,h.size,λk hk _ hn=>h.block k hk (by omega),λk hk _ hx=>h.block k hk (λe=>by
 obtain ⟨s,e1⟩:=hs
 obtain ⟨a,n,c,e2⟩:=hx
 rw [e,e1] at e2
 cases e2)⟩
theorem Dx (bU name:Sp.Bs) (a o sr:Nat) (ce:Int) (c:CS):column bU name a o sr ce [] c=(0,c.fail 4 a, .col bU name a o sr ce):=rfl
theorem Dy (bU name:Sp.Bs) (a o sr:Nat) (ce:Int) (c:CS) (lv:Sp.Lv) (r:List Sp.Lv) (h:b7 bU name lv = []):column bU name a o sr ce (lv::r) c=column bU name a (o+1) sr ce r c:=by
 rw [column,h]
theorem Dz (bU name:Sp.Bs) (a o sr:Nat) (ce:Int) (c:CS) (lv:Sp.Lv) (r:List Sp.Lv) (i:Nat) (more:List Nat) (t:Sp.Tb) (h:b7 bU name lv=i::more) (ht:lv[i]?.map (·.2)=some t) (hy:(more.isEmpty&&decide (0<=cellOf name t.cols))=true) :
  column bU name a o sr ce (lv::r) c=(((t.cols[(cellOf name t.cols).toNat]?).map (·.2)).getD 0,c, .col bU name a o i (cellOf name t.cols)):=by
 rw [column,h];simp only [ht,Option.getD_some,hy,if_true]
theorem Bd (bU name:Sp.Bs) (a o sr:Nat) (ce:Int) (c:CS) (lv:Sp.Lv) (r:List Sp.Lv) (i:Nat) (more:List Nat) (t:Sp.Tb) (h:b7 bU name lv=i::more) (ht:lv[i]?.map (·.2)=some t) (hy:(more.isEmpty&&decide (0<=cellOf name t.cols))=false) :
  column bU name a o sr ce (lv::r) c=(0,c.fail 4 a, .col bU name a o i (cellOf name t.cols)):=by
 rw [column,h];simp only [ht,Option.getD_some,hy];rfl
theorem Be {cb k m nb:Nat} {tv:Value} {c:CS} {w:World} {bU name:Sp.Bs} {a sr:Nat} {o ce:Int} {aE:List Sp.Lv} {iv:Value} (h:CB cb tv c w) (hkw:k<=w.heap.size) (hn:oK w nb bU name (a:Nat) o (sr:Nat) ce) (hs:wN k m w aE iv) (_hkc:k<=cb) (hkn:k<=nb) (hnc:nb<cb) (hcm:cb<m) (hlv:aE.length<=100000) :
  Calls Tryz.prog 221 #[.pointer (some ⟨cb,0,none⟩), .pointer (some ⟨nb,0,none⟩),iv] w λe w'=>∃ (o' Ts : Nat) (Tt : Int),(column bU name a 0 sr ce aE c).2.2 = .col bU name a o' Ts Tt/\e = .returned (.int .i64 (column bU name a 0 sr ce aE c).1)/\oK w' nb bU name (a:Nat) (o' : Nat) (Ts : Nat) Tt/\CB cb tv (column bU name a 0 sr ce aE c).2.1 w'/\Fc cb nb (nb+1) w w':=by
 have HH:=hid h
 have HS:=hid hs
 have HN:=hid hn
 have fC:=hid hkw
 obtain ⟨ia,rfl⟩:=hs.ptr
 have q3:=hn.c3
 have f3:=hn.fz 3
 have hnw:=hn.lt
 have hcw:=h.lt
 clear h hs hkw hn
 go_enter Tryz.func221,Tryz.ntmps221
 go_wp2_with fail
 have vG:Hid (oK (w.setCell ⟨nb,3,none⟩ (.int .i64 0)) nb bU name (a:Nat) 0 (sr:Nat) ce):=HN.out.IF 0
 have bD:Hid (Kept nb w (w.setCell ⟨nb,3,none⟩ (.int .i64 0))):=(Kept.refl nb w).setCell 3 _
 clear q3 f3
 generalize w.setCell ⟨nb,3,none⟩ (.int .i64 0)=w1 at *
 have NE:Hid (wN k m w1 aE (.pointer ia)):=HS.out.ou fC.out (Ou.kept bD.out hkn (by omega))
 go_loopg [2] aE.length (λgm iv wr=>∃ (rest:List Sp.Lv) (o:Nat),gm=rest.length/\o+rest.length=aE.length/\Hid (wN k m wr rest iv)/\Hid (Kept nb w wr)/\Hid (oK wr nb bU name (a:Nat) (o:Nat) (sr:Nat) ce)/\Hid (column bU name a 0 sr ce aE c=column bU name a o sr ce rest c))
 case atStart=>exact ⟨aE,0,rfl,by omega,NE,bD,vG,rfl⟩
 case round=>
  obtain ⟨rest,o,rfl,ho,Mp,HK,KB,HP⟩:=hrel
  have HC:Hid (CB cb tv c wr):=HH.out.same HK.out.size (HK.out.block cb hcw (by omega))
  have hkr:Hid (k<=wr.heap.size):=cE fC.out HK.out.size
  cases rest with
  | nil=>
   have e:=Mp.out
   simp only [wN] at e
   subst e
   have q2:=KB.out.c2
   go_wp2_with fail
   refine (cU HC.out 4 a).mono ?_
   rintro e w2 ⟨rfl,h2,k2⟩
   have HR:Hid (CB cb tv (c.fail 4 a) w2/\Fc cb nb (nb+1) w w2/\oK w2 nb bU name (a:Nat) (o:Nat) (sr:Nat) ce):=⟨h2,(Fc.Tr HK.out ⟨_,HN.out.c0⟩).trans (Fc.of k2),KB.out.same k2.size (k2.block nb KB.out.lt (by omega))⟩
   clear h2 k2 q2
   go_wp2_with fail
   go_ret
   rw [HP.out,Dx]
   exact ⟨o,sr,ce,rfl,rfl,HR.out.2.2,HR.out.1,HR.out.2.1⟩
  | cons lv r=>
   obtain ⟨sb,sv,ov,rfl,hb,hl,c0,c1,hsv,hr⟩:=Mp.out
   have HT:Hid (Calls Tryz.prog 256 #[.pointer (some ⟨sb,0,none⟩), .pointer (some ⟨nb,0,none⟩)] wr λe w'=>∃ v,e = .returned v/\dX wr.heap.size w' v (eH (b7 bU name lv))/\Below wr.heap.size wr w'):=n7 hkr.out hl c0 hsv KB.out.lt KB.out.c0 KB.out.c1
   have HR:=hid hr
   have O9:=hid hsv
   obtain ⟨oa,rfl⟩:=hr.ptr
   clear hsv hr
   go_wp2_with fail
   refine HT.out.mono ?_
   rintro e w2 ⟨v,rfl,ho2,hb2⟩
   have HB2:=hid hb2
   have Kz:=hid (KB.out.below hb2)
   have c1':=(hb2.cell (p:=⟨sb,1,none⟩) hl).trans c1
   obtain ⟨va,vc,rfl⟩:=ho2.sl
   cases hT:b7 bU name lv with
   | nil=>
    rw [show (eH ([]:List Nat)).length=0 from rfl]
    have q3:=Kz.out.c3
    have f3:=Kz.out.fz 3
    have HP2:Hid (column bU name a 0 sr ce aE c=column bU name a (o+1) sr ce r c):=by show _=_;rw [HP.out,Dy _ _ _ _ _ _ _ _ _ hT]
    have ho' : o<100000:=by simp at ho;omega
    clear hb2 ho2 hT HT
    go_wp2_with fail
    go_roundg r.length
    case measure=>simp
    case rel=>exact ⟨r,o+1,rfl,by simp at ho;omega,(HR.out.ou hkr.out (Ou.below HB2.out)).ou (cE hkr.out HB2.out.size) (Ou.kept ((Kept.refl nb w2).setCell 3 _) hkn (by omega)),(HK.out.trans (Kept.below HB2.out)).setCell 3 _,Kz.out.IF _,HP2.out⟩
   | cons i more=>
    rw [show (eH (i::more)).length=more.length+1 by simp]
    have HM:Hid (Calls Tryz.prog 257 #[.pointer (some ⟨sb,0,none⟩), .pointer (some ⟨nb,0,none⟩)] w2 λe w'=>∃ t,lv[i]?.map (·.2)=some t/\e = .returned (.bool (more.isEmpty&&decide (0<=cellOf name t.cols)))/\oK w' nb bU name (a:Nat) (o:Nat) (i:Int) (cellOf name t.cols)/\Kept nb w2 w'):=
     Gp (cE hkr.out HB2.out.size) (bY hl HB2.out.size) (by omega) hkn (by omega) ((HB2.out.cell (p:=⟨sb,0,none⟩) hl).trans c0) (O9.out.ou hkr.out (Ou.below HB2.out)) Kz.out hT
    have RU:=hid hT
    have hne:((((more.length+1:Nat)):Int) == 0)=false:=by simp;omega
    have hlt:=I2 hT
    clear hb2 ho2 hT HT c1'
    go_wp2_with fail
    refine HM.out.mono ?_
    rintro e w3 ⟨t,ht,rfl,hn3,hk3⟩
    have Pa:=hid hn3
    have bH:Hid (Kept nb wr w3):=(Kept.below HB2.out).trans hk3
    have Tu:=hid ht
    clear hn3 hk3 HM
    cases hy:(more.isEmpty&&decide (0<=cellOf name t.cols))
    ·have q2:=Pa.out.c2
     have zA:Hid (CB cb tv c w3):=HC.out.same bH.out.size (bH.out.block cb HC.out.lt (by omega))
     go_wp2_with fail
     refine (cU zA.out 4 a).mono ?_
     rintro e w4 ⟨rfl,h4,k4⟩
     have HR4:Hid (CB cb tv (c.fail 4 a) w4/\Fc cb nb (nb+1) w w4/\oK w4 nb bU name (a:Nat) (o:Nat) (i:Int) (cellOf name t.cols)):=⟨h4,(Fc.Tr (HK.out.trans bH.out) ⟨_,HN.out.c0⟩).trans (Fc.of k4),Pa.out.same k4.size (k4.block nb Pa.out.lt (by omega))⟩
     clear h4 k4 q2
     go_wp2_with fail
     go_ret
     rw [HP.out,Bd _ _ _ _ _ _ _ _ _ _ _ t RU.out Tu.out hy]
     exact ⟨o,i,_,rfl,rfl,HR4.out.2.2,HR4.out.1,HR4.out.2.1⟩
    ·obtain ⟨b,cp,rfl,hbm,hsr⟩:∃ b c,sv = .slice (some ⟨b,0,none⟩) lv.length c/\m<=b/\NC k wr b lv:=by
      rcases O9.out.2 with ⟨rfl,_⟩ | h
      ·simp at hlt
      ·exact h
     have hlv1:=O9.out.1
     obtain ⟨tv',d0,d1,d2,d3,htb⟩:=(hsr.same hkr.out (Low.kE bH.out hkn) (bH.out.block b hsr.lb (by omega))).at_ i hlt
     have ht2:lv[i].2=t:=by have:=Tu.out;rw [rI hlt] at this;exact Option.some.inj this
     rw [ht2] at htb
     have hy2:0<=cellOf name t.cols:=by simp at hy;exact hy.2
     have hcl:=nK name t.cols
     obtain ⟨EW,KU,e1,e2,hck,hcols⟩:∃ b off,tv'.ca=some ⟨b,off,none⟩/\tv'.cl=t.cols.length/\b<k/\oD w3 b off (t.cols.map λx=>(bz x.1,x.2)):=by
      rcases htb.cols with ⟨e,_⟩ | h
      ·rw [e] at hy2;simp [cellOf] at hy2
      ·exact h
     obtain ⟨q,hq⟩:∃ q:Nat,cellOf name t.cols=(q:Int):=⟨(cellOf name t.cols).toNat,by omega⟩
     have NK:q<t.cols.length:=by omega
     have hqi:(q:Int)<(t.cols.length:Int):=by omega
     have f1:=hcols.t q (by simpa using NK)
     simp only [List.getElem_map] at f1
     obtain ⟨tn,ca,cl,cc,ra,rl,rc⟩:=tv'
     simp only [] at e1 e2
     subst e1 e2
     have Vr : w3.cell? ⟨b,i*4+2,none⟩=some (.slice (some ⟨EW,KU,none⟩) t.cols.length cc):=d2
     clear d2 d3 d0 d1
     have k0:=(bH.out.cell (p:=⟨sb,0,none⟩) hl (by show sb≠nb;omega)).trans c0
     have n4:=Pa.out.c4
     have n5:=Pa.out.c5
     rw [hq] at n5
     have HE:Hid (((t.cols[(cellOf name t.cols).toNat]?).map (·.2)).getD 0=t.cols[q].2):=by show _=_;rw [hq,Int.toNat_natCast,rI NK];rfl
     have HF:Hid (column bU name a 0 sr ce aE c=(t.cols[q].2,c, .col bU name a o i (cellOf name t.cols))):=by show _=_;rw [HP.out,Dz _ _ _ _ _ _ _ _ _ _ _ t RU.out Tu.out hy,HE.out]
     have zA:Hid (CB cb tv c w3):=HC.out.same bH.out.size (bH.out.block cb HC.out.lt (by omega))
     have hi1:(i:Int)<(lv.length:Int):=by omega
     have hcn:t.cols.length<=50:=htb.iC
     clear htb hcols hsr hcl ht2 HE hy2
     generalize t.cols[q].2=ty at f1 HF
     go_wp2_with fail
     go_region
     go_wp2_with fail
     go_ret
     rw [HF.out]
     exact ⟨o,i,_,rfl,rfl,Pa.out.same (by simp) rfl,zA.out.same (by simp) rfl,(Fc.Tr (HK.out.trans bH.out) ⟨_,HN.out.c0⟩).drewN _⟩
open Go.RowKit
attribute [local go_sem ↓] Go.wp_at_zero Go.wp_at_succ
def Tv (v:Value):Prop:=∃ x a y c,v = .agg #[.string x, .int .i64 a, .string y, .int .i64 c]
abbrev Tw (x:Nm×Nm):Value := .agg #[.string (bz x.1.1), .int .i64 (x.1.2:Nat), .string (bz x.2.1), .int .i64 (x.2.2:Nat)]
def kZ (s:Sp.Bs) (σ:St):St:=if (σ.aC s).cG s .name then (σ.aC s).step s else σ.aC s
def oL (s:Sp.Bs) (σ:St):Nm×Nm:=(σ.nm s,if (σ.aC s).cG s .name then (σ.aC s).nm s else σ.nm s)
theorem Gq {s:Sp.Bs} {σ:St} (h:(kZ s σ).aA=true):(σ.aC s).aA=true:=by
 unfold kZ at h
 split at h
 ·exact cP h
 ·exact h
theorem Bf (s:Sp.Bs) (σ:St):rem s (kZ s σ)<=rem s σ:=by
 unfold kZ
 split
 ·exact cE (cC _ _) (dL _ _)
 ·exact dL _ _
theorem K3 {c:Nat} {s:Sp.Bs} {len i:Nat} {σ:St} {w:World} {wd:ByteArray} (tk:TK s len) (hi:IX s len i σ) (_tc:TC c s w i wd):(kn (aD s (pos s i)) == 3)=σ.cG s .name:=by
 cases σ with
 | live e=>
  rw [hi.2]
  show _=(aD s e == .name)
  cases aD s e <;> rfl
 | dead x a=>
  rcases tk.last i hi.1 with h | h <;> rw [h] <;> rfl
theorem mC {x y:ByteArray} {a c:Int} (h:Value.agg #[.string x, .int .i64 a] = .agg #[.string y, .int .i64 c]):x=y/\a=c:=by
 simp only [Value.agg.injEq] at h
 have e0:=congrArg (λx:Array Value=>x[0]?) h
 have e1:=congrArg (λx:Array Value=>x[1]?) h
 simp at e0 e1
 exact ⟨e0,e1⟩
theorem tP {b c cap len:Nat} {s:Sp.Bs} {d:Nat} {σ:St} {w:World} (h:PS b c cap len s d σ w) :
  Calls Tryz.prog 217 #[.pointer (some ⟨b,0,none⟩)] w (aX b c cap len s d (kZ s σ) w Tv λ_ v=>v=Tw (oL s σ)):=by
 have hbw:=h.lb
 have hcw:=h.lc
 have HH:Hid (PS b c cap len s d σ (w.alloc (.cells #[.string ⟨#[]⟩, .int .i64 0, .string ⟨#[]⟩, .int .i64 0] 337))):=h.alloc _
 have pH:Hid (Kept b w (w.alloc (.cells #[.string ⟨#[]⟩, .int .i64 0, .string ⟨#[]⟩, .int .i64 0] 337))):=(Kept.refl b w).alloc _
 have HB0:Hid (Bk (w.alloc (.cells #[.string ⟨#[]⟩, .int .i64 0, .string ⟨#[]⟩, .int .i64 0] 337)) w.heap.size [.string ⟨#[]⟩, .int .i64 0, .string ⟨#[]⟩, .int .i64 0]):=Bk.new _ _ _
 clear h
 have hfd:=AK
 go_enter Tryz.func217,Tryz.ntmps217
 go_wp2_with fail
 generalize w.alloc (.cells #[.string ⟨#[]⟩, .int .i64 0, .string ⟨#[]⟩, .int .i64 0] 337)=w0 at *
 refine (name_any HH.out).mono ?_
 rintro r w1 ⟨v1,rfl,hp1,hk1,⟨nL,a1,rfl⟩,hr1⟩
 have bT:Hid (PS b c cap len s d (σ.aC s) (w1.alloc (.cells #[.string nL, .int .i64 a1] 165))):=hp1.alloc _
 have bD:Hid (Kept b w (w1.alloc (.cells #[.string nL, .int .i64 a1] 165))):=(pH.out.trans hk1).alloc _
 have HB1:Hid (Bk (w1.alloc (.cells #[.string nL, .int .i64 a1] 165)) w.heap.size [.string ⟨#[]⟩, .int .i64 0, .string ⟨#[]⟩, .int .i64 0]):=(HB0.out.kept hk1 (by omega)).alloc _
 have qB:Hid (Bk (w1.alloc (.cells #[.string nL, .int .i64 a1] 165)) w1.heap.size [.string nL, .int .i64 a1]):=Bk.new _ _ _
 have hz1:w.heap.size<=w1.heap.size:=(pH.out.trans hk1).size
 have hzs:w.heap.size+1<=w1.heap.size:=bY HB0.out.lt hk1.size
 have hne:w.heap.size≠w1.heap.size:=by omega
 have hne' : w1.heap.size≠w.heap.size:=by omega
 have HR1:Hid ((σ.aC s).aA=true->nL=bz (σ.word s)/\a1=(σ.at_ s:Nat)):=λhl=>mC (hr1 hl)
 obtain ⟨i,wd,hi,tc,PK⟩:=bG bT.out
 have hk3:=K3 bT.out.tk hi tc
 have gJ:Hid (∀ w',w'=w1.alloc (.cells #[.string nL, .int .i64 a1] 165)->Calls Tryz.prog 75 #[.pointer (some ⟨b,0,none⟩)] w' λr w''=>r = .returned (.agg #[.int .i64 (kn (aD s (pos s i))), .int .i64 (aO s (pos s i):Nat), .string wd])/\Below (w1.alloc (.cells #[.string nL, .int .i64 a1] 165)).heap.size (w1.alloc (.cells #[.string nL, .int .i64 a1] 165)) w''):=λw' e=>by subst e;exact PK
 clear hp1 hk1 hr1 hi tc PK HH HB0
 generalize kn (aD s (pos s i))=kk at *
 generalize aO s (pos s i)=aa at *
 go_wp2_with fail
 refine (gJ.out _ rfl).mono ?_
 clear gJ
 rintro r w2 ⟨rfl,hb2⟩
 generalize (w1.alloc (.cells #[.string nL, .int .i64 a1] 165))=w1' at *
 have HP2:=hid (bT.out.below hb2)
 have aY:Hid (Kept b w w2):=bD.out.trans (Kept.below hb2)
 have HB2:=hid (HB1.out.below hb2)
 have iN:=hid (qB.out.below hb2)
 clear hb2 bT bD HB1 qB
 have hx:=iN.out.lt
 have x0:=iN.out.k0
 have x1:=iN.out.k1
 cases hs:(σ.aC s).cG s .name
 ·rw [hs] at hk3
  have HV:Hid (kZ s σ=σ.aC s/\oL s σ=(σ.nm s,σ.nm s)):=⟨by rw [kZ,hs];rfl,by rw [oL,hs];rfl⟩
  have c0:=HB2.out.c 0 (by decide)
  have c1:=HB2.out.c 1 (by decide)
  have c2:=HB2.out.c 2 (by decide)
  have c3:=HB2.out.c 3 (by decide)
  have f0:=HB2.out.f 0
  have f1:=HB2.out.f 1
  have f2:=HB2.out.f 2
  have f3:=HB2.out.f 3
  simp only [List.getElem_cons_zero,List.getElem_cons_succ] at c0 c1 c2 c3
  go_wp2_with fail
  exact cL (v := .agg #[.string nL, .int .i64 a1, .string nL, .int .i64 a1]) (by simp [results,Tryz.results217,go_sem, *]) rfl ⟨_,rfl,by rw [HV.out.1];exact (((HP2.out.put w.heap.size 0 (by omega) (by omega) _).put w.heap.size 1 (by omega) (by omega) _).put w.heap.size 2 (by omega) (by omega) _).put w.heap.size 3 (by omega) (by omega) _,(((aY.out.aJ (by simp) _).aJ (by simp) _).aJ (by simp) _).aJ (by simp) _,⟨_,_,_,_,rfl⟩,λhl=>by
   obtain ⟨e1,e2⟩:=HR1.out (Gq hl)
   subst e1 e2
   rw [HV.out.2];rfl⟩
 ·rw [hs] at hk3
  have HV:Hid (kZ s σ=(σ.aC s).step s/\oL s σ=(σ.nm s,(σ.aC s).nm s)):=⟨by rw [kZ,hs];rfl,by rw [oL,hs];rfl⟩
  have Xs:Hid ((σ.aC s).aC s=(σ.aC s).step s):=by show _=_;rw [St.aC,hs];rfl
  go_wp2_with fail
  go_region_held3 (λw'=>w'.cell? ⟨w1.heap.size,0,none⟩=some (.string nL)/\w'.cell? ⟨w1.heap.size,1,none⟩=some (.int .i64 a1)) (first | go_keep | exact ⟨y0,y1⟩ | (constructor <;> go_simp)) ((go_at_call 79;refine (name_any HP2.out.drew).mono ?_;rintro e w4 ⟨v4,rfl,gD,hk4,⟨wd4,a4,rfl⟩,hr4⟩;rw [Xs.out] at gD hr4;have jH : Kept b w2 w4:=((Kept.refl b w2).drew).trans hk4;have sN:=iN.out.kept jH (by omega);have hB4:=HB2.out.kept jH (by omega);have hy:=sN.lt;have y0:=sN.c 0 (by simp);have y1:=sN.c 1 (by simp);have c0:=hB4.c 0 (by decide);have c1:=hB4.c 1 (by decide);have c2:=hB4.c 2 (by decide);have c3:=hB4.c 3 (by decide);have f0:=hB4.f 0;have f1:=hB4.f 1;have f2:=hB4.f 2;have f3:=hB4.f 3;simp only [List.getElem_cons_zero,List.getElem_cons_succ] at y0 y1 c0 c1 c2 c3))
  have gY:=hid gD
  have eC:Hid (Kept b w w4):=aY.out.trans jH
  have HR4:Hid (((σ.aC s).step s).aA=true->wd4=bz ((σ.aC s).word s)/\a4=((σ.aC s).at_ s:Nat)):=λhl=>mC (hr4 hl)
  clear gD hk4 hr4 jH sN hB4 x0 x1
  go_wp2_with fail
  exact cL (v := .agg #[.string nL, .int .i64 a1, .string wd4, .int .i64 a4]) (by simp [results,Tryz.results217,go_sem, *]) rfl ⟨_,rfl,by rw [HV.out.1];exact (((gY.out.put w.heap.size 0 (by omega) (by omega) _).put w.heap.size 1 (by omega) (by omega) _).put w.heap.size 2 (by omega) (by omega) _).put w.heap.size 3 (by omega) (by omega) _,(((eC.out.aJ (by simp) _).aJ (by simp) _).aJ (by simp) _).aJ (by simp) _,⟨_,_,_,_,rfl⟩,λhl=>by
   rw [HV.out.1] at hl
   obtain ⟨e1,e2⟩:=HR1.out (cP hl)
   obtain ⟨e3,e4⟩:=HR4.out hl
   subst e1 e2 e3 e4
   rw [HV.out.2];rfl⟩
end Go.Proofs.YtgnncnhkgmhngaaGreatDoor
namespace Go.Proofs.YtgnncnhkgmhngaaGreatDoor
open Sp
open Go.RowKit
def fJ:List (Nm×Nm)->List Value
 | [] => []
 | ((tw,ta),(cw,ca))::r => .string (bz tw) :: .int .i64 (ta:Int) :: .string (bz cw) :: .int .i64 (ca:Int)::fJ r
theorem n8:∀ (l:List (Nm×Nm)) (x:Nm×Nm),fJ (l ++ [x])=fJ l ++ [.string (bz x.1.1), .int .i64 (x.1.2:Int), .string (bz x.2.1), .int .i64 (x.2.2:Int)]
 | [],((_,_),(_,_))=>rfl
 | ((tw,ta),(cw,ca))::r,x=>by simp only [List.cons_append,fJ,n8 r x]
theorem fX.of {w:World} {g:Nat} : ∀ {l:List (Nm×Nm)} {off:Nat},(∀ j u,(fJ l)[j]?=some u->w.cell? ⟨g,off+j,none⟩=some u)->fX w g off l
 | [],_,_=>trivial
 | ((tw,ta),(cw,ca))::r,off,h=>
  ⟨by simpa using h 0 _ rfl,h 1 _ rfl,h 2 _ rfl,h 3 _ rfl,fX.of λj u hj=>by have:=h (j+4) u (by simpa [fJ] using hj);rw [show off+4+j=off+(j+4) by omega];exact this⟩
def ME (s:Sp.Bs) (m d:Nat) (σ:St):St:=if σ.is s [44] then Sp.run s m .eU d (σ.step s) else σ
def MF (s:Sp.Bs) (m:Nat) (σ:St):List (Nm×Nm):=if σ.is s [44] then Sp.tr.froms s m (σ.step s) else []
theorem Bg (s:Sp.Bs) (m d:Nat) (σ:St):Sp.run s (m+1) .eU d σ=ME s m d (kZ s σ):=by
 rw [Sp.run,ME,kZ]
theorem tQ (s:Sp.Bs) (m:Nat) (σ:St):Sp.tr.froms s (m+1) σ=oL s σ::MF s m (kZ s σ):=by
 rw [Sp.tr.froms,MF,kZ,oL]
 split <;> split <;> rfl
theorem DA:(Tryz.prog.info? 337).map (λi=>(i.zero,i.size,i.bytes))=some (some (.agg #[.string ⟨#[]⟩, .int .i64 0, .string ⟨#[]⟩, .int .i64 0]),4,48):=by kernel_rfl
theorem Gs {b c cap len:Nat} {s:Sp.Bs} {n d:Nat} {σ:St} {w:World} (hn:n<=1000000) (hm:32*rem s σ+2<=n+1) (hp:PS b c cap len s d σ w) :
  Calls Tryz.prog 216 #[.pointer (some ⟨b,0,none⟩), .func (.func 217) #[.pointer (some ⟨b,0,none⟩)] #[]] w (aX b c cap len s d (Sp.run s (n+1) .eU d σ) w qJ λw' v=>∃ g kc,v = .slice (some ⟨g,0,none⟩) (Sp.tr.froms s (n+1) σ).length kc/\w.heap.size<=g/\g<w'.heap.size/\fX w' g 0 (Sp.tr.froms s (n+1) σ)):=by
 obtain ⟨i0,ji,fR,jz1,fS⟩:=info_parts DA
 have hr:=Bf s σ
 have hbw:=hp.lb
 have hcw:=hp.lc
 have PY:=hp.h5.1
 have HP:=hid hp
 clear hp
 go_enter Tryz.func216,Tryz.ntmps216
 go_wp2_with fail
 refine (tP HP.out).mono ?_
 rintro r w1 ⟨v1,rfl,hp1,hk1,⟨x1,y1,z1,u1,rfl⟩,hr1⟩
 have bT:Hid (PS b c cap len s d (kZ s σ) (w1.alloc (.cells #[.string x1, .int .i64 y1, .string z1, .int .i64 u1] 337))):=hp1.alloc _
 have bD:Hid (Kept b w (w1.alloc (.cells #[.string x1, .int .i64 y1, .string z1, .int .i64 u1] 337))):=hk1.alloc _
 have hz1':=hk1.size
 have H9:Hid ((w1.alloc (.cells #[.string x1, .int .i64 y1, .string z1, .int .i64 u1] 337)).ownsRow w.heap.size 337 4 (.slice (some ⟨w1.heap.size,0,none⟩) 1 1) 1 [.string x1, .int .i64 y1, .string z1, .int .i64 u1]):=jR w1 w.heap.size hz1' 337 4 #[.string x1, .int .i64 y1, .string z1, .int .i64 u1] 1 rfl (by unfold maxLen;omega)
 have HR1:Hid ((kZ s σ).aA=true -> [.string x1, .int .i64 y1, .string z1, .int .i64 u1]=fJ [oL s σ]):=λhl=>by
  have e:=hr1 hl
  simp only [Tw,Value.agg.injEq] at e
  have:=congrArg Array.toList e
  simpa [fJ] using this
 clear hp1 hk1 hr1 HP
 go_wp2_with fail
 go_loopg [5] n (λgm v wr=>gm<=n/\∃ (σ' : St) (ns:List (Nm×Nm)) (xs:List Value) (g k kc:Nat),v = .slice (some ⟨g,0,none⟩) k kc/\k+gm<=n+1/\32*rem s σ'<=gm/\w.heap.size<=g/\g<wr.heap.size/\Hid (k=ns.length)/\Hid (Sp.run s (n+1) .eU d σ=ME s gm d σ')/\Hid (Sp.tr.froms s (n+1) σ=ns++MF s gm σ')/\Hid (PS b c cap len s d σ' wr)/\Hid (Kept b w wr)/\Hid (wr.ownsRow w.heap.size 337 4 (.slice (some ⟨g,0,none⟩) k kc) k xs)/\Hid (σ'.aA=true->xs=fJ ns))
 case atStart=>exact ⟨aF _,_, [oL s σ], [Value.string x1,Value.int .i64 y1,Value.string z1,Value.int .i64 u1],w1.heap.size,1,1,rfl,by omega,by omega,hz1',by simp,rfl,Bg s n d σ,tQ s n σ,bT.out,bD.out,H9.out,HR1.out⟩
 case round=>
  obtain ⟨hmn,σ',ns,xs,g,k,kc,rfl,hkg,hms,hgw,hgr,A9,HR,o6,j9,fY,HOr,sJ⟩:=hrel
  cases hs:σ'.is s [44]
  ·have HV:Hid (ME s gk d σ'=σ'):=by show _=_;rw [ME,hs];rfl
   have cA:Hid (MF s gk σ' = []):=by show _=_;rw [MF,hs];rfl
   have HT:Hid (σ'.take s [44]=σ'):=bE hs
   go_wp2_with fail
   refine (aW j9.out [44] (by decide)).mono ?_
   rintro r w2 ⟨rfl,hp2,hk2⟩
   rw [HT.out] at hp2
   rw [hs]
   have HP2:Hid (PS b c cap len s d σ' w2):=hp2
   have aY:=hid hk2
   clear hp2 hk2
   go_wp2_with fail
   go_ret
   refine ⟨_,rfl,by rw [HR.out,HV.out];exact HP2.out,fY.out.trans aY.out,⟨_,_,_,rfl⟩,λhl=>?_⟩
   rw [HR.out,HV.out] at hl
   have hz2:=aY.out.size
   have O:=aV HOr.out (aY.out.block g hgr (by omega))
   have e:=sJ.out hl
   refine ⟨g,kc,?_,hgw,by omega,?_⟩
   ·have ek:(Sp.tr.froms s (n+1) σ).length=k:=by rw [o6.out,cA.out,List.append_nil];exact A9.out.symm
    rw [ek];rfl
   ·rw [o6.out,cA.out,List.append_nil]
    refine fX.of λj u hj=>?_
    rw [<- e] at hj
    have:=bO O j u hj
    simpa using this
  ·have h1:=aM hs
   obtain ⟨m,rfl⟩:∃ m,gk=m+1:=⟨gk - 1,by omega⟩
   have HV:Hid (ME s (m+1) d σ'=ME s m d (kZ s (σ'.step s))):=by show _=_;rw [ME,hs];exact Bg s m d _
   have cA:Hid (MF s (m+1) σ'=oL s (σ'.step s)::MF s m (kZ s (σ'.step s))):=by show _=_;rw [MF,hs];exact tQ s m _
   have HT:Hid (σ'.take s [44]=σ'.step s):=aZ hs
   have HL:Hid (σ'.aA=true):=cK hs
   have h2:=Bf s (σ'.step s)
   go_wp2_with fail
   refine (aW j9.out [44] (by decide)).mono ?_
   rintro r w2 ⟨rfl,hp2,hk2⟩
   rw [HT.out] at hp2
   rw [hs]
   have HP2:Hid (PS b c cap len s d (σ'.step s) w2):=hp2
   have aY:=hid hk2
   clear hp2 hk2
   go_wp2_with fail
   refine (tP HP2.out).mono ?_
   rintro r w3 ⟨v3,rfl,hp3,hk3,⟨x3,y3,z3,u3,rfl⟩,hr3⟩
   have cS:=hid hp3
   have bH:=hid hk3
   have HR3:Hid ((kZ s (σ'.step s)).aA=true -> [Value.string x3, .int .i64 y3, .string z3, .int .i64 u3] = [.string (bz (oL s (σ'.step s)).1.1), .int .i64 ((oL s (σ'.step s)).1.2:Int), .string (bz (oL s (σ'.step s)).2.1), .int .i64 ((oL s (σ'.step s)).2.2:Int)]):=λhl=>by
    have e:=hr3 hl
    simp only [Tw,Value.agg.injEq] at e
    exact congrArg Array.toList e
   have hz2:=aY.out.size
   have hz3:=bH.out.size
   have MD:=fY.out.size
   have jG:Hid (w3.ownsRow w.heap.size 337 4 (.slice (some ⟨g,0,none⟩) k kc) k xs):=aV HOr.out ((aY.out.trans bH.out).block g hgr (by omega))
   have vJ:Hid ((w3.alloc (.cells #[.string x3, .int .i64 y3, .string z3, .int .i64 u3] 337)).ownsRow w.heap.size 337 4 (.slice (some ⟨g,0,none⟩) k kc) k xs):=aV jG.out (kX _ _ _ (by omega))
   clear hp3 hk3 hr3 HP2 j9
   go_wp2_with (at_builtin;go_must (refine c6 _ rfl (.tmp 12) (.tmp 15) 333 rfl w.heap.size 337 i0 (.agg #[.string ⟨#[]⟩, .int .i64 0, .string ⟨#[]⟩, .int .i64 0]) 4 48 Tryz.underlying333 ji fR jz1 fS rfl (by decide) g k kc xs rfl vJ.out ⟨w3.heap.size,0,none⟩ 1 [.string x3, .int .i64 y3, .string z3, .int .i64 u3] rfl rfl ?c1 ?c2 ?c3 ?c4 ?c5 ?_))
   case c1=>
    intro j u hj
    rw [Addr.add_lit,Nat.zero_add,oZ]
    simpa using hj
   case c2=>intro u hu;simp at hu;rcases hu with rfl | rfl | rfl | rfl <;> rfl
   case c3=>unfold maxLen;omega
   case c4=>omega
   case c5=>simp;omega
   intro g' gE w5 hown hgrow hg'
   have CU:=hid hown
   have tM:=hid hgrow
   have hg5:=(gC hown)
   clear hown hgrow hg'
   go_wp2_with fail
   go_roundg m
   case measure=>omega
   case rel=>
    have rM:w3.heap.size+1<=w5.heap.size:=by have:=tM.out.size;simpa using this
    have hb5:∀ q,q<w3.heap.size->q≠g->w5.heap[q]?=w3.heap[q]?:=λq hq hn=>(tM.out.block q (by simp;omega) (λe=>by injection e with e;exact hn e)).trans (kX _ _ _ hq)
    refine ⟨by omega,_,ns ++ [oL s (σ'.step s)],xs ++ [Value.string x3,Value.int .i64 y3,Value.string z3,Value.int .i64 u3],g',k+1,gE,rfl,by omega,by omega,hg5.1,hg5.2,by show _=_;rw [List.length_append,<- A9.out];rfl,by show _=_;rw [HR.out,HV.out],by show _=_;rw [o6.out,cA.out,List.append_assoc];rfl,cS.out.stay (by omega) (hb5 b (by omega) (by omega)) (hb5 c (by omega) (by omega)) (hb5 5 (by omega) (by omega)),(((fY.out.trans aY.out).trans bH.out).alloc _).grown tM.out hgw,CU.out,λhl=>?_⟩
    rw [sJ.out HL.out,n8,HR3.out hl]
end Go.Proofs.YtgnncnhkgmhngaaGreatDoor
