import Derived.Test.YtgnncnhkgmhngaaGreatDoorJ12
set_option maxHeartbeats 4000000
set_option maxRecDepth 100000
namespace Go.Proofs.YtgnncnhkgmhngaaGreatDoor
open Go.RowKit Go.Sort
theorem for_lt {tbl name:Sp.Bs} {lv:Sp.Lv} {i:Nat} {more:List Nat} (h:Sp.tablesFor tbl name lv=i::more):i<lv.length:=by
 have:i∈Sp.tablesFor tbl name lv:=by rw [h];simp
 unfold Sp.tablesFor at this
 rw [List.mem_filter,List.mem_range] at this
 exact this.1
theorem for_len (tbl name:Sp.Bs) (lv:Sp.Lv):(Sp.tablesFor tbl name lv).length<=lv.length:=by rw [<- forTo_all];exact forTo_len _ _ _ _
structure Cl6 (w:World) (nb:Nat) (tbl name:Sp.Bs) (a o sr ce:Int):Prop where
 lt:nb<w.heap.size
 c0:w.cell? ⟨nb,0,none⟩=some (.string (bz tbl))
 c1:w.cell? ⟨nb,1,none⟩=some (.string (bz name))
 c2:w.cell? ⟨nb,2,none⟩=some (.int .i64 a)
 c3:w.cell? ⟨nb,3,none⟩=some (.int .i64 o)
 c4:w.cell? ⟨nb,4,none⟩=some (.int .i64 sr)
 c5:w.cell? ⟨nb,5,none⟩=some (.int .i64 ce)
 fz:∀ j,w.frozen? ⟨nb,j,none⟩=false
theorem Cl6.same {w w' : World} {nb:Nat} {tbl name:Sp.Bs} {a o sr ce:Int} (h:Cl6 w nb tbl name a o sr ce) (hs:w.heap.size<=w'.heap.size) (e:w'.heap[nb]?=w.heap[nb]?):Cl6 w' nb tbl name a o sr ce:=by
 have hc:∀ o,w'.cell? ⟨nb,o,none⟩=w.cell? ⟨nb,o,none⟩:=fun o=>World.cell?_of_block (w:=w) (a:=⟨nb,o,none⟩) e
 have hf:∀ o,w'.frozen? ⟨nb,o,none⟩=w.frozen? ⟨nb,o,none⟩:=fun o=>World.frozen?_of_block (w:=w) (a:=⟨nb,o,none⟩) e
 exact ⟨Nat.lt_of_lt_of_le h.lt hs,(hc _).trans h.c0,(hc _).trans h.c1,(hc _).trans h.c2,(hc _).trans h.c3,(hc _).trans h.c4,(hc _).trans h.c5,fun j=>(hf j).trans (h.fz j)⟩
theorem Cl6.below {w w' : World} {nb:Nat} {tbl name:Sp.Bs} {a o sr ce:Int} (h:Cl6 w nb tbl name a o sr ce) (g:Below w.heap.size w w'):Cl6 w' nb tbl name a o sr ce:=h.same g.size (g.block nb h.lt)
theorem Cl6.put3 {w:World} {nb:Nat} {tbl name:Sp.Bs} {a o sr ce:Int} (h:Cl6 w nb tbl name a o sr ce) (x:Int):Cl6 (w.setCell ⟨nb,3,none⟩ (.int .i64 x)) nb tbl name a x sr ce:=by
 obtain ⟨lt,c0,c1,c2,c3,c4,c5,fz⟩:=h
 exact ⟨by simpa [World.setCell] using lt,by go_simp,by go_simp,by go_simp,by go_simp,by go_simp,by go_simp,fun j=>by have:=fz j;go_simp⟩
theorem Cl6.put4 {w:World} {nb:Nat} {tbl name:Sp.Bs} {a o sr ce:Int} (h:Cl6 w nb tbl name a o sr ce) (x:Int):Cl6 (w.setCell ⟨nb,4,none⟩ (.int .i64 x)) nb tbl name a o x ce:=by
 obtain ⟨lt,c0,c1,c2,c3,c4,c5,fz⟩:=h
 exact ⟨by simpa [World.setCell] using lt,by go_simp,by go_simp,by go_simp,by go_simp,by go_simp,by go_simp,fun j=>by have:=fz j;go_simp⟩
theorem Cl6.put5 {w:World} {nb:Nat} {tbl name:Sp.Bs} {a o sr ce:Int} (h:Cl6 w nb tbl name a o sr ce) (x:Int):Cl6 (w.setCell ⟨nb,5,none⟩ (.int .i64 x)) nb tbl name a o sr x:=by
 obtain ⟨lt,c0,c1,c2,c3,c4,c5,fz⟩:=h
 exact ⟨by simpa [World.setCell] using lt,by go_simp,by go_simp,by go_simp,by go_simp,by go_simp,by go_simp,fun j=>by have:=fz j;go_simp⟩
theorem Svs.keptN {k m nb:Nat} {w w' : World} {lv:Sp.Lv} {v:Value} (hk:k<=w.heap.size) (h:Svs k m w lv v) (g:Kept nb w w') (h1:k<=nb) (h2:nb<m):Svs k m w' lv v:=h.ou hk (Ou.kept g h1 h2)
theorem means_any {k m sb nb:Nat} {lv:Sp.Lv} {sv:Value} {w:World} {tbl name:Sp.Bs} {a o sr ce:Int} {i:Nat} {more:List Nat} (hkw:k<=w.heap.size) (hsb:sb<w.heap.size) (hsn:nb≠sb) (hkn:k<=nb) (hnm:nb<m) (c0:w.cell? ⟨sb,0,none⟩=some sv) (hl:Svs k m w lv sv)
  (hn:Cl6 w nb tbl name a o sr ce) (hi:Sp.tablesFor tbl name lv=i::more) :
  Calls Tryz.prog 257 #[.pointer (some ⟨sb,0,none⟩), .pointer (some ⟨nb,0,none⟩)] w fun e w'=>∃ t,lv[i]?.map (·.2)=some t/\e = .returned (.bool (more.isEmpty&&decide (0<=Sp.cellOf name t.cols)))/\Cl6 w' nb tbl name a o (i:Int) (Sp.cellOf name t.cols)/\Kept nb w w':=by
 have hlt:=for_lt hi
 have hln:=for_len tbl name lv
 have hlv:=hl.1
 rw [hi] at hln
 obtain ⟨b,cp,rfl,hbm,hsr⟩:∃ b c,sv = .slice (some ⟨b,0,none⟩) lv.length c/\m<=b/\Srs k w b lv:=by
  rcases hl.2 with ⟨rfl,_⟩ | h
  ·simp at hlt
  ·exact h
 have HN:=hid hn
 have HS:=hid hsr
 have HT:Hid (Calls Tryz.prog 256 #[.pointer (some ⟨sb,0,none⟩), .pointer (some ⟨nb,0,none⟩)] w fun e w'=>∃ v,e = .returned v/\OwI w.heap.size w' v (nats (Sp.tablesFor tbl name lv))/\Below w.heap.size w w'):=tablesFor_any hkw hsb c0 hl hn.lt hn.c0 hn.c1
 have hkw':=hid hkw
 have hnlt:=hn.lt
 have hbw:=hsr.lb
 clear hl hn hsr hkw
 go_enter Tryz.func257,Tryz.ntmps257
 go_wp2_with fail
 refine HT.out.mono ?_
 rintro e w1 ⟨v,rfl,ho,hb1⟩
 rw [hi] at ho
 obtain ⟨g,go,gc,rfl,hg⟩:∃ g go gc,v = .slice (some ⟨g,go,none⟩) (more.length+1) gc/\Hi w1 g go (nats (i::more)):=by
  rcases ho.si with ⟨_,h⟩ | ⟨g,go,gc,e,h⟩
  ·simp at h
  ·exact ⟨g,go,gc,by simpa using e,h⟩
 have g0:=hg.n 0 (by simp)
 simp only [Nat.add_zero,List.map_cons,List.getElem_cons_zero] at g0
 have HN1:=hid (HN.out.below hb1)
 have q4:=HN1.out.c4
 have f4:=HN1.out.fz 4
 have HB1:=hid hb1
 have hz:=hb1.size
 clear HT hg ho hb1
 go_wp2_with fail
 have HN2:Hid (Cl6 (w1.setCell ⟨nb,4,none⟩ (.int .i64 (i:Int))) nb tbl name a o (i:Int) ce):=HN1.out.put4 _
 have HK2:Hid (Kept nb w (w1.setCell ⟨nb,4,none⟩ (.int .i64 (i:Int)))):=(Kept.below HB1.out).setCell 4 _
 have hz2:(w1.setCell ⟨nb,4,none⟩ (.int .i64 (i:Int))).heap.size=w1.heap.size:=by simp [World.setCell]
 clear g0 q4 f4 HN1 HB1
 generalize w1.setCell ⟨nb,4,none⟩ (.int .i64 (i:Int))=w2 at *
 have k0:=(HK2.out.cell (p:=⟨sb,0,none⟩) hsb (Ne.symm hsn)).trans c0
 obtain ⟨tv,d0,d1,d2,d3,ht⟩:=(HS.out.same hkw'.out (Low.of_kept HK2.out hkn) (HK2.out.block b hbw (by omega))).at_ i hlt
 have HT:=hid ht
 have HC:Hid (∀ w3,Gr w2 w3->Calls Tryz.prog 178 #[enT tv, .string (bz name)] w3 fun e w'=>e = .returned (.int .i64 (Sp.cellOf name lv[i].2.cols))/\Gr w3 w'):=fun w3 g=>tcellT_any (ht.low (Nat.le_trans hkw'.out HK2.out.size) (Low.of_gr g)) name
 obtain ⟨tn,ca,cl,cc,ra,rl,rc⟩:=tv
 obtain ⟨nlt,n0,n1,n2,n3,n4,n5,nf⟩:=HN2.out
 have f5:=nf 5
 clear nf ht
 have HV:Hid (lv[i]?.map (·.2)=some lv[i].2):=by show _=_;rw [List.getElem?_eq_getElem hlt];rfl
 generalize lv[i].2=t at *
 have hi1:(i:Int)<(lv.length:Int):=by omega
 have hbn:b≠nb:=by omega
 go_region_held3 (fun w'=>w'.cell? ⟨sb,0,none⟩=some (.slice (some ⟨b,0,none⟩) lv.length cp)/\w'.cell? ⟨nb,4,none⟩=some (.int .i64 (i:Int))/\w'.cell? ⟨nb,1,none⟩=some (.string (bz name))/\w'.cell? ⟨b,i*4+1,none⟩=some (.string tn)/\w'.cell? ⟨b,i*4+2,none⟩=some (.slice ca cl cc)/\w'.cell? ⟨b,i*4+3,none⟩=some (.slice ra rl rc)) (first | go_keep | exact ⟨k0,n4,n1,d1,d2,d3⟩ | exact ⟨y0,y1,y2,y3,y4,y5⟩) ((go_at_call 178;refine (HC.out _ ((Gr.refl _).drew)).mono ?_;rintro e w3 ⟨rfl,g3⟩;have gA:Gr w2 w3:=((Gr.refl _).drew).trans g3;have hN3:=HN2.out.below gA.below;have p5:=hN3.c5;have p0:=hN3.fz 5;have x0:=(gA.cell (p:=⟨sb,0,none⟩) (by show sb<_;omega)).trans k0;have x1:=(gA.cell (p:=⟨nb,4,none⟩) nlt).trans n4;have x2:=(gA.cell (p:=⟨nb,1,none⟩) nlt).trans n1;have x3:=(gA.cell (p:=⟨b,i*4+1,none⟩) (by show b<_;omega)).trans d1;have x4:=(gA.cell (p:=⟨b,i*4+2,none⟩) (by show b<_;omega)).trans d2;have x5:=(gA.cell (p:=⟨b,i*4+3,none⟩) (by show b<_;omega)).trans d3;have hP:=hN3.put5 (Sp.cellOf name t.cols);have y1:=hP.c4;have y2:=hP.c1;have y0:=(World.cell?_of_block (w:=w3) (a:=⟨sb,0,none⟩) (Below.heap_setCell w3 ⟨nb,5,none⟩ (.int .i64 (Sp.cellOf name t.cols)) sb (Ne.symm hsn))).trans x0;have y3:=(World.cell?_of_block (w:=w3) (a:=⟨b,i*4+1,none⟩) (Below.heap_setCell w3 ⟨nb,5,none⟩ (.int .i64 (Sp.cellOf name t.cols)) b hbn)).trans x3;have y4:=(World.cell?_of_block (w:=w3) (a:=⟨b,i*4+2,none⟩) (Below.heap_setCell w3 ⟨nb,5,none⟩ (.int .i64 (Sp.cellOf name t.cols)) b hbn)).trans x4;have y5:=(World.cell?_of_block (w:=w3) (a:=⟨b,i*4+3,none⟩) (Below.heap_setCell w3 ⟨nb,5,none⟩ (.int .i64 (Sp.cellOf name t.cols)) b hbn)).trans x5;try exact ⟨x0,x1,x2,x3,x4,x5⟩))
 have HP:Hid (Cl6 (w3.setCell ⟨nb,5,none⟩ (.int .i64 (Sp.cellOf name t.cols))) nb tbl name a o (i:Int) (Sp.cellOf name t.cols)):=hN3.put5 _
 have HK:Hid (Kept nb w (w3.setCell ⟨nb,5,none⟩ (.int .i64 (Sp.cellOf name t.cols)))):=(HK2.out.trans (Kept.gr gA)).setCell 5 _
 have r5:=HP.out.c5
 clear hP hN3 y0 y1 y2 y3 y4 y5 x0 x1 x2 x3 x4 x5 p5 p0 gA g3 k0 d0 d1 d2 d3 n0 n1 n2 n3 n4 n5 HC c0
 try clear hHeld
 generalize w3.setCell ⟨nb,5,none⟩ (.int .i64 (Sp.cellOf name t.cols))=w4 at *
 cases more with
 | nil=>
  go_wp2_with fail
  go_ret
  exact ⟨_,HV.out,by simp,HP.out,HK.out⟩
 | cons x more=>
  have hne:((((x::more).length+1:Nat):Int) == 1)=false:=by simp;omega
  go_wp2_with fail
  go_ret
  exact ⟨_,HV.out,by simp,HP.out,HK.out⟩
theorem Fc.ofN {cb nb:Nat} {w w' : World} (h:Kept nb w w') (hs:∃ s,w.cell? ⟨nb,0,none⟩=some (.string s)):Fc cb nb (nb+1) w w':=⟨h.os,h.tape,h.output,h.size,fun k hk _ hn=>h.block k hk (by omega),fun k hk _ hx=>h.block k hk (fun e=>by
 obtain ⟨s,e1⟩:=hs
 obtain ⟨a,n,c,e2⟩:=hx
 rw [e,e1] at e2
 cases e2)⟩
theorem column_nil (tbl name:Sp.Bs) (a o sr:Nat) (ce:Int) (c:Sp.CS):Sp.column tbl name a o sr ce [] c=(0,c.fail 4 a, .col tbl name a o sr ce):=rfl
theorem column_out (tbl name:Sp.Bs) (a o sr:Nat) (ce:Int) (c:Sp.CS) (lv:Sp.Lv) (r:List Sp.Lv) (h:Sp.tablesFor tbl name lv = []):Sp.column tbl name a o sr ce (lv::r) c=Sp.column tbl name a (o+1) sr ce r c:=by
 rw [Sp.column,h]
theorem column_hit (tbl name:Sp.Bs) (a o sr:Nat) (ce:Int) (c:Sp.CS) (lv:Sp.Lv) (r:List Sp.Lv) (i:Nat) (more:List Nat) (t:Sp.Tb) (h:Sp.tablesFor tbl name lv=i::more) (ht:lv[i]?.map (·.2)=some t) (hy:(more.isEmpty&&decide (0<=Sp.cellOf name t.cols))=true) :
  Sp.column tbl name a o sr ce (lv::r) c=(((t.cols[(Sp.cellOf name t.cols).toNat]?).map (·.2)).getD 0,c, .col tbl name a o i (Sp.cellOf name t.cols)):=by
 rw [Sp.column,h];simp only [ht,Option.getD_some,hy,if_true]
theorem column_miss (tbl name:Sp.Bs) (a o sr:Nat) (ce:Int) (c:Sp.CS) (lv:Sp.Lv) (r:List Sp.Lv) (i:Nat) (more:List Nat) (t:Sp.Tb) (h:Sp.tablesFor tbl name lv=i::more) (ht:lv[i]?.map (·.2)=some t) (hy:(more.isEmpty&&decide (0<=Sp.cellOf name t.cols))=false) :
  Sp.column tbl name a o sr ce (lv::r) c=(0,c.fail 4 a, .col tbl name a o i (Sp.cellOf name t.cols)):=by
 rw [Sp.column,h];simp only [ht,Option.getD_some,hy];rfl
theorem ccolumn_any {cb k m nb:Nat} {tv:Value} {c:Sp.CS} {w:World} {tbl name:Sp.Bs} {a sr:Nat} {o ce:Int} {lvs:List Sp.Lv} {iv:Value} (h:CB cb tv c w) (hkw:k<=w.heap.size) (hn:Cl6 w nb tbl name (a:Nat) o (sr:Nat) ce) (hs:Scp k m w lvs iv) (_hkc:k<=cb) (hkn:k<=nb) (hnc:nb<cb) (hcm:cb<m) (hlv:lvs.length<=100000) :
  Calls Tryz.prog 221 #[.pointer (some ⟨cb,0,none⟩), .pointer (some ⟨nb,0,none⟩),iv] w fun e w'=>∃ (o' sr' : Nat) (ce' : Int),(Sp.column tbl name a 0 sr ce lvs c).2.2 = .col tbl name a o' sr' ce'/\e = .returned (.int .i64 (Sp.column tbl name a 0 sr ce lvs c).1)/\Cl6 w' nb tbl name (a:Nat) (o' : Nat) (sr' : Nat) ce'/\CB cb tv (Sp.column tbl name a 0 sr ce lvs c).2.1 w'/\Fc cb nb (nb+1) w w':=by
 have HH:=hid h
 have HS:=hid hs
 have HN:=hid hn
 have hkw':=hid hkw
 obtain ⟨ia,rfl⟩:=hs.ptr
 have q3:=hn.c3
 have f3:=hn.fz 3
 have hnw:=hn.lt
 have hcw:=h.lt
 clear h hs hkw hn
 go_enter Tryz.func221,Tryz.ntmps221
 go_wp2_with fail
 have HN1:Hid (Cl6 (w.setCell ⟨nb,3,none⟩ (.int .i64 0)) nb tbl name (a:Nat) 0 (sr:Nat) ce):=HN.out.put3 0
 have HK1:Hid (Kept nb w (w.setCell ⟨nb,3,none⟩ (.int .i64 0))):=(Kept.refl nb w).setCell 3 _
 clear q3 f3
 generalize w.setCell ⟨nb,3,none⟩ (.int .i64 0)=w1 at *
 have HS1:Hid (Scp k m w1 lvs (.pointer ia)):=HS.out.ou hkw'.out (Ou.kept HK1.out hkn (by omega))
 go_loopg [2] lvs.length (fun gm iv wr=>∃ (rest:List Sp.Lv) (o:Nat),gm=rest.length/\o+rest.length=lvs.length/\Hid (Scp k m wr rest iv)/\Hid (Kept nb w wr)/\Hid (Cl6 wr nb tbl name (a:Nat) (o:Nat) (sr:Nat) ce)/\Hid (Sp.column tbl name a 0 sr ce lvs c=Sp.column tbl name a o sr ce rest c))
 case atStart=>exact ⟨lvs,0,rfl,by omega,HS1,HK1,HN1,rfl⟩
 case round=>
  obtain ⟨rest,o,rfl,ho,HSr,HK,HNr,HP⟩:=hrel
  have HC:Hid (CB cb tv c wr):=HH.out.same HK.out.size (HK.out.block cb hcw (by omega))
  have hkr:Hid (k<=wr.heap.size):=Nat.le_trans hkw'.out HK.out.size
  cases rest with
  | nil=>
   have e:=HSr.out
   simp only [Scp] at e
   subst e
   have q2:=HNr.out.c2
   go_wp2_with fail
   refine (cfail_any HC.out 4 a).mono ?_
   rintro e w2 ⟨rfl,h2,k2⟩
   have HR:Hid (CB cb tv (c.fail 4 a) w2/\Fc cb nb (nb+1) w w2/\Cl6 w2 nb tbl name (a:Nat) (o:Nat) (sr:Nat) ce):=⟨h2,(Fc.ofN HK.out ⟨_,HN.out.c0⟩).trans (Fc.of k2),HNr.out.same k2.size (k2.block nb HNr.out.lt (by omega))⟩
   clear h2 k2 q2
   go_wp2_with fail
   go_ret
   rw [HP.out,column_nil]
   exact ⟨o,sr,ce,rfl,rfl,HR.out.2.2,HR.out.1,HR.out.2.1⟩
  | cons lv r=>
   obtain ⟨sb,sv,ov,rfl,hb,hl,c0,c1,hsv,hr⟩:=HSr.out
   have HT:Hid (Calls Tryz.prog 256 #[.pointer (some ⟨sb,0,none⟩), .pointer (some ⟨nb,0,none⟩)] wr fun e w'=>∃ v,e = .returned v/\OwI wr.heap.size w' v (nats (Sp.tablesFor tbl name lv))/\Below wr.heap.size wr w'):=tablesFor_any hkr.out hl c0 hsv HNr.out.lt HNr.out.c0 HNr.out.c1
   have HR:=hid hr
   have HSV:=hid hsv
   obtain ⟨oa,rfl⟩:=hr.ptr
   clear hsv hr
   go_wp2_with fail
   refine HT.out.mono ?_
   rintro e w2 ⟨v,rfl,ho2,hb2⟩
   have HB2:=hid hb2
   have HN2:=hid (HNr.out.below hb2)
   have c1':=(hb2.cell (p:=⟨sb,1,none⟩) hl).trans c1
   obtain ⟨va,vc,rfl⟩:=ho2.sl
   cases hT:Sp.tablesFor tbl name lv with
   | nil=>
    rw [show (nats ([]:List Nat)).length=0 from rfl]
    have q3:=HN2.out.c3
    have f3:=HN2.out.fz 3
    have HP2:Hid (Sp.column tbl name a 0 sr ce lvs c=Sp.column tbl name a (o+1) sr ce r c):=by show _=_;rw [HP.out,column_out _ _ _ _ _ _ _ _ _ hT]
    have ho' : o<100000:=by simp at ho;omega
    clear hb2 ho2 hT HT
    go_wp2_with fail
    go_roundg r.length
    case measure=>simp
    case rel=>exact ⟨r,o+1,rfl,by simp at ho;omega,(HR.out.ou hkr.out (Ou.below HB2.out)).ou (Nat.le_trans hkr.out HB2.out.size) (Ou.kept ((Kept.refl nb w2).setCell 3 _) hkn (by omega)),(HK.out.trans (Kept.below HB2.out)).setCell 3 _,HN2.out.put3 _,HP2.out⟩
   | cons i more=>
    rw [show (nats (i::more)).length=more.length+1 by simp]
    have HM:Hid (Calls Tryz.prog 257 #[.pointer (some ⟨sb,0,none⟩), .pointer (some ⟨nb,0,none⟩)] w2 fun e w'=>∃ t,lv[i]?.map (·.2)=some t/\e = .returned (.bool (more.isEmpty&&decide (0<=Sp.cellOf name t.cols)))/\Cl6 w' nb tbl name (a:Nat) (o:Nat) (i:Int) (Sp.cellOf name t.cols)/\Kept nb w2 w'):=
     means_any (Nat.le_trans hkr.out HB2.out.size) (Nat.lt_of_lt_of_le hl HB2.out.size) (by omega) hkn (by omega) ((HB2.out.cell (p:=⟨sb,0,none⟩) hl).trans c0) (HSV.out.ou hkr.out (Ou.below HB2.out)) HN2.out hT
    have HT':=hid hT
    have hne:((((more.length+1:Nat)):Int) == 0)=false:=by simp;omega
    have hlt:=for_lt hT
    clear hb2 ho2 hT HT c1'
    go_wp2_with fail
    refine HM.out.mono ?_
    rintro e w3 ⟨t,ht,rfl,hn3,hk3⟩
    have HN3:=hid hn3
    have HK3:Hid (Kept nb wr w3):=(Kept.below HB2.out).trans hk3
    have HTt:=hid ht
    clear hn3 hk3 HM
    cases hy:(more.isEmpty&&decide (0<=Sp.cellOf name t.cols))
    ·have q2:=HN3.out.c2
     have HC3:Hid (CB cb tv c w3):=HC.out.same HK3.out.size (HK3.out.block cb HC.out.lt (by omega))
     go_wp2_with fail
     refine (cfail_any HC3.out 4 a).mono ?_
     rintro e w4 ⟨rfl,h4,k4⟩
     have HR4:Hid (CB cb tv (c.fail 4 a) w4/\Fc cb nb (nb+1) w w4/\Cl6 w4 nb tbl name (a:Nat) (o:Nat) (i:Int) (Sp.cellOf name t.cols)):=⟨h4,(Fc.ofN (HK.out.trans HK3.out) ⟨_,HN.out.c0⟩).trans (Fc.of k4),HN3.out.same k4.size (k4.block nb HN3.out.lt (by omega))⟩
     clear h4 k4 q2
     go_wp2_with fail
     go_ret
     rw [HP.out,column_miss _ _ _ _ _ _ _ _ _ _ _ t HT'.out HTt.out hy]
     exact ⟨o,i,_,rfl,rfl,HR4.out.2.2,HR4.out.1,HR4.out.2.1⟩
    ·obtain ⟨b,cp,rfl,hbm,hsr⟩:∃ b c,sv = .slice (some ⟨b,0,none⟩) lv.length c/\m<=b/\Srs k wr b lv:=by
      rcases HSV.out.2 with ⟨rfl,_⟩ | h
      ·simp at hlt
      ·exact h
     have hlv1:=HSV.out.1
     obtain ⟨tv',d0,d1,d2,d3,htb⟩:=(hsr.same hkr.out (Low.of_kept HK3.out hkn) (HK3.out.block b hsr.lb (by omega))).at_ i hlt
     have ht2:lv[i].2=t:=by have:=HTt.out;rw [List.getElem?_eq_getElem hlt] at this;exact Option.some.inj this
     rw [ht2] at htb
     have hy2:0<=Sp.cellOf name t.cols:=by simp at hy;exact hy.2
     have hcl:=cellOf_lt name t.cols
     obtain ⟨cbk,cof,e1,e2,hck,hcols⟩:∃ b off,tv'.ca=some ⟨b,off,none⟩/\tv'.cl=t.cols.length/\b<k/\Cols w3 b off (t.cols.map fun x=>(bz x.1,x.2)):=by
      rcases htb.cols with ⟨e,_⟩ | h
      ·rw [e] at hy2;simp [Sp.cellOf] at hy2
      ·exact h
     obtain ⟨q,hq⟩:∃ q:Nat,Sp.cellOf name t.cols=(q:Int):=⟨(Sp.cellOf name t.cols).toNat,by omega⟩
     have hql:q<t.cols.length:=by omega
     have hqi:(q:Int)<(t.cols.length:Int):=by omega
     have f1:=hcols.t q (by simpa using hql)
     simp only [List.getElem_map] at f1
     obtain ⟨tn,ca,cl,cc,ra,rl,rc⟩:=tv'
     simp only [] at e1 e2
     subst e1 e2
     have d2' : w3.cell? ⟨b,i*4+2,none⟩=some (.slice (some ⟨cbk,cof,none⟩) t.cols.length cc):=d2
     clear d2 d3 d0 d1
     have k0:=(HK3.out.cell (p:=⟨sb,0,none⟩) hl (by show sb≠nb;omega)).trans c0
     have n4:=HN3.out.c4
     have n5:=HN3.out.c5
     rw [hq] at n5
     have HE:Hid (((t.cols[(Sp.cellOf name t.cols).toNat]?).map (·.2)).getD 0=t.cols[q].2):=by show _=_;rw [hq,Int.toNat_natCast,List.getElem?_eq_getElem hql];rfl
     have HF:Hid (Sp.column tbl name a 0 sr ce lvs c=(t.cols[q].2,c, .col tbl name a o i (Sp.cellOf name t.cols))):=by show _=_;rw [HP.out,column_hit _ _ _ _ _ _ _ _ _ _ _ t HT'.out HTt.out hy,HE.out]
     have HC3:Hid (CB cb tv c w3):=HC.out.same HK3.out.size (HK3.out.block cb HC.out.lt (by omega))
     have hi1:(i:Int)<(lv.length:Int):=by omega
     have hcn:t.cols.length<=50:=htb.colN
     clear htb hcols hsr hcl ht2 HE hy2
     generalize t.cols[q].2=ty at f1 HF
     go_wp2_with fail
     go_region
     go_wp2_with fail
     go_ret
     rw [HF.out]
     exact ⟨o,i,_,rfl,rfl,HN3.out.same (by simp) rfl,HC3.out.same (by simp) rfl,(Fc.ofN (HK.out.trans HK3.out) ⟨_,HN.out.c0⟩).drewN _⟩
end Go.Proofs.YtgnncnhkgmhngaaGreatDoor
