import Derived.Test.YtgnncnhkgmhngaaGreatDoorJ47
import Derived.Test.YtgnncnhkgmhngaaGreatDoorJ49
set_option maxHeartbeats 4000000
set_option maxRecDepth 100000
namespace Go.Proofs.YtgnncnhkgmhngaaGreatDoor
open Sp
open Tryz
open Go.RowKit Go.Sort
theorem TG {bb:Nat} {T' : List Sp.Tb} {wd:Nat} {c:Int} {s:ByteArray} {w:World} {D:Nat->Prop}
  (hE:Calls prog 26 #[.pointer (some ⟨bb,0,none⟩), .string s] w λr w'=>WK D bb w T' wd 0 0 0 c [] r w') :
  Calls prog 21 #[.pointer (some ⟨bb,0,none⟩), .string s, .int .i64 c] w λr w'=>∃ tv',r = .returned (.bool true)/\(kK w' bb tv'/\bV D w' T' tv')/\Kept bb w w':=by
 have HE:=hid hE
 clear hE
 go_enter func21,ntmps21
 go_wp2_with fail
 refine HE.out.mono ?_
 rintro x w1 ⟨rv,tv',rfl,h1,h2,h3⟩
 obtain ⟨ra,rc,rfl⟩:=h2.sl
 simp only [List.length_nil]
 have H1:=hid h1
 have H3:=hid h3
 clear h1 h2 h3 HE
 go_wp2_with fail
 refine cV (v := .bool true) (by simp [results,results21,go_sem]) rfl ⟨tv',rfl,⟨?_,?_⟩,?_⟩
 ·exact (lK _ _ _ H1.out.1.lt).trans H1.out.1
 ·exact H1.out.2.bel ((Gr.refl w1).alloc _).below
 ·exact H3.out.trans (Kept.gr ((Gr.refl w1).alloc _))
theorem TH {bb:Nat} {T' : List Sp.Tb} {wd:Nat} {c:Int} {rows:List (List Sv.Val)} {s:ByteArray} {w:World} {D:Nat->Prop} (hl:rows.length<=100000) (hwd:wd<=100000) (hw0:1<=wd)
  (hE:Calls prog 26 #[.pointer (some ⟨bb,0,none⟩), .string s] w λr w'=>WK D bb w T' wd 0 0 (wd:Nat) c rows r w') :
  Calls prog 17 #[.pointer (some ⟨bb,0,none⟩), .string s, .int .i64 (wd:Nat)] w λr w'=>∃ rv tv',r = .returned (.tuple #[rv, .bool true])/\oE w.heap.size wd w' rv rows/\(kK w' bb tv'/\bV D w' T' tv')/\Kept bb w w':=by
 have HE:=hid hE
 clear hE
 go_enter func17,ntmps17
 go_wp2_with fail
 refine HE.out.mono ?_
 rintro x w1 ⟨rv,tv',rfl,h1,h2,h3⟩
 have HS:=hid h2.sl
 obtain ⟨ra,rc,rfl⟩:=h2.sl
 have H1:=hid h1
 have H2:=hid h2
 have H3:=hid h3
 clear h1 h2 h3 HE
 generalize hn:rows.length=n at *
 go_wp2_with fail
 have HW:=hid (Bk.new w1 #[.int .i64 0, .int .i64 0, .int .i64 (wd:Nat), .slice ra n rc, .int .i64 c] 56)
 have GW:=hid ((Gr.refl w1).alloc (.cells #[.int .i64 0, .int .i64 0, .int .i64 (wd:Nat), .slice ra n rc, .int .i64 c] 56))
 generalize hW:w1.alloc (.cells #[.int .i64 0, .int .i64 0, .int .i64 (wd:Nat), .slice ra n rc, .int .i64 c] 56)=W at *
 go_loopw [9,10] (λv i wr=>∃ j:Nat,j<=n/\i = .int .i64 (j:Nat)/\v = .bool true/\Hid (Gr W wr)) (λ_ i _=>n - (intOf i).toNat)
 case atStart=>exact ⟨0,eX _,rfl,rfl,Gr.refl _⟩
 case round=>
  obtain ⟨j,hj,rfl,rfl,HG⟩:=hrel
  have c3:=(HG.out.cell (p:=⟨w1.heap.size,3,none⟩) HW.out.lt).trans (HW.out.c 3 (by simp))
  simp only [List.getElem_cons_succ,List.getElem_cons_zero] at c3
  by_cases hlt:j<n
  ·obtain ⟨blk,b,o,cu,rfl,q1,q2⟩:∃ blk b o cu,ra=some ⟨blk,0,none⟩/\blk<W.heap.size/\W.cell? ⟨blk,j,none⟩=some (.slice (some ⟨b,o,none⟩) wd cu):=by
    rcases H2.out with ⟨e,_⟩ | ⟨blk,c',e,l1,l2,hr⟩
    ·rw [e] at hn;simp at hn;omega
    ·obtain ⟨u,p1,p2,p3,p4⟩:=hr j (by omega)
     injection e with e _ _
     rcases p3 with ⟨_,p3⟩ | ⟨b,o,cu,rfl,_,_⟩
     ·rw [p3] at p4;simp at p4;omega
     ·rw [p4] at p1
      refine ⟨blk,b,o,cu,e,b6 l2 GW.out.size,?_⟩
      have:=(GW.out.cell (p:=⟨blk,0+j,none⟩) l2).trans p1
      simpa using this
   have cj:=(HG.out.cell (p:=⟨blk,j,none⟩) q1).trans q2
   go_wp2_with fail
   go_roundw
   case rel=>exact ⟨j+1,by omega,by go_num,rfl,HG⟩
   case measure=>simp [intOf];omega
  ·obtain rfl:j=n:=by omega
   clear hlt
   go_wp2_with fail
   have hG:=GW.out.trans HG.out
   refine cV (v := .tuple #[.slice ra j rc, .bool true]) (by simp [results,results17,go_sem]) rfl ⟨_,rfl,?_,⟨tv',?_,?_⟩,?_⟩
   ·exact H2.out.noS (Q:=λ_=>False) (λ_ h=>h.elim) (λ_ h=>h.elim) hG.size (λk hk _=>hG.below.block k hk)
   ·exact (hG.below.block _ H1.out.1.lt).trans H1.out.1
   ·exact H1.out.2.bel hG.below
   ·exact H3.out.trans (Kept.gr hG)
def Pf (k:Int):Sv.Val:=if k<5 then Sv.int k else Sv.null
def Pg (k:Int):Sv.Val:=if k<4 then Sv.text (fN k) else Sv.null
theorem Dp (a b:Int):QL (Pf a) (Pg b):=by
 refine ⟨?_,?_⟩
 ·unfold Pf
  split
  ·exact .inl ⟨_,rfl⟩
  ·exact .inr rfl
 ·unfold Pg
  split
  ·exact .inl ⟨_,rfl⟩
  ·exact .inr rfl
def UY (i j:Int):List UInt8 := [40]++Fy i ++ [44,32]++Fz j ++ [41]
theorem LU:∀ i ∈ [(0:Int),1,2,3,4,5],∀ j ∈ [(0:Int),1,2,3,4],parse ([105,110,115,101,114,116,32,105,110,116,111,32,116,32,118,97,108,117,101,115,32]++UY i j)=(0,0)/\tree ([105,110,115,101,114,116,32,105,110,116,111,32,116,32,118,97,108,117,101,115,32]++UY i j)=ins [116] (Pf i) (Pg j):=by
 intro i hi j hj
 simp only [List.mem_cons,List.not_mem_nil,or_false] at hi hj
 rcases hi with rfl | rfl | rfl | rfl | rfl | rfl <;> rcases hj with rfl | rfl | rfl | rfl | rfl <;> exact ⟨by kernel_rfl,by kernel_rfl⟩
theorem LV:∀ i ∈ [(0:Int),1,2,3,4,5],∀ j ∈ [(0:Int),1,2,3,4],parse ([105,110,115,101,114,116,32,105,110,116,111,32,117,32,118,97,108,117,101,115,32]++UY i j)=(0,0)/\tree ([105,110,115,101,114,116,32,105,110,116,111,32,117,32,118,97,108,117,101,115,32]++UY i j)=ins [117] (Pf i) (Pg j):=by
 intro i hi j hj
 simp only [List.mem_cons,List.not_mem_nil,or_false] at hi hj
 rcases hi with rfl | rfl | rfl | rfl | rfl | rfl <;> rcases hj with rfl | rfl | rfl | rfl | rfl <;> exact ⟨by kernel_rfl,by kernel_rfl⟩
theorem UZ (a:Int):pk a 6 ∈ [(0:Int),1,2,3,4,5]:=by
 have:=vS a 6 (by omega)
 simp only [List.mem_cons,List.not_mem_nil,or_false]
 omega
theorem WR (a:Int):pk a 5 ∈ [(0:Int),1,2,3,4]:=by
 have:=vS a 5 (by omega)
 simp only [List.mem_cons,List.not_mem_nil,or_false]
 omega
theorem Ph (a b:Int):parse ([105,110,115,101,114,116,32,105,110,116,111,32,116,32,118,97,108,117,101,115,32]++iY a b)=(0,0)/\tree ([105,110,115,101,114,116,32,105,110,116,111,32,116,32,118,97,108,117,101,115,32]++iY a b)=ins [116] (Pf (pk a 6)) (Pg (pk b 5)):=LU _ (UZ a) _ (WR b)
theorem TI (a b:Int):parse ([105,110,115,101,114,116,32,105,110,116,111,32,117,32,118,97,108,117,101,115,32]++iY a b)=(0,0)/\tree ([105,110,115,101,114,116,32,105,110,116,111,32,117,32,118,97,108,117,101,115,32]++iY a b)=ins [117] (Pf (pk a 6)) (Pg (pk b 5)):=LV _ (UZ a) _ (WR b)
def tA (bb:Nat) (w0:World) (T:List Sp.Tb) (w:World):Prop:=∃ tv,kK w bb tv/\bV (·≠bb) w T tv/\w0.heap.size<=bb/\RowKit.Below w0.heap.size w0 w
def qZ (bb:Nat) (w0:World) (R S:List Row) (w:World):Prop:=∃ T,TU R S T/\tA bb w0 T w
theorem tA.bel {bb:Nat} {w0 w w' : World} {T:List Sp.Tb} (h:tA bb w0 T w) (g:RowKit.Below w.heap.size w w'):tA bb w0 T w':=by
 obtain ⟨tv,h1,h2,h3,h4⟩:=h
 exact ⟨tv,(g.block _ h1.lt).trans h1,h2.bel g,h3,h4.trans (g.mono h4.size)⟩
theorem qZ.bel {bb:Nat} {w0 w w' : World} {R S:List Row} (h:qZ bb w0 R S w) (g:RowKit.Below w.heap.size w w'):qZ bb w0 R S w':=by
 obtain ⟨T,h1,h2⟩:=h
 exact ⟨T,h1,h2.bel g⟩
theorem vV {bb:Nat} {w0 w w' : World} (hb:w0.heap.size<=bb) (h:RowKit.Below w0.heap.size w0 w) (k:Kept bb w w'):RowKit.Below w0.heap.size w0 w':=
 ⟨k.os.trans h.os,k.tape.trans h.tape,k.output.trans h.output,cF h.size k.size,λj hj=>(k.block j (b6 hj h.size) (by omega)).trans (h.block j hj)⟩
theorem oE.kept {bb base k:Nat} {w0 w w' : World} {R S:List Row} {v:Value} {rows:List (List Sv.Val)} (h:oE base k w v rows) (hf:qZ bb w0 R S w) (hb:bb<base) (g:Kept bb w w'):oE base k w' v rows:=by
 obtain ⟨T,_,tv,h1,h2,_,_⟩:=hf
 obtain ⟨a,n,c,rfl⟩:=h2.sl
 exact h.noS (Q:=(·=bb)) (by rintro q rfl;exact h1.noS) (by rintro q rfl;exact hb) g.size (λj hj hn=>g.block j hj hn)
theorem qZ.lt {bb:Nat} {w0 w:World} {R S:List Row} (h:qZ bb w0 R S w):bb<w.heap.size:=by
 obtain ⟨T,_,tv,h1,_⟩:=h
 exact h1.lt
theorem LW (nm:Sp.Bs) (va vb:Sv.Val):okS 90000 (ins nm va vb):=by simp [okS,ins,wf,Nd.len,Nd.dep]
theorem QQ (nm:Sp.Bs):okS 90000 (.query (Sp.all nm)):=by simp [okS,Sp.all,wf,Nd.dep]
theorem oH {bb:Nat} {T T' : List Sp.Tb} {st st' : vZ} {c:Int} {s:ByteArray} {w0 w:World} (hr:DM w0) (h:tA bb w0 T w) (hp:parse s.data.toList=(0,0)) (ht:tree s.data.toList=st) (hnt:∀ z,st ≠ .trans z) (hok:okS 90000 st) (hck:check T st=(⟨0,0,false⟩,st')) (hR:Runs T st' T' 0 0 0 0 c []) :
  Calls prog 21 #[.pointer (some ⟨bb,0,none⟩), .string s, .int .i64 c] w λr w'=>r = .returned (.bool true)/\tA bb w0 T' w'/\Kept bb w w':=by
 obtain ⟨tv,h1,h2,h3,h4⟩:=h
 have hlt:=h1.lt
 have hsz:s.size<=maxLen:=by
  have:=rQ hp
  rw [size_data] at this
  unfold maxLen
  omega
 refine (TG (GG (D:=(·≠bb)) (λj hj=>by omega) (λh=>h rfl) h1 h2 (hr.below h4) hsz hp ht hnt hok (by rw [hck];rfl) (by rw [hck];exact hR))).mono ?_
 rintro r w' ⟨tv',rfl,⟨k1,k2⟩,k3⟩
 exact ⟨rfl,⟨tv',k1,k2,h3,vV h3 h4 k3⟩,k3⟩
theorem NQ {bb wd:Nat} {T T' : List Sp.Tb} {st st' : vZ} {rows:List Row} {c:Int} {s:ByteArray} {w0 w:World} (hr:DM w0) (h:tA bb w0 T w) (hp:parse s.data.toList=(0,0)) (ht:tree s.data.toList=st) (hnt:∀ z,st ≠ .trans z) (hok:okS 90000 st) (hck:check T st=(⟨0,0,false⟩,st')) (hl:rows.length<=100000) (hwd:wd<=100000) (hw0:1<=wd) (hR:Runs T st' T' wd 0 0 (wd:Nat) c rows) :
  Calls prog 17 #[.pointer (some ⟨bb,0,none⟩), .string s, .int .i64 (wd:Nat)] w λr w'=>∃ rv,r = .returned (.tuple #[rv, .bool true])/\oE w.heap.size wd w' rv rows/\tA bb w0 T' w'/\Kept bb w w':=by
 obtain ⟨tv,h1,h2,h3,h4⟩:=h
 have hlt:=h1.lt
 have hsz:s.size<=maxLen:=by
  have:=rQ hp
  rw [size_data] at this
  unfold maxLen
  omega
 refine (TH hl hwd hw0 (GG (D:=(·≠bb)) (λj hj=>by omega) (λh=>h rfl) h1 h2 (hr.below h4) hsz hp ht hnt hok (by rw [hck];rfl) (by rw [hck];exact hR))).mono ?_
 rintro r w' ⟨rv,tv',rfl,k0,⟨k1,k2⟩,k3⟩
 exact ⟨rv,rfl,k0,⟨tv',k1,k2,h3,vV h3 h4 k3⟩,k3⟩
theorem FA {bb:Nat} {R S:List Row} {a b:Int} {s:ByteArray} {w0 w:World} (hr:DM w0) (h:qZ bb w0 R S w) (hs:s.data.toList = [105,110,115,101,114,116,32,105,110,116,111,32,116,32,118,97,108,117,101,115,32]++iY a b) (hl:R.length<100) :
  Calls prog 21 #[.pointer (some ⟨bb,0,none⟩), .string s, .int .i64 1] w λr w'=>r = .returned (.bool true)/\qZ bb w0 (R ++ [d9 a b]) S w':=by
 obtain ⟨T,hT,h⟩:=h
 have hi:=Ph a b
 rw [<- hs] at hi
 refine (oH hr h hi.1 hi.2 (λz=>by simp [ins]) (LW _ _ _) (NJ hT (Dp _ _)) (Fu hT _ _ hl)).mono ?_
 rintro r w' ⟨rfl,h',_⟩
 exact ⟨rfl,_,hT.wt _,h'⟩
theorem FB {bb:Nat} {R S:List Row} {a b:Int} {s:ByteArray} {w0 w:World} (hr:DM w0) (h:qZ bb w0 R S w) (hs:s.data.toList = [105,110,115,101,114,116,32,105,110,116,111,32,117,32,118,97,108,117,101,115,32]++iY a b) (hl:S.length<100) :
  Calls prog 21 #[.pointer (some ⟨bb,0,none⟩), .string s, .int .i64 1] w λr w'=>r = .returned (.bool true)/\qZ bb w0 R (S ++ [d9 a b]) w':=by
 obtain ⟨T,hT,h⟩:=h
 have hi:=TI a b
 rw [<- hs] at hi
 refine (oH hr h hi.1 hi.2 (λz=>by simp [ins]) (LW _ _ _) (NK hT (Dp _ _)) (Fv hT _ _ hl)).mono ?_
 rintro r w' ⟨rfl,h',_⟩
 exact ⟨rfl,_,hT.wu _,h'⟩
theorem xF {bb:Nat} {s:ByteArray} {w0 w:World} (hr:DM w0) (h:tA bb w0 [] w) (hs:s.data.toList = [99,114,101,97,116,101,32,116,97,98,108,101,32,116,32,40,97,32,105,110,116,44,32,98,32,116,101,120,116,41]) :
  Calls prog 21 #[.pointer (some ⟨bb,0,none⟩), .string s, .int .i64 0] w λr w'=>r = .returned (.bool true)/\tA bb w0 [Sp.tt []] w':=by
 refine (oH hr h (by rw [hs];exact Fm) (by rw [hs];exact Fo) (λz=>by simp) (by simp [okS]) Fs (sS (by decide) (by decide) (by decide) (by decide))).mono ?_
 rintro r w' ⟨rfl,h',_⟩
 exact ⟨rfl,h'⟩
theorem xG {bb:Nat} {s:ByteArray} {w0 w:World} (hr:DM w0) (h:tA bb w0 [Sp.tt []] w) (hs:s.data.toList = [99,114,101,97,116,101,32,116,97,98,108,101,32,117,32,40,97,32,105,110,116,44,32,98,32,116,101,120,116,41]) :
  Calls prog 21 #[.pointer (some ⟨bb,0,none⟩), .string s, .int .i64 0] w λr w'=>r = .returned (.bool true)/\qZ bb w0 [] [] w':=by
 refine (oH hr h (by rw [hs];exact Fp) (by rw [hs];exact Fq) (λz=>by simp) (by simp [okS]) (Ft []) (sS (by decide) (by decide) (by decide) (by decide))).mono ?_
 rintro r w' ⟨rfl,h',_⟩
 exact ⟨rfl,_, .inl rfl,h'⟩
theorem kL (a b:ByteArray):(a++b).data.toList=a.data.toList++b.data.toList:=by simp
theorem I4 (a b:Int):(iY a b).length<=2000:=by
 have:=rQ (Ph a b).1
 rw [List.length_append] at this
 omega
theorem vW {a b:Int} {s:ByteArray} (h:s.toList=iY a b):s.size<=2000:=by
 have:=I4 a b
 rw [<- h,pV,size_data] at this
 exact this
def xH (w:World) (v:Value) (l:List (Int×Int)):Prop:=(∃ a c,v = .slice a 0 c/\l = [])\/∃ b off c,v = .slice (some ⟨b,off,none⟩) l.length c/\Raw w b off l
theorem xH.sl {w:World} {v:Value} {l:List (Int×Int)} (h:xH w v l):∃ a c,v = .slice a l.length c:=by
 rcases h with ⟨a,c,rfl,rfl⟩ | ⟨b,off,c,rfl,_⟩
 ·exact ⟨a,c,rfl⟩
 ·exact ⟨_,c,rfl⟩
theorem NR {tv uv:Value} {lt lu:List (Int×Int)} {w:World} (hr:DM w) (ht:xH w tv lt) (hu:xH w uv lu) (_hlt:lt.length<=9223372036854775807) (_hlu:lu.length<=9223372036854775807) :
  Calls prog 16 #[tv,uv] w λr w'=>∃ bb,r = .returned (.pointer (some ⟨bb,0,none⟩))/\qZ bb w (pO (lt.take 20)) (pO (lu.take 20)) w':=by
 obtain ⟨ta,tc,rfl⟩:=ht.sl
 obtain ⟨ua,uc,rfl⟩:=hu.sl
 have HR:=hid hr
 have HT:=hid ht
 have HU:=hid hu
 obtain ⟨n,hn⟩:∃ n,n=lt.length:=⟨_,rfl⟩
 obtain ⟨m,hm⟩:∃ m,m=lu.length:=⟨_,rfl⟩
 have HN:=hid hn
 have HM:=hid hm
 rw [<- hn] at HT ⊢
 rw [<- hm] at HU ⊢
 clear ht hu hr hn hm
 go_enter func16,ntmps16
 go_wp2_with fail
 refine (QK (w:=w)).mono ?_
 rintro x w1 ⟨bb,tv1,rfl,hB,hbb,b1⟩
 have Jm:Hid (tA bb w [] w1):=⟨tv1,hB.blk,hB.Tl,hbb,b1⟩
 clear hB hbb b1
 go_wp2_with fail
 refine (xF HR.out Jm.out ?_).mono ?_
 ·rfl
 rintro x w2 ⟨rfl,h2⟩
 have HF2:=hid h2
 clear h2 Jm
 go_wp2_with fail
 refine (xG HR.out HF2.out ?_).mono ?_
 ·rfl
 rintro x w3 ⟨rfl,h3⟩
 have HF3:=hid h3
 clear h3 HF2
 go_wp2_with fail
 go_loopw [6,8] (λv i wr=>∃ j:Nat,j<=n/\j<=20/\i = .int .i64 (j:Nat)/\v = .bool true/\Hid (qZ bb w (pO (lt.take j)) [] wr)) (λ_ i _=>n - (intOf i).toNat)
 case atStart=>exact ⟨0,eX _,eX _,rfl,rfl,HF3⟩
 case round=>
  obtain ⟨j,hj,aAe,rfl,rfl,HF⟩:=hrel
  clear HF3
  by_cases hgo:j<n/\j<20
  ·obtain ⟨hlt1,hlt2⟩:=hgo
   obtain ⟨b,off,rfl,hR⟩:∃ b off,ta=some ⟨b,off,none⟩/\Raw w b off lt:=by
    rcases HT.out with ⟨_,_,e,e'⟩ | ⟨b,off,c,e,h⟩
    ·have:=HN.out;rw [e'] at this;simp at this;omega
    ·injection e with e;exact ⟨b,off,e,h⟩
   have hkz:j<lt.length:=by have:=HN.out;omega
   obtain ⟨c0,c1⟩:=hR.at_ j hkz
   obtain ⟨T',WS,tvx,_,_,_,hbel⟩:=id HF.out
   have d0:=(hbel.cell (p:=⟨b,_,none⟩) hR.lb).trans c0
   have d1:=(hbel.cell (p:=⟨b,_,none⟩) hR.lb).trans c1
   have lY:Hid (pO (lt.take (j+1))=pO (lt.take j) ++ [d9 lt[j].1 lt[j].2]):=by
    show _=_
    rw [sA hkz];unfold pO;rw [List.map_append];rfl
   have HX:=hid (λw=>zB lt[j].1 lt[j].2 w (hR.rng j hkz).1.1 (hR.rng j hkz).1.2 (hR.rng j hkz).2.1 (hR.rng j hkz).2.2)
   generalize lt[j].1=xa at d0 lY HX
   generalize lt[j].2=xb at d1 lY HX
   clear c0 c1 hbel WS hR
   go_wp2_with fail
   refine (HX.out _).mono ?_
   rintro e w4 ⟨sx,rfl,hsx,g4⟩
   have Be:=hid (HF.out.bel g4.below)
   have TJ:=hid hsx
   have hsz:=vW hsx
   clear hsx g4 d0 d1 HX
   go_wp2_with fail
   have QR:((⟨#[105,110,115,101,114,116,32,105,110,116,111,32,116,32,118,97,108,117,101,115,32]⟩:ByteArray)++sx).data.toList = [105,110,115,101,114,116,32,105,110,116,111,32,116,32,118,97,108,117,101,115,32]++iY xa xb:=by
    rw [kL,show sx.data.toList=iY xa xb by rw [<- TJ.out,pV]]
   refine (FA HR.out Be.out QR (by simp [pO];omega)).mono ?_
   rintro x w5 ⟨rfl,h5⟩
   rw [<- lY.out] at h5
   have NS:=hid h5
   clear h5 Be TJ
   go_wp2_with fail
   go_roundw
   case rel=>exact ⟨j+1,by omega,by omega,by go_num,rfl,NS⟩
   case measure=>simp [intOf];omega
  ·have hfin:Hid (qZ bb w (pO (lt.take 20)) [] wr):=by
    have e1:lt.take 20=lt.take j:=by
     by_cases h:j<n
     ·rw [show j=20 by omega]
     ·rw [tD (by have:=HN.out;omega),tD (by have:=HN.out;omega)]
    show qZ _ _ _ _ _
    rw [e1];exact HF.out
   have hcase:¬ j<n\/(j<n/\¬ j<20):=by omega
   clear HF hgo
   rcases hcase with hge | ⟨hlt1,hlt2⟩
   all_goals
    go_wp2_with fail
    go_loopw [6,10] (λv i wr=>∃ j:Nat,j<=m/\j<=20/\i = .int .i64 (j:Nat)/\v = .bool true/\Hid (qZ bb w (pO (lt.take 20)) (pO (lu.take j)) wr)) (λ_ i _=>m - (intOf i).toNat)
    case atStart=>exact ⟨0,eX _,eX _,rfl,rfl,hfin⟩
    case round=>
     obtain ⟨k,hk,jD,rfl,rfl,HF⟩:=hrel
     clear hfin
     by_cases hgo:k<m/\k<20
     ·obtain ⟨hlt3,hlt4⟩:=hgo
      obtain ⟨b,off,rfl,hR⟩:∃ b off,ua=some ⟨b,off,none⟩/\Raw w b off lu:=by
       rcases HU.out with ⟨_,_,e,e'⟩ | ⟨b,off,c,e,h⟩
       ·have:=HM.out;rw [e'] at this;simp at this;omega
       ·injection e with e;exact ⟨b,off,e,h⟩
      have hkz:k<lu.length:=by have:=HM.out;omega
      obtain ⟨c0,c1⟩:=hR.at_ k hkz
      obtain ⟨T',WS,tvx,_,_,_,hbel⟩:=id HF.out
      have d0:=(hbel.cell (p:=⟨b,_,none⟩) hR.lb).trans c0
      have d1:=(hbel.cell (p:=⟨b,_,none⟩) hR.lb).trans c1
      have lY:Hid (pO (lu.take (k+1))=pO (lu.take k) ++ [d9 lu[k].1 lu[k].2]):=by
       show _=_
       rw [sA hkz];unfold pO;rw [List.map_append];rfl
      have HX:=hid (λw=>zB lu[k].1 lu[k].2 w (hR.rng k hkz).1.1 (hR.rng k hkz).1.2 (hR.rng k hkz).2.1 (hR.rng k hkz).2.2)
      generalize lu[k].1=xa at d0 lY HX
      generalize lu[k].2=xb at d1 lY HX
      clear c0 c1 hbel WS hR
      go_wp2_with fail
      refine (HX.out _).mono ?_
      rintro e w4 ⟨sx,rfl,hsx,g4⟩
      have Be:=hid (HF.out.bel g4.below)
      have TJ:=hid hsx
      have hsz:=vW hsx
      clear hsx g4 d0 d1 HX
      go_wp2_with fail
      have QR:((⟨#[105,110,115,101,114,116,32,105,110,116,111,32,117,32,118,97,108,117,101,115,32]⟩:ByteArray)++sx).data.toList = [105,110,115,101,114,116,32,105,110,116,111,32,117,32,118,97,108,117,101,115,32]++iY xa xb:=by
       rw [kL,show sx.data.toList=iY xa xb by rw [<- TJ.out,pV]]
      refine (FB HR.out Be.out QR (by simp [pO];omega)).mono ?_
      rintro x w5 ⟨rfl,h5⟩
      rw [<- lY.out] at h5
      have NS:=hid h5
      clear h5 Be TJ
      go_wp2_with fail
      go_roundw
      case rel=>exact ⟨k+1,by omega,by omega,by go_num,rfl,NS⟩
      case measure=>simp [intOf];omega
     ·have TL:Hid (qZ bb w (pO (lt.take 20)) (pO (lu.take 20)) wr):=by
       have e1:lu.take 20=lu.take k:=by
        by_cases h:k<m
        ·rw [show k=20 by omega]
        ·rw [tD (by have:=HM.out;omega),tD (by have:=HM.out;omega)]
       show qZ _ _ _ _ _
       rw [e1];exact HF.out
      have hcase:¬ k<m\/(k<m/\¬ k<20):=by omega
      clear HF hgo
      rcases hcase with hge' | ⟨hlt3,hlt4⟩
      all_goals
       go_wp2_with fail
       exact cV (v := .pointer (some ⟨bb,0,none⟩)) (by simp [results,results16,go_sem]) rfl ⟨bb,rfl,TL.out⟩
theorem LX {l m:List (List Sv.Val)} (h:l.Perm m) (r:List Sv.Val):cnt l r=cnt m r:=by
 unfold cnt
 exact (h.filter _).length_eq
theorem Dq {R:List (List Sv.Val)} {k:Nat} (hR:∀ r∈R,r.length=k):WO (cK R) R:=by
 have hp:=eL R
 have hs:=qP R
 have hl:∀ r∈cK R,r.length=k:=λr hr=>hR r (hp.mem_iff.1 hr)
 refine ⟨hp.length_eq,λi _=>LX hp _,λi hi=>?_⟩
 have h1:=List.pairwise_iff_getElem.1 hs i (i+1) (by omega) hi (by omega)
 have h2:=Dh (cK R)[i+1] (cK R)[i] (by rw [hl _ (hU _),hl _ (hU _)])
 have h3:=eR (cK R)[i] (cK R)[i+1]
 cases hb:iX (cK R)[i+1] (cK R)[i] with
 | false=>rfl
 | true=>have:=h2.1 hb;omega
theorem oE.lv {base k:Nat} {w:World} {v:Value} {rows:List (List Sv.Val)} (h:oE base k w v rows) (hk:1<=k):Lv w v rows:=by
 rcases h with ⟨rfl,rfl⟩ | ⟨blk,c,rfl,h1,h2,h3⟩
 ·exact .inl ⟨rfl,rfl⟩
 ·refine .inr ⟨blk,0,_,rfl,h2,λi hi=>?_⟩
  obtain ⟨u,p1,p2,p3,p4⟩:=h3 i hi
  refine ⟨u,p1,?_⟩
  rcases p3 with ⟨_,e⟩ | ⟨b,o,c,e,_,hv⟩
  ·rw [e] at p4;simp at p4;omega
  ·exact ⟨b,o,c,e,hv⟩
theorem vX {bb:Nat} {R S:List Row} {s:ByteArray} {w0 w:World} (hr:DM w0) (h:qZ bb w0 R S w) (hs:s.data.toList = [115,101,108,101,99,116,32,42,32,102,114,111,109,32,116]) (hR:∀ r∈R,r.length=2) (hS:∀ r∈S,r.length=2) (hl:R.length<=1000) :
  Calls prog 17 #[.pointer (some ⟨bb,0,none⟩), .string s, .int .i64 2] w λr w'=>∃ rv,r = .returned (.tuple #[rv, .bool true])/\oE w.heap.size 2 w' rv (cK R)/\qZ bb w0 R S w'/\Kept bb w w':=by
 obtain ⟨T,hT,h⟩:=h
 refine (NQ (wd:=2) (rows:=cK R) hr h (by rw [hs];exact NG) (by rw [hs];exact NH) (λz=>by simp) (QQ _) (NI hT hl) (by have:=(eL R).length_eq;omega) (by omega) (by omega) (LL hT.ft rfl rfl (hT.ok hR hS) hT.cols hl)).mono ?_
 rintro r w' ⟨rv,rfl,h1,h2,h3⟩
 exact ⟨rv,rfl,h1,⟨T,hT,h2⟩,h3⟩
end Go.Proofs.YtgnncnhkgmhngaaGreatDoor
