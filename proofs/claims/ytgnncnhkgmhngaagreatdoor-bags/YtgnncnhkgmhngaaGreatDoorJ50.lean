import Derived.Test.YtgnncnhkgmhngaaGreatDoorJ47
import Derived.Test.YtgnncnhkgmhngaaGreatDoorJ49
set_option maxHeartbeats 4000000
set_option maxRecDepth 100000
namespace Go.Proofs.YtgnncnhkgmhngaaGreatDoor
open Sp
open Go.RowKit Go.Sort
theorem Ru {bb:Nat} {T' : List Sp.Tb} {wd:Nat} {c:Int} {s:ByteArray} {w:World} {D:Nat->Prop}
  (hE:Calls Tryz.prog 26 #[.pointer (some ⟨bb,0,none⟩), .string s] w λr w'=>UP D bb w T' wd 0 0 0 c [] r w') :
  Calls Tryz.prog 21 #[.pointer (some ⟨bb,0,none⟩), .string s, .int .i64 c] w λr w'=>∃ tv',r = .returned (.bool true)/\(j8 w' bb tv'/\cD D w' T' tv')/\Kept bb w w':=by
 have HE:=hid hE
 clear hE
 go_enter Tryz.func21,Tryz.ntmps21
 go_wp2_with fail
 refine HE.out.mono ?_
 rintro x w1 ⟨rv,tv',rfl,h1,h2,h3⟩
 obtain ⟨ra,rc,rfl⟩:=h2.sl
 simp only [List.length_nil]
 have H1:=hid h1
 have H3:=hid h3
 clear h1 h2 h3 HE
 go_wp2_with fail
 refine cL (v := .bool true) (by simp [results,Tryz.results21,go_sem]) rfl ⟨tv',rfl,⟨?_,?_⟩,?_⟩
 ·exact (kX _ _ _ H1.out.1.lt).trans H1.out.1
 ·exact H1.out.2.bel ((Gr.refl w1).alloc _).below
 ·exact H3.out.trans (Kept.gr ((Gr.refl w1).alloc _))
theorem Rv {bb:Nat} {T' : List Sp.Tb} {wd:Nat} {c:Int} {rows:List (List Sv.Val)} {s:ByteArray} {w:World} {D:Nat->Prop} (hl:rows.length<=100000) (hwd:wd<=100000) (hw0:1<=wd)
  (hE:Calls Tryz.prog 26 #[.pointer (some ⟨bb,0,none⟩), .string s] w λr w'=>UP D bb w T' wd 0 0 (wd:Nat) c rows r w') :
  Calls Tryz.prog 17 #[.pointer (some ⟨bb,0,none⟩), .string s, .int .i64 (wd:Nat)] w λr w'=>∃ rv tv',r = .returned (.tuple #[rv, .bool true])/\dS w.heap.size wd w' rv rows/\(j8 w' bb tv'/\cD D w' T' tv')/\Kept bb w w':=by
 have HE:=hid hE
 clear hE
 go_enter Tryz.func17,Tryz.ntmps17
 go_wp2_with fail
 refine HE.out.mono ?_
 rintro x w1 ⟨rv,tv',rfl,h1,h2,h3⟩
 have HS:=hid h2.sl
 obtain ⟨ra,rc,rfl⟩:=h2.sl
 have H1:=hid h1
 have H2:=hid h2
 have H3:=hid h3
 clear h1 h2 h3 HE
 generalize hn:rows.length=n at *
 go_wp2_with fail
 have HW:=hid (Bk.new w1 #[.int .i64 0, .int .i64 0, .int .i64 (wd:Nat), .slice ra n rc, .int .i64 c] 56)
 have GW:=hid ((Gr.refl w1).alloc (.cells #[.int .i64 0, .int .i64 0, .int .i64 (wd:Nat), .slice ra n rc, .int .i64 c] 56))
 generalize hW:w1.alloc (.cells #[.int .i64 0, .int .i64 0, .int .i64 (wd:Nat), .slice ra n rc, .int .i64 c] 56)=W at *
 go_loopw [9,10] (λv i wr=>∃ j:Nat,j<=n/\i = .int .i64 (j:Nat)/\v = .bool true/\Hid (Gr W wr)) (λ_ i _=>n - (intOf i).toNat)
 case atStart=>exact ⟨0,fO _,rfl,rfl,Gr.refl _⟩
 case round=>
  obtain ⟨j,hj,rfl,rfl,HG⟩:=hrel
  have c3:=(HG.out.cell (p:=⟨w1.heap.size,3,none⟩) HW.out.lt).trans (HW.out.c 3 (by simp))
  simp only [List.getElem_cons_succ,List.getElem_cons_zero] at c3
  by_cases hlt:j<n
  ·obtain ⟨blk,b,o,cu,rfl,q1,q2⟩:∃ blk b o cu,ra=some ⟨blk,0,none⟩/\blk<W.heap.size/\W.cell? ⟨blk,j,none⟩=some (.slice (some ⟨b,o,none⟩) wd cu):=by
    rcases H2.out with ⟨e,_⟩ | ⟨blk,c',e,l1,l2,hr⟩
    ·rw [e] at hn;simp at hn;omega
    ·obtain ⟨u,p1,p2,p3,p4⟩:=hr j (by omega)
     injection e with e _ _
     rcases p3 with ⟨_,p3⟩ | ⟨b,o,cu,rfl,_,_⟩
     ·rw [p3] at p4;simp at p4;omega
     ·rw [p4] at p1
      refine ⟨blk,b,o,cu,e,bY l2 GW.out.size,?_⟩
      have:=(GW.out.cell (p:=⟨blk,0+j,none⟩) l2).trans p1
      simpa using this
   have cj:=(HG.out.cell (p:=⟨blk,j,none⟩) q1).trans q2
   go_wp2_with fail
   go_roundw
   case rel=>exact ⟨j+1,by omega,by go_num,rfl,HG⟩
   case measure=>simp [intOf];omega
  ·obtain rfl:j=n:=by omega
   clear hlt
   go_wp2_with fail
   have hG:=GW.out.trans HG.out
   refine cL (v := .tuple #[.slice ra j rc, .bool true]) (by simp [results,Tryz.results17,go_sem]) rfl ⟨_,rfl,?_,⟨tv',?_,?_⟩,?_⟩
   ·exact H2.out.noS (Q:=λ_=>False) (λ_ h=>h.elim) (λ_ h=>h.elim) hG.size (λk hk _=>hG.below.block k hk)
   ·exact (hG.below.block _ H1.out.1.lt).trans H1.out.1
   ·exact H1.out.2.bel hG.below
   ·exact H3.out.trans (Kept.gr hG)
def Px (k:Int):Sv.Val:=if k<5 then Sv.int k else Sv.null
def Py (k:Int):Sv.Val:=if k<4 then Sv.text (fD k) else Sv.null
theorem CF (a b:Int):OM (Px a) (Py b):=by
 refine ⟨?_,?_⟩
 ·unfold Px
  split
  ·exact .inl ⟨_,rfl⟩
  ·exact .inr rfl
 ·unfold Py
  split
  ·exact .inl ⟨_,rfl⟩
  ·exact .inr rfl
def SZ (i j:Int):List UInt8 := [40]++EB i ++ [44,32]++EC j ++ [41]
theorem Km:∀ i ∈ [(0:Int),1,2,3,4,5],∀ j ∈ [(0:Int),1,2,3,4],parse ([105,110,115,101,114,116,32,105,110,116,111,32,116,32,118,97,108,117,101,115,32]++SZ i j)=(0,0)/\tree ([105,110,115,101,114,116,32,105,110,116,111,32,116,32,118,97,108,117,101,115,32]++SZ i j)=ins [116] (Px i) (Py j):=by
 intro i hi j hj
 simp only [List.mem_cons,List.not_mem_nil,or_false] at hi hj
 rcases hi with rfl | rfl | rfl | rfl | rfl | rfl <;> rcases hj with rfl | rfl | rfl | rfl | rfl <;> exact ⟨by kernel_rfl,by kernel_rfl⟩
theorem Kn:∀ i ∈ [(0:Int),1,2,3,4,5],∀ j ∈ [(0:Int),1,2,3,4],parse ([105,110,115,101,114,116,32,105,110,116,111,32,117,32,118,97,108,117,101,115,32]++SZ i j)=(0,0)/\tree ([105,110,115,101,114,116,32,105,110,116,111,32,117,32,118,97,108,117,101,115,32]++SZ i j)=ins [117] (Px i) (Py j):=by
 intro i hi j hj
 simp only [List.mem_cons,List.not_mem_nil,or_false] at hi hj
 rcases hi with rfl | rfl | rfl | rfl | rfl | rfl <;> rcases hj with rfl | rfl | rfl | rfl | rfl <;> exact ⟨by kernel_rfl,by kernel_rfl⟩
theorem WJ (a:Int):pk a 6 ∈ [(0:Int),1,2,3,4,5]:=by
 have:=CC a 6 (by omega)
 simp only [List.mem_cons,List.not_mem_nil,or_false]
 omega
theorem WK (a:Int):pk a 5 ∈ [(0:Int),1,2,3,4]:=by
 have:=CC a 5 (by omega)
 simp only [List.mem_cons,List.not_mem_nil,or_false]
 omega
theorem Np (a b:Int):parse ([105,110,115,101,114,116,32,105,110,116,111,32,116,32,118,97,108,117,101,115,32]++iL a b)=(0,0)/\tree ([105,110,115,101,114,116,32,105,110,116,111,32,116,32,118,97,108,117,101,115,32]++iL a b)=ins [116] (Px (pk a 6)) (Py (pk b 5)):=Km _ (WJ a) _ (WK b)
theorem Rx (a b:Int):parse ([105,110,115,101,114,116,32,105,110,116,111,32,117,32,118,97,108,117,101,115,32]++iL a b)=(0,0)/\tree ([105,110,115,101,114,116,32,105,110,116,111,32,117,32,118,97,108,117,101,115,32]++iL a b)=ins [117] (Px (pk a 6)) (Py (pk b 5)):=Kn _ (WJ a) _ (WK b)
def sM (bb:Nat) (w0:World) (T:List Sp.Tb) (w:World):Prop:=∃ tv,j8 w bb tv/\cD (·≠bb) w T tv/\w0.heap.size<=bb/\RowKit.Below w0.heap.size w0 w
def rF (bb:Nat) (w0:World) (R S:List Row) (w:World):Prop:=∃ T,TU R S T/\sM bb w0 T w
theorem sM.bel {bb:Nat} {w0 w w' : World} {T:List Sp.Tb} (h:sM bb w0 T w) (g:RowKit.Below w.heap.size w w'):sM bb w0 T w':=by
 obtain ⟨tv,h1,h2,h3,h4⟩:=h
 exact ⟨tv,(g.block _ h1.lt).trans h1,h2.bel g,h3,h4.trans (g.mono h4.size)⟩
theorem rF.bel {bb:Nat} {w0 w w' : World} {R S:List Row} (h:rF bb w0 R S w) (g:RowKit.Below w.heap.size w w'):rF bb w0 R S w':=by
 obtain ⟨T,h1,h2⟩:=h
 exact ⟨T,h1,h2.bel g⟩
theorem uQ {bb:Nat} {w0 w w' : World} (hb:w0.heap.size<=bb) (h:RowKit.Below w0.heap.size w0 w) (k:Kept bb w w'):RowKit.Below w0.heap.size w0 w':=
 ⟨k.os.trans h.os,k.tape.trans h.tape,k.output.trans h.output,cE h.size k.size,λj hj=>(k.block j (bY hj h.size) (by omega)).trans (h.block j hj)⟩
theorem dS.kept {bb base k:Nat} {w0 w w' : World} {R S:List Row} {v:Value} {rows:List (List Sv.Val)} (h:dS base k w v rows) (hf:rF bb w0 R S w) (hb:bb<base) (g:Kept bb w w'):dS base k w' v rows:=by
 obtain ⟨T,_,tv,h1,h2,_,_⟩:=hf
 obtain ⟨a,n,c,rfl⟩:=h2.sl
 exact h.noS (Q:=(·=bb)) (by rintro q rfl;exact h1.noS) (by rintro q rfl;exact hb) g.size (λj hj hn=>g.block j hj hn)
theorem rF.lt {bb:Nat} {w0 w:World} {R S:List Row} (h:rF bb w0 R S w):bb<w.heap.size:=by
 obtain ⟨T,_,tv,h1,_⟩:=h
 exact h1.lt
theorem Kp (nm:Sp.Bs) (va vb:Sv.Val):okS 90000 (ins nm va vb):=by simp [okS,ins,wf,Nd.len,Nd.dep]
theorem sT {bb:Nat} {T T' : List Sp.Tb} {st st' : wB} {c:Int} {s:ByteArray} {w0 w:World} (hr:Es w0) (h:sM bb w0 T w) (hp:parse s.data.toList=(0,0)) (ht:tree s.data.toList=st) (hnt:∀ z,st ≠ .trans z) (hok:okS 90000 st) (hck:check T st=(⟨0,0,false⟩,st')) (hR:Runs T st' T' 0 0 0 0 c []) :
  Calls Tryz.prog 21 #[.pointer (some ⟨bb,0,none⟩), .string s, .int .i64 c] w λr w'=>r = .returned (.bool true)/\sM bb w0 T' w'/\Kept bb w w':=by
 obtain ⟨tv,h1,h2,h3,h4⟩:=h
 have hlt:=h1.lt
 have hsz:s.size<=maxLen:=by
  have:=qQ hp
  rw [size_data] at this
  unfold maxLen
  omega
 refine (Ru (Fy (D:=(·≠bb)) (λj hj=>by omega) (λh=>h rfl) h1 h2 (hr.below h4) hsz hp ht hnt hok (by rw [hck];rfl) (by rw [hck];exact hR))).mono ?_
 rintro r w' ⟨tv',rfl,⟨k1,k2⟩,k3⟩
 exact ⟨rfl,⟨tv',k1,k2,h3,uQ h3 h4 k3⟩,k3⟩
theorem FA {bb wd:Nat} {T T' : List Sp.Tb} {st st' : wB} {rows:List Row} {c:Int} {s:ByteArray} {w0 w:World} (hr:Es w0) (h:sM bb w0 T w) (hp:parse s.data.toList=(0,0)) (ht:tree s.data.toList=st) (hnt:∀ z,st ≠ .trans z) (hok:okS 90000 st) (hck:check T st=(⟨0,0,false⟩,st')) (hl:rows.length<=100000) (hwd:wd<=100000) (hw0:1<=wd) (hR:Runs T st' T' wd 0 0 (wd:Nat) c rows) :
  Calls Tryz.prog 17 #[.pointer (some ⟨bb,0,none⟩), .string s, .int .i64 (wd:Nat)] w λr w'=>∃ rv,r = .returned (.tuple #[rv, .bool true])/\dS w.heap.size wd w' rv rows/\sM bb w0 T' w'/\Kept bb w w':=by
 obtain ⟨tv,h1,h2,h3,h4⟩:=h
 have hlt:=h1.lt
 have hsz:s.size<=maxLen:=by
  have:=qQ hp
  rw [size_data] at this
  unfold maxLen
  omega
 refine (Rv hl hwd hw0 (Fy (D:=(·≠bb)) (λj hj=>by omega) (λh=>h rfl) h1 h2 (hr.below h4) hsz hp ht hnt hok (by rw [hck];rfl) (by rw [hck];exact hR))).mono ?_
 rintro r w' ⟨rv,tv',rfl,k0,⟨k1,k2⟩,k3⟩
 exact ⟨rv,rfl,k0,⟨tv',k1,k2,h3,uQ h3 h4 k3⟩,k3⟩
theorem ED {bb:Nat} {R S:List Row} {a b:Int} {s:ByteArray} {w0 w:World} (hr:Es w0) (h:rF bb w0 R S w) (hs:s.data.toList = [105,110,115,101,114,116,32,105,110,116,111,32,116,32,118,97,108,117,101,115,32]++iL a b) (hl:R.length<100) :
  Calls Tryz.prog 21 #[.pointer (some ⟨bb,0,none⟩), .string s, .int .i64 1] w λr w'=>r = .returned (.bool true)/\rF bb w0 (R ++ [kW a b]) S w':=by
 obtain ⟨T,hT,h⟩:=h
 have hi:=Np a b
 rw [<- hs] at hi
 refine (sT hr h hi.1 hi.2 (λz=>by simp [ins]) (Kp _ _ _) (L4 hT (CF _ _)) (Ez hT _ _ hl)).mono ?_
 rintro r w' ⟨rfl,h',_⟩
 exact ⟨rfl,_,hT.wt _,h'⟩
theorem EE {bb:Nat} {R S:List Row} {a b:Int} {s:ByteArray} {w0 w:World} (hr:Es w0) (h:rF bb w0 R S w) (hs:s.data.toList = [105,110,115,101,114,116,32,105,110,116,111,32,117,32,118,97,108,117,101,115,32]++iL a b) (hl:S.length<100) :
  Calls Tryz.prog 21 #[.pointer (some ⟨bb,0,none⟩), .string s, .int .i64 1] w λr w'=>r = .returned (.bool true)/\rF bb w0 R (S ++ [kW a b]) w':=by
 obtain ⟨T,hT,h⟩:=h
 have hi:=Rx a b
 rw [<- hs] at hi
 refine (sT hr h hi.1 hi.2 (λz=>by simp [ins]) (Kp _ _ _) (L5 hT (CF _ _)) (EA hT _ _ hl)).mono ?_
 rintro r w' ⟨rfl,h',_⟩
 exact ⟨rfl,_,hT.wu _,h'⟩
theorem vW {bb:Nat} {s:ByteArray} {w0 w:World} (hr:Es w0) (h:sM bb w0 [] w) (hs:s.data.toList = [99,114,101,97,116,101,32,116,97,98,108,101,32,116,32,40,97,32,105,110,116,44,32,98,32,116,101,120,116,41]) :
  Calls Tryz.prog 21 #[.pointer (some ⟨bb,0,none⟩), .string s, .int .i64 0] w λr w'=>r = .returned (.bool true)/\sM bb w0 [Sp.tt []] w':=by
 refine (sT hr h (by rw [hs];exact Et) (by rw [hs];exact Eu) (λz=>by simp) (by simp [okS]) Ex (r9 (by decide) (by decide) (by decide) (by decide))).mono ?_
 rintro r w' ⟨rfl,h',_⟩
 exact ⟨rfl,h'⟩
theorem vX {bb:Nat} {s:ByteArray} {w0 w:World} (hr:Es w0) (h:sM bb w0 [Sp.tt []] w) (hs:s.data.toList = [99,114,101,97,116,101,32,116,97,98,108,101,32,117,32,40,97,32,105,110,116,44,32,98,32,116,101,120,116,41]) :
  Calls Tryz.prog 21 #[.pointer (some ⟨bb,0,none⟩), .string s, .int .i64 0] w λr w'=>r = .returned (.bool true)/\rF bb w0 [] [] w':=by
 refine (sT hr h (by rw [hs];exact Ev) (by rw [hs];exact Ew) (λz=>by simp) (by simp [okS]) (Ey []) (r9 (by decide) (by decide) (by decide) (by decide))).mono ?_
 rintro r w' ⟨rfl,h',_⟩
 exact ⟨rfl,_, .inl rfl,h'⟩
theorem yC (a b:ByteArray):(a++b).data.toList=a.data.toList++b.data.toList:=by simp
theorem Hs (a b:Int):(iL a b).length<=2000:=by
 have:=qQ (Np a b).1
 rw [List.length_append] at this
 omega
theorem uR {a b:Int} {s:ByteArray} (h:s.toList=iL a b):s.size<=2000:=by
 have:=Hs a b
 rw [<- h,pD,size_data] at this
 exact this
def rG (w:World) (v:Value) (l:List (Int×Int)):Prop:=(∃ a c,v = .slice a 0 c/\l = [])\/∃ b off c,v = .slice (some ⟨b,off,none⟩) l.length c/\Raw w b off l
theorem rG.sl {w:World} {v:Value} {l:List (Int×Int)} (h:rG w v l):∃ a c,v = .slice a l.length c:=by
 rcases h with ⟨a,c,rfl,rfl⟩ | ⟨b,off,c,rfl,_⟩
 ·exact ⟨a,c,rfl⟩
 ·exact ⟨_,c,rfl⟩
theorem L9 {tv uv:Value} {lt lu:List (Int×Int)} {w:World} (hr:Es w) (ht:rG w tv lt) (hu:rG w uv lu) (_hlt:lt.length<=9223372036854775807) (_hlu:lu.length<=9223372036854775807) :
  Calls Tryz.prog 16 #[tv,uv] w λr w'=>∃ bb,r = .returned (.pointer (some ⟨bb,0,none⟩))/\rF bb w (nQ (lt.take 20)) (nQ (lu.take 20)) w':=by
 obtain ⟨ta,tc,rfl⟩:=ht.sl
 obtain ⟨ua,uc,rfl⟩:=hu.sl
 have HR:=hid hr
 have HT:=hid ht
 have HU:=hid hu
 obtain ⟨n,hn⟩:∃ n,n=lt.length:=⟨_,rfl⟩
 obtain ⟨m,hm⟩:∃ m,m=lu.length:=⟨_,rfl⟩
 have HN:=hid hn
 have HM:=hid hm
 rw [<- hn] at HT ⊢
 rw [<- hm] at HU ⊢
 clear ht hu hr hn hm
 go_enter Tryz.func16,Tryz.ntmps16
 go_wp2_with fail
 refine (OL (w:=w)).mono ?_
 rintro x w1 ⟨bb,Zj,rfl,hB,hbb,b1⟩
 have OP:Hid (sM bb w [] w1):=⟨Zj,hB.blk,hB.Ol,hbb,b1⟩
 clear hB hbb b1
 go_wp2_with fail
 refine (vW HR.out OP.out ?_).mono ?_
 ·rfl
 rintro x w2 ⟨rfl,h2⟩
 have HF2:=hid h2
 clear h2 OP
 go_wp2_with fail
 refine (vX HR.out HF2.out ?_).mono ?_
 ·rfl
 rintro x w3 ⟨rfl,h3⟩
 have HF3:=hid h3
 clear h3 HF2
 go_wp2_with fail
 go_loopw [6,8] (λv i wr=>∃ j:Nat,j<=n/\j<=20/\i = .int .i64 (j:Nat)/\v = .bool true/\Hid (rF bb w (nQ (lt.take j)) [] wr)) (λ_ i _=>n - (intOf i).toNat)
 case atStart=>exact ⟨0,fO _,fO _,rfl,rfl,HF3⟩
 case round=>
  obtain ⟨j,hj,Zk,rfl,rfl,HF⟩:=hrel
  clear HF3
  by_cases hgo:j<n/\j<20
  ·obtain ⟨hlt1,hlt2⟩:=hgo
   obtain ⟨b,off,rfl,hR⟩:∃ b off,ta=some ⟨b,off,none⟩/\Raw w b off lt:=by
    rcases HT.out with ⟨_,_,e,e'⟩ | ⟨b,off,c,e,h⟩
    ·have:=HN.out;rw [e'] at this;simp at this;omega
    ·injection e with e;exact ⟨b,off,e,h⟩
   have hkz:j<lt.length:=by have:=HN.out;omega
   obtain ⟨c0,c1⟩:=hR.at_ j hkz
   obtain ⟨T',UT,Zl,_,_,_,hbel⟩:=id HF.out
   have d0:=(hbel.cell (p:=⟨b,_,none⟩) hR.lb).trans c0
   have d1:=(hbel.cell (p:=⟨b,_,none⟩) hR.lb).trans c1
   have o9:Hid (nQ (lt.take (j+1))=nQ (lt.take j) ++ [kW lt[j].1 lt[j].2]):=by
    show _=_
    rw [uV hkz];unfold nQ;rw [List.map_append];rfl
   have HX:=hid (λw=>yB lt[j].1 lt[j].2 w (hR.rng j hkz).1.1 (hR.rng j hkz).1.2 (hR.rng j hkz).2.1 (hR.rng j hkz).2.2)
   generalize lt[j].1=xa at d0 o9 HX
   generalize lt[j].2=xb at d1 o9 HX
   clear c0 c1 hbel UT hR
   go_wp2_with fail
   refine (HX.out _).mono ?_
   rintro e w4 ⟨sx,rfl,hsx,g4⟩
   have LL:=hid (HF.out.bel g4.below)
   have Ry:=hid hsx
   have hsz:=uR hsx
   clear hsx g4 d0 d1 HX
   go_wp2_with fail
   have OQ:((⟨#[105,110,115,101,114,116,32,105,110,116,111,32,116,32,118,97,108,117,101,115,32]⟩:ByteArray)++sx).data.toList = [105,110,115,101,114,116,32,105,110,116,111,32,116,32,118,97,108,117,101,115,32]++iL xa xb:=by
    rw [yC,show sx.data.toList=iL xa xb by rw [<- Ry.out,pD]]
   refine (ED HR.out LL.out OQ (by simp [nQ];omega)).mono ?_
   rintro x w5 ⟨rfl,h5⟩
   rw [<- o9.out] at h5
   have OR:=hid h5
   clear h5 LL Ry
   go_wp2_with fail
   go_roundw
   case rel=>exact ⟨j+1,by omega,by omega,by go_num,rfl,OR⟩
   case measure=>simp [intOf];omega
  ·have hfin:Hid (rF bb w (nQ (lt.take 20)) [] wr):=by
    have e1:lt.take 20=lt.take j:=by
     by_cases h:j<n
     ·rw [show j=20 by omega]
     ·rw [sD (by have:=HN.out;omega),sD (by have:=HN.out;omega)]
    show rF _ _ _ _ _
    rw [e1];exact HF.out
   have hcase:¬ j<n\/(j<n/\¬ j<20):=by omega
   clear HF hgo
   rcases hcase with hge | ⟨hlt1,hlt2⟩
   all_goals
    go_wp2_with fail
    go_loopw [6,10] (λv i wr=>∃ j:Nat,j<=m/\j<=20/\i = .int .i64 (j:Nat)/\v = .bool true/\Hid (rF bb w (nQ (lt.take 20)) (nQ (lu.take j)) wr)) (λ_ i _=>m - (intOf i).toNat)
    case atStart=>exact ⟨0,fO _,fO _,rfl,rfl,hfin⟩
    case round=>
     obtain ⟨k,hk,iT,rfl,rfl,HF⟩:=hrel
     clear hfin
     by_cases hgo:k<m/\k<20
     ·obtain ⟨hlt3,hlt4⟩:=hgo
      obtain ⟨b,off,rfl,hR⟩:∃ b off,ua=some ⟨b,off,none⟩/\Raw w b off lu:=by
       rcases HU.out with ⟨_,_,e,e'⟩ | ⟨b,off,c,e,h⟩
       ·have:=HM.out;rw [e'] at this;simp at this;omega
       ·injection e with e;exact ⟨b,off,e,h⟩
      have hkz:k<lu.length:=by have:=HM.out;omega
      obtain ⟨c0,c1⟩:=hR.at_ k hkz
      obtain ⟨T',UT,Zl,_,_,_,hbel⟩:=id HF.out
      have d0:=(hbel.cell (p:=⟨b,_,none⟩) hR.lb).trans c0
      have d1:=(hbel.cell (p:=⟨b,_,none⟩) hR.lb).trans c1
      have o9:Hid (nQ (lu.take (k+1))=nQ (lu.take k) ++ [kW lu[k].1 lu[k].2]):=by
       show _=_
       rw [uV hkz];unfold nQ;rw [List.map_append];rfl
      have HX:=hid (λw=>yB lu[k].1 lu[k].2 w (hR.rng k hkz).1.1 (hR.rng k hkz).1.2 (hR.rng k hkz).2.1 (hR.rng k hkz).2.2)
      generalize lu[k].1=xa at d0 o9 HX
      generalize lu[k].2=xb at d1 o9 HX
      clear c0 c1 hbel UT hR
      go_wp2_with fail
      refine (HX.out _).mono ?_
      rintro e w4 ⟨sx,rfl,hsx,g4⟩
      have LL:=hid (HF.out.bel g4.below)
      have Ry:=hid hsx
      have hsz:=uR hsx
      clear hsx g4 d0 d1 HX
      go_wp2_with fail
      have OQ:((⟨#[105,110,115,101,114,116,32,105,110,116,111,32,117,32,118,97,108,117,101,115,32]⟩:ByteArray)++sx).data.toList = [105,110,115,101,114,116,32,105,110,116,111,32,117,32,118,97,108,117,101,115,32]++iL xa xb:=by
       rw [yC,show sx.data.toList=iL xa xb by rw [<- Ry.out,pD]]
      refine (EE HR.out LL.out OQ (by simp [nQ];omega)).mono ?_
      rintro x w5 ⟨rfl,h5⟩
      rw [<- o9.out] at h5
      have OR:=hid h5
      clear h5 LL Ry
      go_wp2_with fail
      go_roundw
      case rel=>exact ⟨k+1,by omega,by omega,by go_num,rfl,OR⟩
      case measure=>simp [intOf];omega
     ·have RA:Hid (rF bb w (nQ (lt.take 20)) (nQ (lu.take 20)) wr):=by
       have e1:lu.take 20=lu.take k:=by
        by_cases h:k<m
        ·rw [show k=20 by omega]
        ·rw [sD (by have:=HM.out;omega),sD (by have:=HM.out;omega)]
       show rF _ _ _ _ _
       rw [e1];exact HF.out
      have hcase:¬ k<m\/(k<m/\¬ k<20):=by omega
      clear HF hgo
      rcases hcase with hge' | ⟨hlt3,hlt4⟩
      all_goals
       go_wp2_with fail
       exact cL (v := .pointer (some ⟨bb,0,none⟩)) (by simp [results,Tryz.results16,go_sem]) rfl ⟨bb,rfl,RA.out⟩
theorem m8 {l m:List (List Sv.Val)} (h:l.Perm m) (r:List Sv.Val):cnt l r=cnt m r:=by
 unfold cnt
 exact (h.filter _).length_eq
theorem dS.lv {base k:Nat} {w:World} {v:Value} {rows:List (List Sv.Val)} (h:dS base k w v rows) (hk:1<=k):Lv w v rows:=by
 rcases h with ⟨rfl,rfl⟩ | ⟨blk,c,rfl,h1,h2,h3⟩
 ·exact .inl ⟨rfl,rfl⟩
 ·refine .inr ⟨blk,0,_,rfl,h2,λi hi=>?_⟩
  obtain ⟨u,p1,p2,p3,p4⟩:=h3 i hi
  refine ⟨u,p1,?_⟩
  rcases p3 with ⟨_,e⟩ | ⟨b,o,c,e,_,hv⟩
  ·rw [e] at p4;simp at p4;omega
  ·exact ⟨b,o,c,e,hv⟩
theorem FB {l:List (Int×Int)} : ∀ r∈nQ l,r.length=2:=by
 intro r hr
 obtain ⟨x,_,rfl⟩:=List.mem_map.1 hr
 rfl
theorem rG.bel {w w' : World} {v:Value} {l:List (Int×Int)} (h:rG w v l) (g:RowKit.Below w.heap.size w w'):rG w' v l:=by
 rcases h with h | ⟨b,off,c,e,h⟩
 ·exact .inl h
 ·exact .inr ⟨b,off,c,e,⟨bY h.lb g.size,λi hi=>⟨(g.cell (p:=⟨b,_,none⟩) h.lb).trans (h.at_ i hi).1,(g.cell (p:=⟨b,_,none⟩) h.lb).trans (h.at_ i hi).2⟩,h.rng⟩⟩
theorem rF.below {bb:Nat} {w0 w:World} {R S:List Row} (h:rF bb w0 R S w):RowKit.Below w0.heap.size w0 w:=by
 obtain ⟨T,_,tv,_,_,_,h⟩:=h
 exact h
theorem Lv.sl {w:World} {v:Value} {rs:List (List Sv.Val)} (h:Lv w v rs):∃ a c,v = .slice a rs.length c:=by
 rcases h with ⟨rfl,rfl⟩ | ⟨b,off,c,rfl,_⟩
 ·exact ⟨none,0,rfl⟩
 ·exact ⟨_,c,rfl⟩
end Go.Proofs.YtgnncnhkgmhngaaGreatDoor
