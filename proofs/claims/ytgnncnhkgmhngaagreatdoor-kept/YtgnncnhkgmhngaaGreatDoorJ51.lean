import Derived.Test.YtgnncnhkgmhngaaGreatDoorJ48
import Derived.Test.YtgnncnhkgmhngaaGreatDoorJ50
set_option maxHeartbeats 4000000
set_option maxRecDepth 100000
namespace Go.Proofs.YtgnncnhkgmhngaaGreatDoor
open Go.RowKit Go.Sort
theorem ldoes {bb:Nat} {T' : List Sp.Tb} {wd:Nat} {c:Int} {s:ByteArray} {w:World} {D:Nat->Prop}
  (hE:Calls Tryz.prog 26 #[.pointer (some ⟨bb,0,none⟩), .string s] w fun r w'=>Ran D bb w T' wd 0 0 0 c [] r w') :
  Calls Tryz.prog 21 #[.pointer (some ⟨bb,0,none⟩), .string s, .int .i64 c] w fun r w'=>∃ tv',r = .returned (.bool true)/\(BasB w' bb tv'/\TbsC D w' T' tv')/\Kept bb w w':=by
 have HE:=hid hE
 clear hE
 go_enter Tryz.func21,Tryz.ntmps21
 go_wp2_with fail
 refine HE.out.mono ?_
 rintro x w1 ⟨rv,tv',rfl,h1,h2,h3⟩
 obtain ⟨ra,rc,rfl⟩:=h2.sl
 simp only [List.length_nil]
 have H1:=hid h1
 have H3:=hid h3
 clear h1 h2 h3 HE
 go_wp2_with fail
 refine bodyPost_ret (v := .bool true) (by simp [results,Tryz.results21,go_sem]) rfl ⟨tv',rfl,⟨?_,?_⟩,?_⟩
 ·exact (Below.heap_alloc _ _ _ H1.out.1.lt).trans H1.out.1
 ·exact H1.out.2.bel ((Gr.refl w1).alloc _).below
 ·exact H3.out.trans (Kept.gr ((Gr.refl w1).alloc _))
theorem lasks {bb:Nat} {T' : List Sp.Tb} {wd:Nat} {c:Int} {rows:List (List Sv.Val)} {s:ByteArray} {w:World} {D:Nat->Prop} (hl:rows.length<=100000) (hwd:wd<=100000) (hw0:1<=wd)
  (hE:Calls Tryz.prog 26 #[.pointer (some ⟨bb,0,none⟩), .string s] w fun r w'=>Ran D bb w T' wd 0 0 (wd:Nat) c rows r w') :
  Calls Tryz.prog 17 #[.pointer (some ⟨bb,0,none⟩), .string s, .int .i64 (wd:Nat)] w fun r w'=>∃ rv tv',r = .returned (.tuple #[rv, .bool true])/\RsO w.heap.size wd w' rv rows/\(BasB w' bb tv'/\TbsC D w' T' tv')/\Kept bb w w':=by
 have HE:=hid hE
 clear hE
 go_enter Tryz.func17,Tryz.ntmps17
 go_wp2_with fail
 refine HE.out.mono ?_
 rintro x w1 ⟨rv,tv',rfl,h1,h2,h3⟩
 have HS:=hid h2.sl
 obtain ⟨ra,rc,rfl⟩:=h2.sl
 have H1:=hid h1
 have H2:=hid h2
 have H3:=hid h3
 clear h1 h2 h3 HE
 generalize hn:rows.length=n at *
 go_wp2_with fail
 have HW:=hid (Bk.new w1 #[.int .i64 0, .int .i64 0, .int .i64 (wd:Nat), .slice ra n rc, .int .i64 c] 56)
 have GW:=hid ((Gr.refl w1).alloc (.cells #[.int .i64 0, .int .i64 0, .int .i64 (wd:Nat), .slice ra n rc, .int .i64 c] 56))
 generalize hW:w1.alloc (.cells #[.int .i64 0, .int .i64 0, .int .i64 (wd:Nat), .slice ra n rc, .int .i64 c] 56)=W at *
 go_loopw [9,10] (fun v i wr=>∃ j:Nat,j<=n/\i = .int .i64 (j:Nat)/\v = .bool true/\Hid (Gr W wr)) (fun _ i _=>n - (intOf i).toNat)
 case atStart=>exact ⟨0,Nat.zero_le _,rfl,rfl,Gr.refl _⟩
 case round=>
  obtain ⟨j,hj,rfl,rfl,HG⟩:=hrel
  have c3:=(HG.out.cell (p:=⟨w1.heap.size,3,none⟩) HW.out.lt).trans (HW.out.c 3 (by simp))
  simp only [List.getElem_cons_succ,List.getElem_cons_zero] at c3
  by_cases hlt:j<n
  ·obtain ⟨blk,b,o,cu,rfl,q1,q2⟩:∃ blk b o cu,ra=some ⟨blk,0,none⟩/\blk<W.heap.size/\W.cell? ⟨blk,j,none⟩=some (.slice (some ⟨b,o,none⟩) wd cu):=by
    rcases H2.out with ⟨e,_⟩ | ⟨blk,c',e,l1,l2,hr⟩
    ·rw [e] at hn;simp at hn;omega
    ·obtain ⟨u,p1,p2,p3,p4⟩:=hr j (by omega)
     injection e with e _ _
     rcases p3 with ⟨_,p3⟩ | ⟨b,o,cu,rfl,_,_⟩
     ·rw [p3] at p4;simp at p4;omega
     ·rw [p4] at p1
      refine ⟨blk,b,o,cu,e,Nat.lt_of_lt_of_le l2 GW.out.size,?_⟩
      have:=(GW.out.cell (p:=⟨blk,0+j,none⟩) l2).trans p1
      simpa using this
   have cj:=(HG.out.cell (p:=⟨blk,j,none⟩) q1).trans q2
   go_wp2_with fail
   go_roundw
   case rel=>exact ⟨j+1,by omega,by go_num,rfl,HG⟩
   case measure=>simp [intOf];omega
  ·obtain rfl:j=n:=by omega
   clear hlt
   go_wp2_with fail
   have hG:=GW.out.trans HG.out
   refine bodyPost_ret (v := .tuple #[.slice ra j rc, .bool true]) (by simp [results,Tryz.results17,go_sem]) rfl ⟨_,rfl,?_,⟨tv',?_,?_⟩,?_⟩
   ·exact H2.out.noS (Q:=fun _=>False) (fun _ h=>h.elim) (fun _ h=>h.elim) hG.size (fun k hk _=>hG.below.block k hk)
   ·exact (hG.below.block _ H1.out.1.lt).trans H1.out.1
   ·exact H1.out.2.bel hG.below
   ·exact H3.out.trans (Kept.gr hG)
def insT (nm:Sp.Bs) (a b:Int):Sp.Bs := [105,110,115,101,114,116,32,105,110,116,111,32]++nm ++ [32,118,97,108,117,101,115,32]++rtext a b
def rv0 (k:Int):Sv.Val:=if k<5 then Sv.int k else Sv.null
def rv1 (k:Int):Sv.Val:=if k<4 then Sv.text (rtxt k) else Sv.null
theorem rvals_eq (a b:Int):rvals a b = [rv0 (pk a 6),rv1 (pk b 5)]:=rfl
theorem rowK_any (a b:Int):Sp.rowK (rv0 a) (rv1 b):=by
 refine ⟨?_,?_⟩
 ·unfold rv0
  split
  ·exact .inl ⟨_,rfl⟩
  ·exact .inr rfl
 ·unfold rv1
  split
  ·exact .inl ⟨_,rfl⟩
  ·exact .inr rfl
def rtx (i j:Int):List UInt8 := [40]++rnum i ++ [44,32]++rstr j ++ [41]
theorem ins_t_ij:∀ i ∈ [(0:Int),1,2,3,4,5],∀ j ∈ [(0:Int),1,2,3,4],Sp.parse ([105,110,115,101,114,116,32,105,110,116,111,32,116,32,118,97,108,117,101,115,32]++rtx i j)=(0,0)/\Sp.tree ([105,110,115,101,114,116,32,105,110,116,111,32,116,32,118,97,108,117,101,115,32]++rtx i j)=Sp.ins [116] (rv0 i) (rv1 j):=by
 intro i hi j hj
 simp only [List.mem_cons,List.not_mem_nil,or_false] at hi hj
 rcases hi with rfl | rfl | rfl | rfl | rfl | rfl <;> rcases hj with rfl | rfl | rfl | rfl | rfl <;> exact ⟨by kernel_rfl,by kernel_rfl⟩
theorem ins_u_ij:∀ i ∈ [(0:Int),1,2,3,4,5],∀ j ∈ [(0:Int),1,2,3,4],Sp.parse ([105,110,115,101,114,116,32,105,110,116,111,32,117,32,118,97,108,117,101,115,32]++rtx i j)=(0,0)/\Sp.tree ([105,110,115,101,114,116,32,105,110,116,111,32,117,32,118,97,108,117,101,115,32]++rtx i j)=Sp.ins [117] (rv0 i) (rv1 j):=by
 intro i hi j hj
 simp only [List.mem_cons,List.not_mem_nil,or_false] at hi hj
 rcases hi with rfl | rfl | rfl | rfl | rfl | rfl <;> rcases hj with rfl | rfl | rfl | rfl | rfl <;> exact ⟨by kernel_rfl,by kernel_rfl⟩
theorem pk6 (a:Int):pk a 6 ∈ [(0:Int),1,2,3,4,5]:=by
 have:=pk_lt a 6 (by omega)
 simp only [List.mem_cons,List.not_mem_nil,or_false]
 omega
theorem pk5 (a:Int):pk a 5 ∈ [(0:Int),1,2,3,4]:=by
 have:=pk_lt a 5 (by omega)
 simp only [List.mem_cons,List.not_mem_nil,or_false]
 omega
theorem ins_t (a b:Int):Sp.parse ([105,110,115,101,114,116,32,105,110,116,111,32,116,32,118,97,108,117,101,115,32]++rtext a b)=(0,0)/\Sp.tree ([105,110,115,101,114,116,32,105,110,116,111,32,116,32,118,97,108,117,101,115,32]++rtext a b)=Sp.ins [116] (rv0 (pk a 6)) (rv1 (pk b 5)):=ins_t_ij _ (pk6 a) _ (pk5 b)
theorem ins_u (a b:Int):Sp.parse ([105,110,115,101,114,116,32,105,110,116,111,32,117,32,118,97,108,117,101,115,32]++rtext a b)=(0,0)/\Sp.tree ([105,110,115,101,114,116,32,105,110,116,111,32,117,32,118,97,108,117,101,115,32]++rtext a b)=Sp.ins [117] (rv0 (pk a 6)) (rv1 (pk b 5)):=ins_u_ij _ (pk6 a) _ (pk5 b)
def FilT (bb:Nat) (w0:World) (T:List Sp.Tb) (w:World):Prop:=∃ tv,BasB w bb tv/\TbsC (·≠bb) w T tv/\w0.heap.size<=bb/\RowKit.Below w0.heap.size w0 w
def Fil (bb:Nat) (w0:World) (R S:List Sp.Row) (w:World):Prop:=∃ T,Sp.TU R S T/\FilT bb w0 T w
theorem FilT.bel {bb:Nat} {w0 w w' : World} {T:List Sp.Tb} (h:FilT bb w0 T w) (g:RowKit.Below w.heap.size w w'):FilT bb w0 T w':=by
 obtain ⟨tv,h1,h2,h3,h4⟩:=h
 exact ⟨tv,(g.block _ h1.lt).trans h1,h2.bel g,h3,h4.trans (g.mono h4.size)⟩
theorem Fil.bel {bb:Nat} {w0 w w' : World} {R S:List Sp.Row} (h:Fil bb w0 R S w) (g:RowKit.Below w.heap.size w w'):Fil bb w0 R S w':=by
 obtain ⟨T,h1,h2⟩:=h
 exact ⟨T,h1,h2.bel g⟩
theorem kept_below {bb:Nat} {w0 w w' : World} (hb:w0.heap.size<=bb) (h:RowKit.Below w0.heap.size w0 w) (k:Kept bb w w'):RowKit.Below w0.heap.size w0 w':=
 ⟨k.os.trans h.os,k.tape.trans h.tape,k.output.trans h.output,Nat.le_trans h.size k.size,fun j hj=>(k.block j (Nat.lt_of_lt_of_le hj h.size) (by omega)).trans (h.block j hj)⟩
theorem RsO.kept {bb base k:Nat} {w0 w w' : World} {R S:List Sp.Row} {v:Value} {rows:List (List Sv.Val)} (h:RsO base k w v rows) (hf:Fil bb w0 R S w) (hb:bb<base) (g:Kept bb w w'):RsO base k w' v rows:=by
 obtain ⟨T,_,tv,h1,h2,_,_⟩:=hf
 obtain ⟨a,n,c,rfl⟩:=h2.sl
 exact h.noS (Q:=(·=bb)) (by rintro q rfl;exact h1.noS) (by rintro q rfl;exact hb) g.size (fun j hj hn=>g.block j hj hn)
theorem Fil.lt {bb:Nat} {w0 w:World} {R S:List Sp.Row} (h:Fil bb w0 R S w):bb<w.heap.size:=by
 obtain ⟨T,_,tv,h1,_⟩:=h
 exact h1.lt
theorem ok_ins (nm:Sp.Bs) (va vb:Sv.Val):Sp.okS 90000 (Sp.ins nm va vb):=by simp [Sp.okS,Sp.ins,Sp.wf,Sp.Nd.len,Sp.Nd.dep]
theorem ok_all (nm:Sp.Bs):Sp.okS 90000 (.query (Sp.all nm)):=by simp [Sp.okS,Sp.all,Sp.wf,Sp.Nd.dep]
theorem does_ok {bb:Nat} {T T' : List Sp.Tb} {st st' : Sp.Stm} {c:Int} {s:ByteArray} {w0 w:World} (hr:VRX w0) (h:FilT bb w0 T w) (hp:Sp.parse s.data.toList=(0,0)) (ht:Sp.tree s.data.toList=st) (hnt:∀ z,st ≠ .trans z) (hok:Sp.okS 90000 st) (hck:Sp.check T st=(⟨0,0,false⟩,st')) (hR:Runs T st' T' 0 0 0 0 c []) :
  Calls Tryz.prog 21 #[.pointer (some ⟨bb,0,none⟩), .string s, .int .i64 c] w fun r w'=>r = .returned (.bool true)/\FilT bb w0 T' w'/\Kept bb w w':=by
 obtain ⟨tv,h1,h2,h3,h4⟩:=h
 have hlt:=h1.lt
 have hsz:s.size<=maxLen:=by
  have:=Sp.len_parse hp
  rw [size_data] at this
  unfold maxLen
  omega
 refine (ldoes (exec_ok (D:=(·≠bb)) (fun j hj=>by omega) (fun h=>h rfl) h1 h2 (hr.below h4) hsz hp ht hnt hok (by rw [hck];rfl) (by rw [hck];exact hR))).mono ?_
 rintro r w' ⟨tv',rfl,⟨k1,k2⟩,k3⟩
 exact ⟨rfl,⟨tv',k1,k2,h3,kept_below h3 h4 k3⟩,k3⟩
theorem asks_ok {bb wd:Nat} {T T' : List Sp.Tb} {st st' : Sp.Stm} {rows:List Sp.Row} {c:Int} {s:ByteArray} {w0 w:World} (hr:VRX w0) (h:FilT bb w0 T w) (hp:Sp.parse s.data.toList=(0,0)) (ht:Sp.tree s.data.toList=st) (hnt:∀ z,st ≠ .trans z) (hok:Sp.okS 90000 st) (hck:Sp.check T st=(⟨0,0,false⟩,st')) (hl:rows.length<=100000) (hwd:wd<=100000) (hw0:1<=wd) (hR:Runs T st' T' wd 0 0 (wd:Nat) c rows) :
  Calls Tryz.prog 17 #[.pointer (some ⟨bb,0,none⟩), .string s, .int .i64 (wd:Nat)] w fun r w'=>∃ rv,r = .returned (.tuple #[rv, .bool true])/\RsO w.heap.size wd w' rv rows/\FilT bb w0 T' w'/\Kept bb w w':=by
 obtain ⟨tv,h1,h2,h3,h4⟩:=h
 have hlt:=h1.lt
 have hsz:s.size<=maxLen:=by
  have:=Sp.len_parse hp
  rw [size_data] at this
  unfold maxLen
  omega
 refine (lasks hl hwd hw0 (exec_ok (D:=(·≠bb)) (fun j hj=>by omega) (fun h=>h rfl) h1 h2 (hr.below h4) hsz hp ht hnt hok (by rw [hck];rfl) (by rw [hck];exact hR))).mono ?_
 rintro r w' ⟨rv,tv',rfl,k0,⟨k1,k2⟩,k3⟩
 exact ⟨rv,rfl,k0,⟨tv',k1,k2,h3,kept_below h3 h4 k3⟩,k3⟩
theorem does_ins_t {bb:Nat} {R S:List Sp.Row} {a b:Int} {s:ByteArray} {w0 w:World} (hr:VRX w0) (h:Fil bb w0 R S w) (hs:s.data.toList = [105,110,115,101,114,116,32,105,110,116,111,32,116,32,118,97,108,117,101,115,32]++rtext a b) (hl:R.length<100) :
  Calls Tryz.prog 21 #[.pointer (some ⟨bb,0,none⟩), .string s, .int .i64 1] w fun r w'=>r = .returned (.bool true)/\Fil bb w0 (R ++ [rvals a b]) S w':=by
 obtain ⟨T,hT,h⟩:=h
 have hi:=ins_t a b
 rw [<- hs] at hi
 refine (does_ok hr h hi.1 hi.2 (fun z=>by simp [Sp.ins]) (ok_ins _ _ _) (Sp.c_ins_t hT (rowK_any _ _)) (runs_ins_t hT _ _ hl)).mono ?_
 rintro r w' ⟨rfl,h',_⟩
 exact ⟨rfl,_,hT.wt _,h'⟩
theorem does_ins_u {bb:Nat} {R S:List Sp.Row} {a b:Int} {s:ByteArray} {w0 w:World} (hr:VRX w0) (h:Fil bb w0 R S w) (hs:s.data.toList = [105,110,115,101,114,116,32,105,110,116,111,32,117,32,118,97,108,117,101,115,32]++rtext a b) (hl:S.length<100) :
  Calls Tryz.prog 21 #[.pointer (some ⟨bb,0,none⟩), .string s, .int .i64 1] w fun r w'=>r = .returned (.bool true)/\Fil bb w0 R (S ++ [rvals a b]) w':=by
 obtain ⟨T,hT,h⟩:=h
 have hi:=ins_u a b
 rw [<- hs] at hi
 refine (does_ok hr h hi.1 hi.2 (fun z=>by simp [Sp.ins]) (ok_ins _ _ _) (Sp.c_ins_u hT (rowK_any _ _)) (runs_ins_u hT _ _ hl)).mono ?_
 rintro r w' ⟨rfl,h',_⟩
 exact ⟨rfl,_,hT.wu _,h'⟩
theorem does_create_t {bb:Nat} {s:ByteArray} {w0 w:World} (hr:VRX w0) (h:FilT bb w0 [] w) (hs:s.data.toList = [99,114,101,97,116,101,32,116,97,98,108,101,32,116,32,40,97,32,105,110,116,44,32,98,32,116,101,120,116,41]) :
  Calls Tryz.prog 21 #[.pointer (some ⟨bb,0,none⟩), .string s, .int .i64 0] w fun r w'=>r = .returned (.bool true)/\FilT bb w0 [Sp.tt []] w':=by
 refine (does_ok hr h (by rw [hs];exact Sp.p_create_t) (by rw [hs];exact Sp.t_create_t) (fun z=>by simp) (by simp [Sp.okS]) Sp.c_create_t (runs_create (by decide) (by decide) (by decide) (by decide))).mono ?_
 rintro r w' ⟨rfl,h',_⟩
 exact ⟨rfl,h'⟩
theorem does_create_u {bb:Nat} {s:ByteArray} {w0 w:World} (hr:VRX w0) (h:FilT bb w0 [Sp.tt []] w) (hs:s.data.toList = [99,114,101,97,116,101,32,116,97,98,108,101,32,117,32,40,97,32,105,110,116,44,32,98,32,116,101,120,116,41]) :
  Calls Tryz.prog 21 #[.pointer (some ⟨bb,0,none⟩), .string s, .int .i64 0] w fun r w'=>r = .returned (.bool true)/\Fil bb w0 [] [] w':=by
 refine (does_ok hr h (by rw [hs];exact Sp.p_create_u) (by rw [hs];exact Sp.t_create_u) (fun z=>by simp) (by simp [Sp.okS]) (Sp.c_create_u []) (runs_create (by decide) (by decide) (by decide) (by decide))).mono ?_
 rintro r w' ⟨rfl,h',_⟩
 exact ⟨rfl,_, .inl rfl,h'⟩
theorem bytes_app (a b:ByteArray):(a++b).data.toList=a.data.toList++b.data.toList:=by simp
theorem rtext_len (a b:Int):(rtext a b).length<=2000:=by
 have:=Sp.len_parse (ins_t a b).1
 rw [List.length_append] at this
 omega
theorem rtext_size {a b:Int} {s:ByteArray} (h:s.toList=rtext a b):s.size<=2000:=by
 have:=rtext_len a b
 rw [<- h,ByteArray.toList_eq,size_data] at this
 exact this
def RawV (w:World) (v:Value) (l:List (Int×Int)):Prop:=(∃ a c,v = .slice a 0 c/\l = [])\/∃ b off c,v = .slice (some ⟨b,off,none⟩) l.length c/\Raw w b off l
theorem RawV.sl {w:World} {v:Value} {l:List (Int×Int)} (h:RawV w v l):∃ a c,v = .slice a l.length c:=by
 rcases h with ⟨a,c,rfl,rfl⟩ | ⟨b,off,c,rfl,_⟩
 ·exact ⟨a,c,rfl⟩
 ·exact ⟨_,c,rfl⟩
theorem lfilled {tv uv:Value} {lt lu:List (Int×Int)} {w:World} (hr:VRX w) (ht:RawV w tv lt) (hu:RawV w uv lu) (_hlt:lt.length<=9223372036854775807) (_hlu:lu.length<=9223372036854775807) :
  Calls Tryz.prog 16 #[tv,uv] w fun r w'=>∃ bb,r = .returned (.pointer (some ⟨bb,0,none⟩))/\Fil bb w (rvs (lt.take 20)) (rvs (lu.take 20)) w':=by
 obtain ⟨ta,tc,rfl⟩:=ht.sl
 obtain ⟨ua,uc,rfl⟩:=hu.sl
 have HR:=hid hr
 have HT:=hid ht
 have HU:=hid hu
 obtain ⟨n,hn⟩:∃ n,n=lt.length:=⟨_,rfl⟩
 obtain ⟨m,hm⟩:∃ m,m=lu.length:=⟨_,rfl⟩
 have HN:=hid hn
 have HM:=hid hm
 rw [<- hn] at HT ⊢
 rw [<- hm] at HU ⊢
 clear ht hu hr hn hm
 go_enter Tryz.func16,Tryz.ntmps16
 go_wp2_with fail
 refine (new_ok (w:=w)).mono ?_
 rintro x w1 ⟨bb,tv1,rfl,hB,hbb,b1⟩
 have HF1:Hid (FilT bb w [] w1):=⟨tv1,hB.blk,hB.tbs,hbb,b1⟩
 clear hB hbb b1
 go_wp2_with fail
 refine (does_create_t HR.out HF1.out ?_).mono ?_
 ·rfl
 rintro x w2 ⟨rfl,h2⟩
 have HF2:=hid h2
 clear h2 HF1
 go_wp2_with fail
 refine (does_create_u HR.out HF2.out ?_).mono ?_
 ·rfl
 rintro x w3 ⟨rfl,h3⟩
 have HF3:=hid h3
 clear h3 HF2
 go_wp2_with fail
 go_loopw [6,8] (fun v i wr=>∃ j:Nat,j<=n/\j<=20/\i = .int .i64 (j:Nat)/\v = .bool true/\Hid (Fil bb w (rvs (lt.take j)) [] wr)) (fun _ i _=>n - (intOf i).toNat)
 case atStart=>exact ⟨0,Nat.zero_le _,Nat.zero_le _,rfl,rfl,HF3⟩
 case round=>
  obtain ⟨j,hj,hj20,rfl,rfl,HF⟩:=hrel
  clear HF3
  by_cases hgo:j<n/\j<20
  ·obtain ⟨hlt1,hlt2⟩:=hgo
   obtain ⟨b,off,rfl,hR⟩:∃ b off,ta=some ⟨b,off,none⟩/\Raw w b off lt:=by
    rcases HT.out with ⟨_,_,e,e'⟩ | ⟨b,off,c,e,h⟩
    ·have:=HN.out;rw [e'] at this;simp at this;omega
    ·injection e with e;exact ⟨b,off,e,h⟩
   have hkz:j<lt.length:=by have:=HN.out;omega
   obtain ⟨c0,c1⟩:=hR.at_ j hkz
   obtain ⟨T',hTU,tvx,_,_,_,hbel⟩:=id HF.out
   have d0:=(hbel.cell (p:=⟨b,_,none⟩) hR.lb).trans c0
   have d1:=(hbel.cell (p:=⟨b,_,none⟩) hR.lb).trans c1
   have HTk:Hid (rvs (lt.take (j+1))=rvs (lt.take j) ++ [rvals lt[j].1 lt[j].2]):=by
    show _=_
    rw [List.take_succ_eq_append_getElem hkz];unfold rvs;rw [List.map_append];rfl
   have HX:=hid (fun w=>ltext_any lt[j].1 lt[j].2 w (hR.rng j hkz).1.1 (hR.rng j hkz).1.2 (hR.rng j hkz).2.1 (hR.rng j hkz).2.2)
   generalize lt[j].1=xa at d0 HTk HX
   generalize lt[j].2=xb at d1 HTk HX
   clear c0 c1 hbel hTU hR
   go_wp2_with fail
   refine (HX.out _).mono ?_
   rintro e w4 ⟨sx,rfl,hsx,g4⟩
   have HF4:=hid (HF.out.bel g4.below)
   have HSx:=hid hsx
   have hsz:=rtext_size hsx
   clear hsx g4 d0 d1 HX
   go_wp2_with fail
   have hsx2:((⟨#[105,110,115,101,114,116,32,105,110,116,111,32,116,32,118,97,108,117,101,115,32]⟩:ByteArray)++sx).data.toList = [105,110,115,101,114,116,32,105,110,116,111,32,116,32,118,97,108,117,101,115,32]++rtext xa xb:=by
    rw [bytes_app,show sx.data.toList=rtext xa xb by rw [<- HSx.out,ByteArray.toList_eq]]
   refine (does_ins_t HR.out HF4.out hsx2 (by simp [rvs];omega)).mono ?_
   rintro x w5 ⟨rfl,h5⟩
   rw [<- HTk.out] at h5
   have HF5:=hid h5
   clear h5 HF4 HSx
   go_wp2_with fail
   go_roundw
   case rel=>exact ⟨j+1,by omega,by omega,by go_num,rfl,HF5⟩
   case measure=>simp [intOf];omega
  ·have hfin:Hid (Fil bb w (rvs (lt.take 20)) [] wr):=by
    have e1:lt.take 20=lt.take j:=by
     by_cases h:j<n
     ·rw [show j=20 by omega]
     ·rw [List.take_of_length_le (by have:=HN.out;omega),List.take_of_length_le (by have:=HN.out;omega)]
    show Fil _ _ _ _ _
    rw [e1];exact HF.out
   have hcase:¬ j<n\/(j<n/\¬ j<20):=by omega
   clear HF hgo
   rcases hcase with hge | ⟨hlt1,hlt2⟩
   all_goals
    go_wp2_with fail
    go_loopw [6,10] (fun v i wr=>∃ j:Nat,j<=m/\j<=20/\i = .int .i64 (j:Nat)/\v = .bool true/\Hid (Fil bb w (rvs (lt.take 20)) (rvs (lu.take j)) wr)) (fun _ i _=>m - (intOf i).toNat)
    case atStart=>exact ⟨0,Nat.zero_le _,Nat.zero_le _,rfl,rfl,hfin⟩
    case round=>
     obtain ⟨k,hk,hk20,rfl,rfl,HF⟩:=hrel
     clear hfin
     by_cases hgo:k<m/\k<20
     ·obtain ⟨hlt3,hlt4⟩:=hgo
      obtain ⟨b,off,rfl,hR⟩:∃ b off,ua=some ⟨b,off,none⟩/\Raw w b off lu:=by
       rcases HU.out with ⟨_,_,e,e'⟩ | ⟨b,off,c,e,h⟩
       ·have:=HM.out;rw [e'] at this;simp at this;omega
       ·injection e with e;exact ⟨b,off,e,h⟩
      have hkz:k<lu.length:=by have:=HM.out;omega
      obtain ⟨c0,c1⟩:=hR.at_ k hkz
      obtain ⟨T',hTU,tvx,_,_,_,hbel⟩:=id HF.out
      have d0:=(hbel.cell (p:=⟨b,_,none⟩) hR.lb).trans c0
      have d1:=(hbel.cell (p:=⟨b,_,none⟩) hR.lb).trans c1
      have HTk:Hid (rvs (lu.take (k+1))=rvs (lu.take k) ++ [rvals lu[k].1 lu[k].2]):=by
       show _=_
       rw [List.take_succ_eq_append_getElem hkz];unfold rvs;rw [List.map_append];rfl
      have HX:=hid (fun w=>ltext_any lu[k].1 lu[k].2 w (hR.rng k hkz).1.1 (hR.rng k hkz).1.2 (hR.rng k hkz).2.1 (hR.rng k hkz).2.2)
      generalize lu[k].1=xa at d0 HTk HX
      generalize lu[k].2=xb at d1 HTk HX
      clear c0 c1 hbel hTU hR
      go_wp2_with fail
      refine (HX.out _).mono ?_
      rintro e w4 ⟨sx,rfl,hsx,g4⟩
      have HF4:=hid (HF.out.bel g4.below)
      have HSx:=hid hsx
      have hsz:=rtext_size hsx
      clear hsx g4 d0 d1 HX
      go_wp2_with fail
      have hsx2:((⟨#[105,110,115,101,114,116,32,105,110,116,111,32,117,32,118,97,108,117,101,115,32]⟩:ByteArray)++sx).data.toList = [105,110,115,101,114,116,32,105,110,116,111,32,117,32,118,97,108,117,101,115,32]++rtext xa xb:=by
       rw [bytes_app,show sx.data.toList=rtext xa xb by rw [<- HSx.out,ByteArray.toList_eq]]
      refine (does_ins_u HR.out HF4.out hsx2 (by simp [rvs];omega)).mono ?_
      rintro x w5 ⟨rfl,h5⟩
      rw [<- HTk.out] at h5
      have HF5:=hid h5
      clear h5 HF4 HSx
      go_wp2_with fail
      go_roundw
      case rel=>exact ⟨k+1,by omega,by omega,by go_num,rfl,HF5⟩
      case measure=>simp [intOf];omega
     ·have hfin2:Hid (Fil bb w (rvs (lt.take 20)) (rvs (lu.take 20)) wr):=by
       have e1:lu.take 20=lu.take k:=by
        by_cases h:k<m
        ·rw [show k=20 by omega]
        ·rw [List.take_of_length_le (by have:=HM.out;omega),List.take_of_length_le (by have:=HM.out;omega)]
       show Fil _ _ _ _ _
       rw [e1];exact HF.out
      have hcase:¬ k<m\/(k<m/\¬ k<20):=by omega
      clear HF hgo
      rcases hcase with hge' | ⟨hlt3,hlt4⟩
      all_goals
       go_wp2_with fail
       exact bodyPost_ret (v := .pointer (some ⟨bb,0,none⟩)) (by simp [results,Tryz.results16,go_sem]) rfl ⟨bb,rfl,hfin2.out⟩
theorem cnt_perm {l m:List (List Sv.Val)} (h:l.Perm m) (r:List Sv.Val):cnt l r=cnt m r:=by
 unfold cnt
 exact (h.filter _).length_eq
theorem bag_sort {R:List (List Sv.Val)} {k:Nat} (hR:∀ r∈R,r.length=k):Bag (sortR R) R:=by
 have hp:=sortR_perm R
 have hs:=sortR_sorted R
 have hl:∀ r∈sortR R,r.length=k:=fun r hr=>hR r (hp.mem_iff.1 hr)
 refine ⟨hp.length_eq,fun i _=>cnt_perm hp _,fun i hi=>?_⟩
 have h1:=List.pairwise_iff_getElem.1 hs i (i+1) (by omega) hi (by omega)
 have h2:=befR_cmp (sortR R)[i+1] (sortR R)[i] (by rw [hl _ (List.getElem_mem _),hl _ (List.getElem_mem _)])
 have h3:=cmpR_anti (sortR R)[i] (sortR R)[i+1]
 cases hb:befR (sortR R)[i+1] (sortR R)[i] with
 | false=>rfl
 | true=>have:=h2.1 hb;omega
theorem RsO.lv {base k:Nat} {w:World} {v:Value} {rows:List (List Sv.Val)} (h:RsO base k w v rows) (hk:1<=k):Lv w v rows:=by
 rcases h with ⟨rfl,rfl⟩ | ⟨blk,c,rfl,h1,h2,h3⟩
 ·exact .inl ⟨rfl,rfl⟩
 ·refine .inr ⟨blk,0,_,rfl,h2,fun i hi=>?_⟩
  obtain ⟨u,p1,p2,p3,p4⟩:=h3 i hi
  refine ⟨u,p1,?_⟩
  rcases p3 with ⟨_,e⟩ | ⟨b,o,c,e,_,hv⟩
  ·rw [e] at p4;simp at p4;omega
  ·exact ⟨b,o,c,e,hv⟩
theorem asks_all_t {bb:Nat} {R S:List Sp.Row} {s:ByteArray} {w0 w:World} (hr:VRX w0) (h:Fil bb w0 R S w) (hs:s.data.toList = [115,101,108,101,99,116,32,42,32,102,114,111,109,32,116]) (hR:∀ r∈R,r.length=2) (hS:∀ r∈S,r.length=2) (hl:R.length<=1000) :
  Calls Tryz.prog 17 #[.pointer (some ⟨bb,0,none⟩), .string s, .int .i64 2] w fun r w'=>∃ rv,r = .returned (.tuple #[rv, .bool true])/\RsO w.heap.size 2 w' rv (sortR R)/\Fil bb w0 R S w'/\Kept bb w w':=by
 obtain ⟨T,hT,h⟩:=h
 refine (asks_ok (wd:=2) (rows:=sortR R) hr h (by rw [hs];exact Sp.p_sel_t) (by rw [hs];exact Sp.t_sel_t) (fun z=>by simp) (ok_all _) (Sp.c_sel_t hT hl) (by have:=(sortR_perm R).length_eq;omega) (by omega) (by omega) (runs_all hT.ft rfl rfl (hT.ok hR hS) hT.cols hl)).mono ?_
 rintro r w' ⟨rv,rfl,h1,h2,h3⟩
 exact ⟨rv,rfl,h1,⟨T,hT,h2⟩,h3⟩
theorem asks_all_u {bb:Nat} {R S:List Sp.Row} {s:ByteArray} {w0 w:World} (hr:VRX w0) (h:Fil bb w0 R S w) (hs:s.data.toList = [115,101,108,101,99,116,32,42,32,102,114,111,109,32,117]) (hR:∀ r∈R,r.length=2) (hS:∀ r∈S,r.length=2) (hl:S.length<=1000) :
  Calls Tryz.prog 17 #[.pointer (some ⟨bb,0,none⟩), .string s, .int .i64 2] w fun r w'=>∃ rv,r = .returned (.tuple #[rv, .bool true])/\RsO w.heap.size 2 w' rv (sortR S)/\Fil bb w0 R S w'/\Kept bb w w':=by
 obtain ⟨T,hT,h⟩:=h
 refine (asks_ok (wd:=2) (rows:=sortR S) hr h (by rw [hs];exact Sp.p_sel_u) (by rw [hs];exact Sp.t_sel_u) (fun z=>by simp) (ok_all _) (Sp.c_sel_u hT hl) (by have:=(sortR_perm S).length_eq;omega) (by omega) (by omega) (runs_all hT.fu rfl rfl (hT.ok hR hS) hT.cols hl)).mono ?_
 rintro r w' ⟨rv,rfl,h1,h2,h3⟩
 exact ⟨rv,rfl,h1,⟨T,hT,h2⟩,h3⟩
end Go.Proofs.YtgnncnhkgmhngaaGreatDoor
namespace Go.Proofs.YtgnncnhkgmhngaaGreatDoor.Sp
structure Tok (s:Bs) (e:Nat) (c:Cl) (a:Nat) (w:Bs) (z:Nat):Prop where
 c:tokCl s e=c
 a:tokAt s e=a
 w:tokWord s e=w
 z:tokEnd s e=z
theorem Tok.no {s:Bs} {e:Nat} {c:Cl} {a:Nat} {w:Bs} {z:Nat} (h:Tok s e c a w z) (hc:(c == .key)=false) (w' : Bs):St.is s w' (.live e)=false:=by
 show (tokCl s e == .key&&tokWord s e == w')=false
 rw [h.c,hc];rfl
theorem Tok.is {s:Bs} {e:Nat} {a:Nat} {w:Bs} {z:Nat} (h:Tok s e .key a w z) (w' : Bs):St.is s w' (.live e)=(w == w'):=by
 show (tokCl s e == .key&&tokWord s e == w')=_
 rw [h.c,h.w];rfl
theorem Tok.isCl {s:Bs} {e:Nat} {c:Cl} {a:Nat} {w:Bs} {z:Nat} (h:Tok s e c a w z) (c' : Cl):St.isCl s c' (.live e)=(c == c'):=by
 show (tokCl s e == c')=_
 rw [h.c]
theorem Tok.step {s:Bs} {e:Nat} {c:Cl} {a:Nat} {w:Bs} {z:Nat} (h:Tok s e c a w z):St.step s (.live e) = .live z:=by
 show St.live (tokEnd s e)=_
 rw [h.z]
def Par (s:Bs) (nt:Nt) (k d e z:Nat) (A:Nd):Prop:=∀ m,run s (m+k) nt d (.live e) = .live z/\tr s (m+k) nt d .nil (.live e)=A
theorem par_txt {s:Bs} {d e a z:Nat} {Q:Bs} (h:Tok s e .txt a Q z):Par s .atom 1 d e z (.const (Sv.text ⟨(txtVal Q).toArray⟩)):=by
 intro m
 constructor
 ·show (if (St.isCl s .num (.live e)||St.isCl s .txt (.live e))=true then St.step s (.live e) else _)=_
  rw [h.isCl,h.isCl,h.step];rfl
 ·show (if St.isCl s .num (.live e)=true then _ else if St.isCl s .txt (.live e)=true then Nd.const (Sv.text ⟨(txtVal (tokWord s e)).toArray⟩) else _)=_
  rw [h.isCl,h.isCl,h.w];rfl
theorem par_num {s:Bs} {d e a z:Nat} {Q:Bs} (h:Tok s e .num a Q z):Par s .atom 1 d e z (.const (Sv.int (numVal Q))):=by
 intro m
 constructor
 ·show (if (St.isCl s .num (.live e)||St.isCl s .txt (.live e))=true then St.step s (.live e) else _)=_
  rw [h.isCl,h.step];rfl
 ·show (if St.isCl s .num (.live e)=true then Nd.const (Sv.int (numVal (tokWord s e))) else _)=_
  rw [h.isCl,h.w];rfl
theorem par_col {s:Bs} {d e a z:Nat} {Q:Bs} (h:Tok s e .name a Q z) (hd:St.is s [46] (.live z)=false):Par s .atom 1 d e z (.col [] Q a 0 0 0):=by
 intro m
 constructor
 ·show (if (St.isCl s .num (.live e)||St.isCl s .txt (.live e))=true then St.step s (.live e) else if (St.is s _ (.live e)||St.is s _ (.live e)||St.is s _ (.live e))=true then St.step s (.live e) else if St.isCl s .name (.live e)=true then (if St.is s _ (St.step s (.live e))=true then _ else St.step s (.live e)) else _)=_
  rw [h.isCl,h.isCl,h.isCl,h.no rfl,h.no rfl,h.no rfl,h.step,hd];rfl
 ·show (if St.isCl s .num (.live e)=true then _ else if St.isCl s .txt (.live e)=true then _ else if St.is s _ (.live e)=true then _ else if St.is s _ (.live e)=true then _ else if St.is s _ (.live e)=true then _ else if St.isCl s .name (.live e)=true then (if St.is s _ (St.step s (.live e))=true then _ else Nd.col [] (tokWord s e) (tokAt s e) 0 0 0) else _)=_
  rw [h.isCl,h.isCl,h.isCl,h.no rfl,h.no rfl,h.no rfl,h.step,hd,h.w,h.a];rfl
theorem par_sum {s:Bs} {d e z:Nat} {A:Nd} (h:Par s .atom 1 d e z A) (h0:St.is s [45] (.live e)=false) (h1:St.is s [42] (.live z)=false) (h2:St.is s [47] (.live z)=false) (h3:St.is s [43] (.live z)=false) (h4:St.is s [45] (.live z)=false):Par s .sum 4 d e z A:=by
 have hu:Par s .unary 2 d e z A:=fun m=>by
  constructor
  ·show (if St.is s _ (.live e)=true then _ else run s (m+1) .atom d (.live e))=_
   rw [h0];exact (h m).1
  ·show (if St.is s _ (.live e)=true then _ else tr s (m+1) .atom d .nil (.live e))=_
   rw [h0];exact (h m).2
 have hp:Par s .product 3 d e z A:=fun m=>by
  constructor
  ·show run s (m+2) .prodL d (run s (m+2) .unary d (.live e))=_
   rw [(hu m).1]
   show (if (St.is s _ (.live z)||St.is s _ (.live z))=true then _ else St.live z)=_
   rw [h1,h2];rfl
  ·show tr s (m+2) .prodL d (tr s (m+2) .unary d .nil (.live e)) (run s (m+2) .unary d (.live e))=_
   rw [(hu m).1,(hu m).2]
   show (if (St.is s _ (.live z)||St.is s _ (.live z))=true then _ else A)=_
   rw [h1,h2];rfl
 intro m
 constructor
 ·show run s (m+3) .sumL d (run s (m+3) .product d (.live e))=_
  rw [(hp m).1]
  show (if (St.is s _ (.live z)||St.is s _ (.live z))=true then _ else St.live z)=_
  rw [h3,h4];rfl
 ·show tr s (m+3) .sumL d (tr s (m+3) .product d .nil (.live e)) (run s (m+3) .product d (.live e))=_
  rw [(hp m).1,(hp m).2]
  show (if (St.is s _ (.live z)||St.is s _ (.live z))=true then _ else A)=_
  rw [h3,h4];rfl
theorem Tok.must {s:Bs} {e a z:Nat} {w:Bs} (h:Tok s e .key a w z):St.must s w (.live e) = .live z:=by
 show (if St.is s w (.live e)=true then St.step s (.live e) else _)=_
 rw [h.is,h.step,if_pos (by simp)]
theorem Tok.nameT {s:Bs} {e a z:Nat} {w:Bs} (h:Tok s e .name a w z):St.nameT s (.live e) = .live z:=by
 show (if St.isCl s .name (.live e)=true then St.step s (.live e) else _)=_
 rw [h.isCl,h.step];rfl
theorem Tok.nm {s:Bs} {e a z:Nat} {c:Cl} {w:Bs} (h:Tok s e c a w z):St.nm s (.live e)=(w,a):=by
 show (tokWord s e,tokAt s e)=_
 rw [h.w,h.a]
theorem Tok.at_ {s:Bs} {e a z:Nat} {c:Cl} {w:Bs} (h:Tok s e c a w z):St.at_ s (.live e)=a:=h.a
def NoCmp (s:Bs) (z:Nat):Prop:=St.isCmp s (.live z)=false/\St.is s [105,115] (.live z)=false/\St.is s [110,111,116] (.live z)=false/\St.is s [105,110] (.live z)=false
theorem par_plain {s:Bs} {d e z:Nat} {A:Nd} (h:Par s .sum 4 d e z A) (hz:NoCmp s z):Par s .compare 5 d e z A:=by
 intro m
 constructor
 ·show (if St.isCmp s (run s (m+4) .sum d (.live e))=true then _ else if St.is s _ (run s (m+4) .sum d (.live e))=true then _ else if St.is s _ (run s (m+4) .sum d (.live e))=true then _ else if St.is s _ (run s (m+4) .sum d (.live e))=true then _ else run s (m+4) .sum d (.live e))=_
  rw [(h m).1,hz.1,hz.2.1,hz.2.2.1,hz.2.2.2];rfl
 ·show (if St.isCmp s (run s (m+4) .sum d (.live e))=true then _ else if St.is s _ (run s (m+4) .sum d (.live e))=true then _ else if St.is s _ (run s (m+4) .sum d (.live e))=true then _ else if St.is s _ (run s (m+4) .sum d (.live e))=true then _ else tr s (m+4) .sum d .nil (.live e))=_
  rw [(h m).1,(h m).2,hz.1,hz.2.1,hz.2.2.1,hz.2.2.2];rfl
theorem par_eq {s:Bs} {d e e1 a e2 z:Nat} {A B:Nd} (h:Par s .sum 4 d e e1 A) (ht:Tok s e1 .key a [61] e2) (h' : Par s .sum 4 d e2 z B):Par s .compare 5 d e z (.op [61] a (.cons A (.cons B .nil))):=by
 have hc:St.isCmp s (.live e1)=true:=by
  show (St.is s _ (.live e1)||_||_||_||_||_)=true
  rw [ht.is];rfl
 intro m
 constructor
 ·show (if St.isCmp s (run s (m+4) .sum d (.live e))=true then run s (m+4) .sum d (St.step s (run s (m+4) .sum d (.live e))) else _)=_
  rw [(h m).1,hc,ht.step,(h' m).1];rfl
 ·show (if St.isCmp s (run s (m+4) .sum d (.live e))=true then Nd.op (St.word s (run s (m+4) .sum d (.live e))) (St.at_ s (run s (m+4) .sum d (.live e))) (.cons (tr s (m+4) .sum d .nil (.live e)) (.cons (tr s (m+4) .sum d .nil (St.step s (run s (m+4) .sum d (.live e)))) .nil)) else _)=_
  rw [(h m).1,(h m).2,hc,ht.step,(h' m).2,ht.at_,show St.word s (.live e1)=_ from ht.w];rfl
theorem par_expr {s:Bs} {d e z:Nat} {A:Nd} (h:Par s .compare 5 d e z A) (h0:St.is s [110,111,116] (.live e)=false) (h1:St.is s [97,110,100] (.live z)=false) (h2:St.is s [111,114] (.live z)=false):Par s .expr 8 d e z A:=by
 have hn:Par s .no 6 d e z A:=fun m=>by
  constructor
  ·show (if St.is s _ (.live e)=true then _ else run s (m+5) .compare d (.live e))=_
   rw [h0];exact (h m).1
  ·show (if St.is s _ (.live e)=true then _ else tr s (m+5) .compare d .nil (.live e))=_
   rw [h0];exact (h m).2
 have hb:Par s .both 7 d e z A:=fun m=>by
  constructor
  ·show run s (m+6) .andL d (run s (m+6) .no d (.live e))=_
   rw [(hn m).1]
   show (if St.is s _ (.live z)=true then _ else St.live z)=_
   rw [h1];rfl
  ·show tr s (m+6) .andL d (tr s (m+6) .no d .nil (.live e)) (run s (m+6) .no d (.live e))=_
   rw [(hn m).1,(hn m).2]
   show (if St.is s _ (.live z)=true then _ else A)=_
   rw [h1];rfl
 intro m
 constructor
 ·show run s (m+7) .orL d (run s (m+7) .both d (.live e))=_
  rw [(hb m).1]
  show (if St.is s _ (.live z)=true then _ else St.live z)=_
  rw [h2];rfl
 ·show tr s (m+7) .orL d (tr s (m+7) .both d .nil (.live e)) (run s (m+7) .both d (.live e))=_
  rw [(hb m).1,(hb m).2]
  show (if St.is s _ (.live z)=true then _ else A)=_
  rw [h2];rfl
theorem par_where {s:Bs} {d e a e1 z:Nat} {A:Nd} (ht:Tok s e .key a [119,104,101,114,101] e1) (h:Par s .expr 8 d e1 z A):Par s .where_ 9 d e z (.clause a A):=by
 intro m
 constructor
 ·show (if St.is s _ (.live e)=true then run s (m+8) .expr d (St.step s (.live e)) else _)=_
  rw [ht.is,ht.step,(h m).1];rfl
 ·show (if St.is s _ (.live e)=true then Nd.clause (tokAt s e) (tr s (m+8) .expr d .nil (St.step s (.live e))) else _)=_
  rw [ht.is,ht.step,(h m).2,ht.a];rfl
theorem par_two {s:Bs} {d e e1 a e2 z:Nat} {A B:Nd} (h:Par s .expr 8 d e e1 A) (ht:Tok s e1 .key a [44] e2) (h' : Par s .expr 8 d e2 z B) (hz:St.is s [44] (.live z)=false):Par s .list 10 d e z (.cons A (.cons B .nil)):=by
 intro m
 have e9:run s (m+9) .listL d (.live e1) = .live z:=by
  show (if St.is s _ (.live e1)=true then run s (m+8) .listL d (run s (m+8) .expr d (St.step s (.live e1))) else _)=_
  rw [ht.is,ht.step,(h' m).1,if_pos (by decide)]
  show (if St.is s _ (.live z)=true then _ else St.live z)=_
  rw [hz];rfl
 have t9:tr s (m+9) .listL d .nil (.live e1) = .cons B .nil:=by
  show (if St.is s _ (.live e1)=true then Nd.cons (tr s (m+8) .expr d .nil (St.step s (.live e1))) (tr s (m+8) .listL d .nil (run s (m+8) .expr d (St.step s (.live e1)))) else _)=_
  rw [ht.is,ht.step,(h' m).1,(h' m).2,if_pos (by decide)]
  show Nd.cons B (if St.is s _ (.live z)=true then _ else Nd.nil)=_
  rw [hz];rfl
 constructor
 ·show run s (m+9) .listL d (run s (m+9) .expr d (.live e))=_
  rw [show m+9=(m+1)+8 from rfl,(h (m+1)).1];exact e9
 ·show Nd.cons (tr s (m+9) .expr d .nil (.live e)) (tr s (m+9) .listL d .nil (run s (m+9) .expr d (.live e)))=_
  rw [show m+9=(m+1)+8 from rfl,(h (m+1)).1,(h (m+1)).2];exact congrArg _ t9
theorem par_one {s:Bs} {d e z:Nat} {A:Nd} (h:Par s .expr 8 d e z A) (hz:St.is s [44] (.live z)=false):Par s .list 9 d e z (.cons A .nil):=by
 intro m
 constructor
 ·show run s (m+8) .listL d (run s (m+8) .expr d (.live e))=_
  rw [(h m).1]
  show (if St.is s _ (.live z)=true then _ else St.live z)=_
  rw [hz];rfl
 ·show Nd.cons (tr s (m+8) .expr d .nil (.live e)) (tr s (m+8) .listL d .nil (run s (m+8) .expr d (.live e)))=_
  rw [(h m).1,(h m).2]
  show Nd.cons A (if St.is s _ (.live z)=true then _ else Nd.nil)=_
  rw [hz];rfl
end Go.Proofs.YtgnncnhkgmhngaaGreatDoor.Sp
