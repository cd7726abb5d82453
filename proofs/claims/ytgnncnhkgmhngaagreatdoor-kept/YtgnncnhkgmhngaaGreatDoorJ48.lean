import Derived.Test.YtgnncnhkgmhngaaGreatDoorJ47
import Derived.Test.YtgnncnhkgmhngaaGreatDoorCards
import Derived.Test.YtgnncnhkgmhngaaGreatDoorTie
import Derived.ProofKit
import Derived.OpenShut
import Derived.Carry
import Derived.Deep.DeepHandedRow
import Derived.Deep.DeepWitnessRowRef
import Derived.Deep.Slices
import Derived.LaidMore
import Derived.LaidLaws
import Derived.Shelf.Vars
import Derived.Test.YtgnncnhkgmhngaaGreatDoorRows
import Derived.JoinedOf
set_option maxHeartbeats 4000000
set_option maxRecDepth 100000
namespace Go.Proofs.YtgnncnhkgmhngaaGreatDoor
open Go.RowKit Go.Sort
theorem bytes_app (a b:ByteArray):(a++b).data.toList=a.data.toList++b.data.toList:=by simp
theorem rtext_len (a b:Int):(rtext a b).length≤2000:=by
 have:=Sp.len_parse (ins_t a b).1
 rw [List.length_append] at this
 omega
theorem rtext_size {a b:Int} {s:ByteArray} (h:s.toList=rtext a b):s.size≤2000:=by
 have:=rtext_len a b
 rw [← h,ByteArray.toList_eq,size_data] at this
 exact this
def RawV (w:World) (v:Value) (l:List (Int×Int)):Prop:=(∃ a c,v = .slice a 0 c∧l = [])∨∃ b off c,v = .slice (some ⟨b,off,none⟩) l.length c∧Raw w b off l
theorem RawV.sl {w:World} {v:Value} {l:List (Int×Int)} (h:RawV w v l):∃ a c,v = .slice a l.length c:=by
 rcases h with ⟨a,c,rfl,rfl⟩ | ⟨b,off,c,rfl,_⟩
 ·exact ⟨a,c,rfl⟩
 ·exact ⟨_,c,rfl⟩
theorem lfilled {tv uv:Value} {lt lu:List (Int×Int)} {w:World} (hr:VRX w) (ht:RawV w tv lt) (hu:RawV w uv lu) (_hlt:lt.length≤9223372036854775807) (_hlu:lu.length≤9223372036854775807) :
  Calls Tryz.prog 16 #[tv,uv] w fun r w'=>∃ bb,r = .returned (.pointer (some ⟨bb,0,none⟩))∧Fil bb w (rvs (lt.take 20)) (rvs (lu.take 20)) w':=by
 obtain ⟨ta,tc,rfl⟩:=ht.sl
 obtain ⟨ua,uc,rfl⟩:=hu.sl
 have HR:=hid hr
 have HT:=hid ht
 have HU:=hid hu
 obtain ⟨n,hn⟩:∃ n,n=lt.length:=⟨_,rfl⟩
 obtain ⟨m,hm⟩:∃ m,m=lu.length:=⟨_,rfl⟩
 have HN:=hid hn
 have HM:=hid hm
 rw [← hn] at HT ⊢
 rw [← hm] at HU ⊢
 clear ht hu hr hn hm
 go_enter Tryz.func16,Tryz.ntmps16
 go_wp2_with fail
 refine (new_ok (w:=w)).mono ?_
 rintro x w1 ⟨bb,tv1,rfl,hB,hbb,b1⟩
 have HF1:Hid (FilT bb w [] w1):=⟨tv1,hB.blk,hB.tbs,hbb,b1⟩
 clear hB hbb b1
 go_wp2_with fail
 refine (does_create_t HR.out HF1.out ?_).mono ?_
 ·rfl
 rintro x w2 ⟨rfl,h2⟩
 have HF2:=hid h2
 clear h2 HF1
 go_wp2_with fail
 refine (does_create_u HR.out HF2.out ?_).mono ?_
 ·rfl
 rintro x w3 ⟨rfl,h3⟩
 have HF3:=hid h3
 clear h3 HF2
 go_wp2_with fail
 go_loopw [6,8] (fun v i wr=>∃ j:Nat,j≤n∧j≤20∧i = .int .i64 (j:Nat)∧v = .bool true∧Hid (Fil bb w (rvs (lt.take j)) [] wr)) (fun _ i _=>n - (intOf i).toNat)
 case atStart=>exact ⟨0,Nat.zero_le _,Nat.zero_le _,rfl,rfl,HF3⟩
 case round=>
  obtain ⟨j,hj,hj20,rfl,rfl,HF⟩:=hrel
  clear HF3
  by_cases hgo:j<n∧j<20
  ·obtain ⟨hlt1,hlt2⟩:=hgo
   obtain ⟨b,off,rfl,hR⟩:∃ b off,ta=some ⟨b,off,none⟩∧Raw w b off lt:=by
    rcases HT.out with ⟨_,_,e,e'⟩ | ⟨b,off,c,e,h⟩
    ·have:=HN.out;rw [e'] at this;simp at this;omega
    ·injection e with e;exact ⟨b,off,e,h⟩
   have hkz:j<lt.length:=by have:=HN.out;omega
   obtain ⟨c0,c1⟩:=hR.at_ j hkz
   obtain ⟨T',hTU,tvx,_,_,_,hbel⟩:=id HF.out
   have d0:=(hbel.cell (p:=⟨b,_,none⟩) hR.lb).trans c0
   have d1:=(hbel.cell (p:=⟨b,_,none⟩) hR.lb).trans c1
   have HTk:Hid (rvs (lt.take (j+1))=rvs (lt.take j) ++ [rvals lt[j].1 lt[j].2]):=by
    show _=_
    rw [List.take_succ_eq_append_getElem hkz];unfold rvs;rw [List.map_append];rfl
   have HX:=hid (fun w=>ltext_any lt[j].1 lt[j].2 w (hR.rng j hkz).1.1 (hR.rng j hkz).1.2 (hR.rng j hkz).2.1 (hR.rng j hkz).2.2)
   generalize lt[j].1=xa at d0 HTk HX
   generalize lt[j].2=xb at d1 HTk HX
   clear c0 c1 hbel hTU hR
   go_wp2_with fail
   refine (HX.out _).mono ?_
   rintro e w4 ⟨sx,rfl,hsx,g4⟩
   have HF4:=hid (HF.out.bel g4.below)
   have HSx:=hid hsx
   have hsz:=rtext_size hsx
   clear hsx g4 d0 d1 HX
   go_wp2_with fail
   have hsx2:((⟨#[105,110,115,101,114,116,32,105,110,116,111,32,116,32,118,97,108,117,101,115,32]⟩:ByteArray)++sx).data.toList = [105,110,115,101,114,116,32,105,110,116,111,32,116,32,118,97,108,117,101,115,32]++rtext xa xb:=by
    rw [bytes_app,show sx.data.toList=rtext xa xb by rw [← HSx.out,ByteArray.toList_eq]]
   refine (does_ins_t HR.out HF4.out hsx2 (by simp [rvs];omega)).mono ?_
   rintro x w5 ⟨rfl,h5⟩
   rw [← HTk.out] at h5
   have HF5:=hid h5
   clear h5 HF4 HSx
   go_wp2_with fail
   go_roundw
   case rel=>exact ⟨j+1,by omega,by omega,by go_num,rfl,HF5⟩
   case measure=>simp [intOf];omega
  ·have hfin:Hid (Fil bb w (rvs (lt.take 20)) [] wr):=by
    have e1:lt.take 20=lt.take j:=by
     by_cases h:j<n
     ·rw [show j=20 by omega]
     ·rw [List.take_of_length_le (by have:=HN.out;omega),List.take_of_length_le (by have:=HN.out;omega)]
    show Fil _ _ _ _ _
    rw [e1];exact HF.out
   have hcase:¬ j<n∨(j<n∧¬ j<20):=by omega
   clear HF hgo
   rcases hcase with hge | ⟨hlt1,hlt2⟩
   all_goals
    go_wp2_with fail
    go_loopw [6,10] (fun v i wr=>∃ j:Nat,j≤m∧j≤20∧i = .int .i64 (j:Nat)∧v = .bool true∧Hid (Fil bb w (rvs (lt.take 20)) (rvs (lu.take j)) wr)) (fun _ i _=>m - (intOf i).toNat)
    case atStart=>exact ⟨0,Nat.zero_le _,Nat.zero_le _,rfl,rfl,hfin⟩
    case round=>
     obtain ⟨k,hk,hk20,rfl,rfl,HF⟩:=hrel
     clear hfin
     by_cases hgo:k<m∧k<20
     ·obtain ⟨hlt3,hlt4⟩:=hgo
      obtain ⟨b,off,rfl,hR⟩:∃ b off,ua=some ⟨b,off,none⟩∧Raw w b off lu:=by
       rcases HU.out with ⟨_,_,e,e'⟩ | ⟨b,off,c,e,h⟩
       ·have:=HM.out;rw [e'] at this;simp at this;omega
       ·injection e with e;exact ⟨b,off,e,h⟩
      have hkz:k<lu.length:=by have:=HM.out;omega
      obtain ⟨c0,c1⟩:=hR.at_ k hkz
      obtain ⟨T',hTU,tvx,_,_,_,hbel⟩:=id HF.out
      have d0:=(hbel.cell (p:=⟨b,_,none⟩) hR.lb).trans c0
      have d1:=(hbel.cell (p:=⟨b,_,none⟩) hR.lb).trans c1
      have HTk:Hid (rvs (lu.take (k+1))=rvs (lu.take k) ++ [rvals lu[k].1 lu[k].2]):=by
       show _=_
       rw [List.take_succ_eq_append_getElem hkz];unfold rvs;rw [List.map_append];rfl
      have HX:=hid (fun w=>ltext_any lu[k].1 lu[k].2 w (hR.rng k hkz).1.1 (hR.rng k hkz).1.2 (hR.rng k hkz).2.1 (hR.rng k hkz).2.2)
      generalize lu[k].1=xa at d0 HTk HX
      generalize lu[k].2=xb at d1 HTk HX
      clear c0 c1 hbel hTU hR
      go_wp2_with fail
      refine (HX.out _).mono ?_
      rintro e w4 ⟨sx,rfl,hsx,g4⟩
      have HF4:=hid (HF.out.bel g4.below)
      have HSx:=hid hsx
      have hsz:=rtext_size hsx
      clear hsx g4 d0 d1 HX
      go_wp2_with fail
      have hsx2:((⟨#[105,110,115,101,114,116,32,105,110,116,111,32,117,32,118,97,108,117,101,115,32]⟩:ByteArray)++sx).data.toList = [105,110,115,101,114,116,32,105,110,116,111,32,117,32,118,97,108,117,101,115,32]++rtext xa xb:=by
       rw [bytes_app,show sx.data.toList=rtext xa xb by rw [← HSx.out,ByteArray.toList_eq]]
      refine (does_ins_u HR.out HF4.out hsx2 (by simp [rvs];omega)).mono ?_
      rintro x w5 ⟨rfl,h5⟩
      rw [← HTk.out] at h5
      have HF5:=hid h5
      clear h5 HF4 HSx
      go_wp2_with fail
      go_roundw
      case rel=>exact ⟨k+1,by omega,by omega,by go_num,rfl,HF5⟩
      case measure=>simp [intOf];omega
     ·have hfin2:Hid (Fil bb w (rvs (lt.take 20)) (rvs (lu.take 20)) wr):=by
       have e1:lu.take 20=lu.take k:=by
        by_cases h:k<m
        ·rw [show k=20 by omega]
        ·rw [List.take_of_length_le (by have:=HM.out;omega),List.take_of_length_le (by have:=HM.out;omega)]
       show Fil _ _ _ _ _
       rw [e1];exact HF.out
      have hcase:¬ k<m∨(k<m∧¬ k<20):=by omega
      clear HF hgo
      rcases hcase with hge' | ⟨hlt3,hlt4⟩
      all_goals
       go_wp2_with fail
       exact bodyPost_ret (v := .pointer (some ⟨bb,0,none⟩)) (by simp [results,Tryz.results16,go_sem]) rfl ⟨bb,rfl,hfin2.out⟩
theorem dbl_dq:∀ l:List UInt8,dbl l=Sp.dq l
 | []=>rfl
 | c::l=>by rw [dbl,Sp.dq,dbl_dq l]
theorem cnt_perm {l m:List (List Sv.Val)} (h:l.Perm m) (r:List Sv.Val):cnt l r=cnt m r:=by
 unfold cnt
 exact (h.filter _).length_eq
theorem bag_sort {R:List (List Sv.Val)} {k:Nat} (hR:∀ r∈R,r.length=k):Bag (sortR R) R:=by
 have hp:=sortR_perm R
 have hs:=sortR_sorted R
 have hl:∀ r∈sortR R,r.length=k:=fun r hr=>hR r (hp.mem_iff.1 hr)
 refine ⟨hp.length_eq,fun i _=>cnt_perm hp _,fun i hi=>?_⟩
 have h1:=List.pairwise_iff_getElem.1 hs i (i+1) (by omega) hi (by omega)
 have h2:=befR_cmp (sortR R)[i+1] (sortR R)[i] (by rw [hl _ (List.getElem_mem _),hl _ (List.getElem_mem _)])
 have h3:=cmpR_anti (sortR R)[i] (sortR R)[i+1]
 cases hb:befR (sortR R)[i+1] (sortR R)[i] with
 | false=>rfl
 | true=>have:=h2.1 hb;omega
theorem RsO.lv {base k:Nat} {w:World} {v:Value} {rows:List (List Sv.Val)} (h:RsO base k w v rows) (hk:1≤k):Lv w v rows:=by
 rcases h with ⟨rfl,rfl⟩ | ⟨blk,c,rfl,h1,h2,h3⟩
 ·exact .inl ⟨rfl,rfl⟩
 ·refine .inr ⟨blk,0,c,rfl,h2,fun i hi=>?_⟩
  obtain ⟨u,p1,p2,p3,p4⟩:=h3 i hi
  refine ⟨u,p1,?_⟩
  rcases p3 with ⟨_,e⟩ | ⟨b,o,c,e,_,hv⟩
  ·rw [e] at p4;simp at p4;omega
  ·exact ⟨b,o,c,e,hv⟩
theorem asks_all_t {bb:Nat} {R S:List Sp.Row} {s:ByteArray} {w0 w:World} (hr:VRX w0) (h:Fil bb w0 R S w) (hs:s.data.toList = [115,101,108,101,99,116,32,42,32,102,114,111,109,32,116]) (hR:∀ r∈R,r.length=2) (hS:∀ r∈S,r.length=2) (hl:R.length≤1000) :
  Calls Tryz.prog 17 #[.pointer (some ⟨bb,0,none⟩), .string s, .int .i64 2] w fun r w'=>∃ rv,r = .returned (.tuple #[rv, .bool true])∧RsO w.heap.size 2 w' rv (sortR R)∧Fil bb w0 R S w'∧Kept bb w w':=by
 obtain ⟨T,hT,h⟩:=h
 refine (asks_ok (wd:=2) (rows:=sortR R) hr h (by rw [hs];exact Sp.p_sel_t) (by rw [hs];exact Sp.t_sel_t) (fun z=>by simp) (ok_all _) (Sp.c_sel_t hT hl) (by have:=(sortR_perm R).length_eq;omega) (by omega) (by omega) (runs_all hT.ft rfl rfl (hT.ok hR hS) hT.cols hl)).mono ?_
 rintro r w' ⟨rv,rfl,h1,h2,h3⟩
 exact ⟨rv,rfl,h1,⟨T,hT,h2⟩,h3⟩
theorem asks_all_u {bb:Nat} {R S:List Sp.Row} {s:ByteArray} {w0 w:World} (hr:VRX w0) (h:Fil bb w0 R S w) (hs:s.data.toList = [115,101,108,101,99,116,32,42,32,102,114,111,109,32,117]) (hR:∀ r∈R,r.length=2) (hS:∀ r∈S,r.length=2) (hl:S.length≤1000) :
  Calls Tryz.prog 17 #[.pointer (some ⟨bb,0,none⟩), .string s, .int .i64 2] w fun r w'=>∃ rv,r = .returned (.tuple #[rv, .bool true])∧RsO w.heap.size 2 w' rv (sortR S)∧Fil bb w0 R S w'∧Kept bb w w':=by
 obtain ⟨T,hT,h⟩:=h
 refine (asks_ok (wd:=2) (rows:=sortR S) hr h (by rw [hs];exact Sp.p_sel_u) (by rw [hs];exact Sp.t_sel_u) (fun z=>by simp) (ok_all _) (Sp.c_sel_u hT hl) (by have:=(sortR_perm S).length_eq;omega) (by omega) (by omega) (runs_all hT.fu rfl rfl (hT.ok hR hS) hT.cols hl)).mono ?_
 rintro r w' ⟨rv,rfl,h1,h2,h3⟩
 exact ⟨rv,rfl,h1,⟨T,hT,h2⟩,h3⟩
theorem bz_self (x:ByteArray):(⟨x.data.toList.toArray⟩:ByteArray)=x:=by cases x;simp
theorem does_ins_q {bb:Nat} {R:List Sp.Row} {x s:ByteArray} {w0 w:World} (hr:VRX w0) (h:Fil bb w0 R [] w) (hs:s.data.toList = [105,110,115,101,114,116,32,105,110,116,111,32,117,32,118,97,108,117,101,115,32,40,55,44,32]++(Sp.qu x.data.toList ++ [41])) (hx:(Sp.qu x.data.toList).length≤1900) :
  Calls Tryz.prog 21 #[.pointer (some ⟨bb,0,none⟩), .string s, .int .i64 1] w fun r w'=>r = .returned (.bool true)∧Fil bb w0 R [[Sv.int 7,Sv.text x]] w'∧Kept bb w w':=by
 obtain ⟨T,hT,h⟩:=h
 have hi:=Sp.ins_q x.data.toList hx
 rw [← hs,bz_self] at hi
 refine (does_ok hr h hi.1 hi.2 (fun z=>by simp [Sp.ins]) (ok_ins _ _ _) (Sp.c_ins_u hT ⟨.inl ⟨_,rfl⟩, .inl ⟨_,rfl⟩⟩) (runs_ins_u hT _ _ (by simp))).mono ?_
 rintro r w' ⟨rfl,h',h3⟩
 exact ⟨rfl,⟨_,hT.wu _,h'⟩,h3⟩
theorem does_del_q {bb:Nat} {R:List Sp.Row} {va:Sv.Val} {x s:ByteArray} {w0 w:World} (hr:VRX w0) (h:Fil bb w0 R [[va,Sv.text x]] w) (hs:s.data.toList = [100,101,108,101,116,101,32,102,114,111,109,32,117,32,119,104,101,114,101,32,98,32,61,32]++Sp.qu x.data.toList) (hx:(Sp.qu x.data.toList).length≤1900) :
  Calls Tryz.prog 21 #[.pointer (some ⟨bb,0,none⟩), .string s, .int .i64 1] w fun r w'=>r = .returned (.bool true)∧Fil bb w0 R [] w'∧Kept bb w w':=by
 obtain ⟨T,hT,h⟩:=h
 have hi:=Sp.del_q x.data.toList hx
 rw [← hs,bz_self] at hi
 refine (does_ok hr h hi.1 hi.2 (fun z=>by simp) (by simp [Sp.okS,Sp.wf,Sp.Nd.len,Sp.Nd.dep];decide) (Sp.c_del_q hT x) (runs_del_q hT)).mono ?_
 rintro r w' ⟨rfl,h',h3⟩
 exact ⟨rfl,⟨_,hT.wu _,h'⟩,h3⟩
theorem asks_sel_q {bb:Nat} {R:List Sp.Row} {va:Sv.Val} {x s:ByteArray} {w0 w:World} (hr:VRX w0) (h:Fil bb w0 R [[va,Sv.text x]] w) (hs:s.data.toList = [115,101,108,101,99,116,32,98,32,102,114,111,109,32,117,32,119,104,101,114,101,32,98,32,61,32]++Sp.qu x.data.toList) (hx:(Sp.qu x.data.toList).length≤1900) (hR:∀ r∈R,r.length=2) :
  Calls Tryz.prog 17 #[.pointer (some ⟨bb,0,none⟩), .string s, .int .i64 1] w fun r w'=>∃ rv,r = .returned (.tuple #[rv, .bool true])∧RsO w.heap.size 1 w' rv [[Sv.text x]]∧Fil bb w0 R [[va,Sv.text x]] w'∧Kept bb w w':=by
 obtain ⟨T,hT,h⟩:=h
 have hi:=Sp.sel_q x.data.toList hx
 rw [← hs,bz_self] at hi
 refine (asks_ok (wd:=1) hr h hi.1 hi.2 (fun z=>by simp) (by simp [Sp.okS,Sp.selB,Sp.beq,Sp.wf,Sp.Nd.len,Sp.Nd.dep];decide) (Sp.c_sel_q hT (by simp) x) (by simp) (by omega) (by omega) (runs_sel_q hT hR)).mono ?_
 rintro r w' ⟨rv,rfl,h1,h2,h3⟩
 exact ⟨rv,rfl,h1,⟨T,hT,h2⟩,h3⟩
theorem rvs_len {l:List (Int×Int)} : ∀ r∈rvs l,r.length=2:=by
 intro r hr
 obtain ⟨x,_,rfl⟩:=List.mem_map.1 hr
 rfl
theorem RawV.bel {w w' : World} {v:Value} {l:List (Int×Int)} (h:RawV w v l) (g:RowKit.Below w.heap.size w w'):RawV w' v l:=by
 rcases h with h | ⟨b,off,c,e,h⟩
 ·exact .inl h
 ·exact .inr ⟨b,off,c,e,⟨Nat.lt_of_lt_of_le h.lb g.size,fun i hi=>⟨(g.cell (p:=⟨b,_,none⟩) h.lb).trans (h.at_ i hi).1,(g.cell (p:=⟨b,_,none⟩) h.lb).trans (h.at_ i hi).2⟩,h.rng⟩⟩
theorem Fil.below {bb:Nat} {w0 w:World} {R S:List Sp.Row} (h:Fil bb w0 R S w):RowKit.Below w0.heap.size w0 w:=by
 obtain ⟨T,_,tv,_,_,_,h⟩:=h
 exact h
theorem Lv.sl {w:World} {v:Value} {rs:List (List Sv.Val)} (h:Lv w v rs):∃ a c,v = .slice a rs.length c:=by
 rcases h with ⟨rfl,rfl⟩ | ⟨b,off,c,rfl,_⟩
 ·exact ⟨none,0,rfl⟩
 ·exact ⟨_,c,rfl⟩
theorem dq_len:∀ l:List UInt8,(Sp.dq l).length≤2*l.length
 | []=>by simp [Sp.dq]
 | c::l=>by
  have:=dq_len l
  rw [Sp.dq]
  split <;> simp <;> omega
theorem qu_len (l:List UInt8):(Sp.qu l).length≤2*l.length+2:=by
 have:=dq_len l
 simp [Sp.qu]
 omega
theorem lrows_v {l:List (Int×Int)} {v:Value} {w:World} (h:RawV w v l) (hl:l.length≤9223372036854775807) :
  Calls Tryz.prog 19 #[v] w fun e w'=>∃ v,e = .returned v∧Lv w' v (rvs (l.take 20))∧Gr w w':=by
 rcases h with ⟨a,c,rfl,rfl⟩ | ⟨b,off,c,rfl,h⟩
 ·exact lrows_nil a c w
 ·exact lrows_any l b off c w hl h
theorem lkept {ta:Option Addr} {n tc:Nat} {lt:List (Int×Int)} {x:ByteArray} {w:World} (hr:VRX w) (ht:RawV w (.slice ta n tc) lt) (hn:n=lt.length) (hlt:n≤9223372036854775807) :
  Calls Tryz.prog 5 #[.slice ta n tc, .string x] w fun r w'=>r = .returned (.bool true)∧RowKit.Below w.heap.size w w':=by
 have HR:=hid hr
 have HT:=hid ht
 have HN:=hid hn
 have HF0:=hid (lfilled hr ht (.inl ⟨none,0,rfl,rfl⟩) (by omega) (by simp))
 clear hr ht hn
 go_enter Tryz.func5,Tryz.ntmps5
 go_wp2_with fail
 refine HF0.out.mono ?_
 rintro e w1 ⟨bb,rfl,h1⟩
 have HF1:Hid (Fil bb w (rvs (lt.take 20)) [] w1):=hid h1
 clear h1 HF0
 have hxs:(x.extract 0 900).size≤900:=by rw [ByteArray.size_extract];omega
 by_cases hx:900<x.size
 rotate_left
 ·have hxs:x.size≤900:=by omega
  clear hx
  go_wp2_with fail
  refine (asks_all_t HR.out HF1.out rfl rvs_len (by simp) (by simp [rvs];omega)).mono ?_
  rintro e w2 ⟨rv,rfl,hro,h2,_⟩
  have HL2:=hid (hro.lv (by omega))
  have HF2:=hid h2
  obtain ⟨la,lc,rfl⟩:=hro.sl
  have HRo:=hid (lrows_v (HT.out.bel h2.below) (by have:=HN.out;omega))
  clear hro h2 HF1
  go_wp2_with fail
  refine HRo.out.mono ?_
  rintro e w3 ⟨rv3,rfl,hl3,g3⟩
  have HL3:=hid (HL2.out.gr g3)
  have HF3:=hid (HF2.out.bel g3.below)
  obtain ⟨ra,rc,rfl⟩:=hl3.sl
  have HBg:=hid (lbag_all _ _ _ _ w3 (by have:=(sortR_perm (rvs (lt.take 20))).length_eq;simp [rvs] at this ⊢;omega) (fun r hr=>by rw [rvs_len r ((sortR_perm _).mem_iff.1 hr)];omega) (fun r hr=>by rw [rvs_len r hr];omega) HL3.out hl3 (bag_sort rvs_len))
  clear g3 hl3 HRo HL2 HF2
  go_wp2_with fail
  refine HBg.out.mono ?_
  rintro e w4 ⟨rfl,g4⟩
  have HF4:=hid (HF3.out.bel g4.below)
  clear g4 HBg HL3 HF3
  go_wp2_with fail
  refine (quoted_any x w4 (by omega)).mono ?_
  rintro e w5 ⟨⟨q,rfl,hq⟩,rfl⟩
  have hqd:q.data.toList=Sp.qu x.data.toList:=by
   rw [← ByteArray.toList_eq,hq,dbl_dq,ByteArray.toList_eq];rfl
  have hqs:q.size≤1802:=by
   have:=qu_len x.data.toList
   rw [← hqd,size_data,size_data] at this
   omega
  have HQ:=hid hqd
  clear hq hqd
  go_wp2_with fail
  have hx19:(Sp.qu x.data.toList).length≤1900:=by rw [← HQ.out,size_data];omega
  have hs1:((⟨#[105,110,115,101,114,116,32,105,110,116,111,32,117,32,118,97,108,117,101,115,32,40,55,44,32]⟩:ByteArray)++q++(⟨#[41]⟩:ByteArray)).data.toList = [105,110,115,101,114,116,32,105,110,116,111,32,117,32,118,97,108,117,101,115,32,40,55,44,32]++(Sp.qu x.data.toList ++ [41]):=by
   rw [bytes_app,bytes_app,HQ.out,List.append_assoc]
  have hs2:((⟨#[115,101,108,101,99,116,32,98,32,102,114,111,109,32,117,32,119,104,101,114,101,32,98,32,61,32]⟩:ByteArray)++q).data.toList = [115,101,108,101,99,116,32,98,32,102,114,111,109,32,117,32,119,104,101,114,101,32,98,32,61,32]++Sp.qu x.data.toList:=by rw [bytes_app,HQ.out]
  have hs3:((⟨#[100,101,108,101,116,101,32,102,114,111,109,32,117,32,119,104,101,114,101,32,98,32,61,32]⟩:ByteArray)++q).data.toList = [100,101,108,101,116,101,32,102,114,111,109,32,117,32,119,104,101,114,101,32,98,32,61,32]++Sp.qu x.data.toList:=by rw [bytes_app,HQ.out]
  have HS1:=hid hs1
  have HS2:=hid hs2
  have HS3:=hid hs3
  have HX:=hid hx19
  clear hs1 hs2 hs3 hx19
  refine (does_ins_q HR.out HF4.out HS1.out HX.out).mono ?_
  rintro e w6 ⟨rfl,h6,_⟩
  have HF6:=hid h6
  clear h6 HF4 HS1
  go_wp2_with fail
  refine (asks_sel_q HR.out HF6.out HS2.out HX.out rvs_len).mono ?_
  rintro e w7 ⟨rv7,rfl,hr7,h7,_⟩
  have hb7:=HF6.out.lt
  have HM7:=hid hr7
  have HF7:=hid h7
  obtain ⟨ma,mc,rfl⟩:=hr7.sl
  simp only [List.length_cons,List.length_nil,Nat.zero_add] at HM7 ⊢
  clear hr7 h7 HS2
  go_wp2_with fail
  refine (does_del_q HR.out HF7.out HS3.out HX.out).mono ?_
  rintro e w8 ⟨rfl,h8,k8⟩
  have HF8:=hid h8
  have HM8:=hid (HM7.out.kept HF7.out hb7 k8)
  clear h8 k8 HF7 HM7 HS3
  go_wp2_with fail
  refine (asks_all_u HR.out HF8.out rfl rvs_len (by simp) (by simp)).mono ?_
  rintro e w9 ⟨rv9,rfl,hr9,h9,k9⟩
  have HF9:=hid h9
  have HM9:=hid (HM8.out.kept HF8.out hb7 k9)
  obtain ⟨na,nc,rfl⟩:=hr9.sl
  have hl0:(sortR ([]:List (List Sv.Val))).length=0:=by have:=(sortR_perm []).length_eq;simpa using this
  rw [hl0]
  clear hr9 h9 k9 HF8 HM8 hl0
  obtain ⟨mb,b,o,cu,rfl,q0,q1,q2,q3⟩:∃ mb b o cu,ma=some ⟨mb,0,none⟩∧w9.cell? ⟨mb,0,none⟩=some (.slice (some ⟨b,o,none⟩) 1 cu)∧w9.cell? ⟨b,o,none⟩=some (.int .i64 3)∧w9.cell? ⟨b,o+1,none⟩=some (.int .i64 0)∧w9.cell? ⟨b,o+2,none⟩=some (.string x):=by
   rcases HM9.out with ⟨e,_⟩ | ⟨mb,c',e,l1,l2,hr⟩
   ·cases e
   ·obtain ⟨u,p1,p2,p3,p4⟩:=hr 0 (by simp)
    injection e with e _ _
    rcases p3 with ⟨_,p3⟩ | ⟨b,o,cu,rfl,_,hv⟩
    ·cases p3
    ·refine ⟨mb,b,o,cu,e,p1,?_,?_,?_⟩
     ·have:=hv.k 0 (by simp);simpa [Sv.text] using this
     ·have:=hv.n 0 (by simp);simpa [Sv.text] using this
     ·have:=hv.s 0 (by simp);simpa [Sv.text] using this
  go_wp2_with fail
  exact bodyPost_ret (v := .bool true) (by simp [results,Tryz.results5,go_sem]) rfl ⟨rfl,HF9.out.below⟩
 ·go_wp2_with fail
  generalize x.extract 0 900=y at hxs ⊢
  refine (asks_all_t HR.out HF1.out rfl rvs_len (by simp) (by simp [rvs];omega)).mono ?_
  rintro e w2 ⟨rv,rfl,hro,h2,_⟩
  have HL2:=hid (hro.lv (by omega))
  have HF2:=hid h2
  obtain ⟨la,lc,rfl⟩:=hro.sl
  have HRo:=hid (lrows_v (HT.out.bel h2.below) (by have:=HN.out;omega))
  clear hro h2 HF1
  go_wp2_with fail
  refine HRo.out.mono ?_
  rintro e w3 ⟨rv3,rfl,hl3,g3⟩
  have HL3:=hid (HL2.out.gr g3)
  have HF3:=hid (HF2.out.bel g3.below)
  obtain ⟨ra,rc,rfl⟩:=hl3.sl
  have HBg:=hid (lbag_all _ _ _ _ w3 (by have:=(sortR_perm (rvs (lt.take 20))).length_eq;simp [rvs] at this ⊢;omega) (fun r hr=>by rw [rvs_len r ((sortR_perm _).mem_iff.1 hr)];omega) (fun r hr=>by rw [rvs_len r hr];omega) HL3.out hl3 (bag_sort rvs_len))
  clear g3 hl3 HRo HL2 HF2
  go_wp2_with fail
  refine HBg.out.mono ?_
  rintro e w4 ⟨rfl,g4⟩
  have HF4:=hid (HF3.out.bel g4.below)
  clear g4 HBg HL3 HF3
  go_wp2_with fail
  refine (quoted_any y w4 (by omega)).mono ?_
  rintro e w5 ⟨⟨q,rfl,hq⟩,rfl⟩
  have hqd:q.data.toList=Sp.qu y.data.toList:=by
   rw [← ByteArray.toList_eq,hq,dbl_dq,ByteArray.toList_eq];rfl
  have hqs:q.size≤1802:=by
   have:=qu_len y.data.toList
   rw [← hqd,size_data,size_data] at this
   omega
  have HQ:=hid hqd
  clear hq hqd
  go_wp2_with fail
  have hx19:(Sp.qu y.data.toList).length≤1900:=by rw [← HQ.out,size_data];omega
  have hs1:((⟨#[105,110,115,101,114,116,32,105,110,116,111,32,117,32,118,97,108,117,101,115,32,40,55,44,32]⟩:ByteArray)++q++(⟨#[41]⟩:ByteArray)).data.toList = [105,110,115,101,114,116,32,105,110,116,111,32,117,32,118,97,108,117,101,115,32,40,55,44,32]++(Sp.qu y.data.toList ++ [41]):=by
   rw [bytes_app,bytes_app,HQ.out,List.append_assoc]
  have hs2:((⟨#[115,101,108,101,99,116,32,98,32,102,114,111,109,32,117,32,119,104,101,114,101,32,98,32,61,32]⟩:ByteArray)++q).data.toList = [115,101,108,101,99,116,32,98,32,102,114,111,109,32,117,32,119,104,101,114,101,32,98,32,61,32]++Sp.qu y.data.toList:=by rw [bytes_app,HQ.out]
  have hs3:((⟨#[100,101,108,101,116,101,32,102,114,111,109,32,117,32,119,104,101,114,101,32,98,32,61,32]⟩:ByteArray)++q).data.toList = [100,101,108,101,116,101,32,102,114,111,109,32,117,32,119,104,101,114,101,32,98,32,61,32]++Sp.qu y.data.toList:=by rw [bytes_app,HQ.out]
  have HS1:=hid hs1
  have HS2:=hid hs2
  have HS3:=hid hs3
  have HX:=hid hx19
  clear hs1 hs2 hs3 hx19
  refine (does_ins_q HR.out HF4.out HS1.out HX.out).mono ?_
  rintro e w6 ⟨rfl,h6,_⟩
  have HF6:=hid h6
  clear h6 HF4 HS1
  go_wp2_with fail
  refine (asks_sel_q HR.out HF6.out HS2.out HX.out rvs_len).mono ?_
  rintro e w7 ⟨rv7,rfl,hr7,h7,_⟩
  have hb7:=HF6.out.lt
  have HM7:=hid hr7
  have HF7:=hid h7
  obtain ⟨ma,mc,rfl⟩:=hr7.sl
  simp only [List.length_cons,List.length_nil,Nat.zero_add] at HM7 ⊢
  clear hr7 h7 HS2
  go_wp2_with fail
  refine (does_del_q HR.out HF7.out HS3.out HX.out).mono ?_
  rintro e w8 ⟨rfl,h8,k8⟩
  have HF8:=hid h8
  have HM8:=hid (HM7.out.kept HF7.out hb7 k8)
  clear h8 k8 HF7 HM7 HS3
  go_wp2_with fail
  refine (asks_all_u HR.out HF8.out rfl rvs_len (by simp) (by simp)).mono ?_
  rintro e w9 ⟨rv9,rfl,hr9,h9,k9⟩
  have HF9:=hid h9
  have HM9:=hid (HM8.out.kept HF8.out hb7 k9)
  obtain ⟨na,nc,rfl⟩:=hr9.sl
  have hl0:(sortR ([]:List (List Sv.Val))).length=0:=by have:=(sortR_perm []).length_eq;simpa using this
  rw [hl0]
  clear hr9 h9 k9 HF8 HM8 hl0
  obtain ⟨mb,b,o,cu,rfl,q0,q1,q2,q3⟩:∃ mb b o cu,ma=some ⟨mb,0,none⟩∧w9.cell? ⟨mb,0,none⟩=some (.slice (some ⟨b,o,none⟩) 1 cu)∧w9.cell? ⟨b,o,none⟩=some (.int .i64 3)∧w9.cell? ⟨b,o+1,none⟩=some (.int .i64 0)∧w9.cell? ⟨b,o+2,none⟩=some (.string y):=by
   rcases HM9.out with ⟨e,_⟩ | ⟨mb,c',e,l1,l2,hr⟩
   ·cases e
   ·obtain ⟨u,p1,p2,p3,p4⟩:=hr 0 (by simp)
    injection e with e _ _
    rcases p3 with ⟨_,p3⟩ | ⟨b,o,cu,rfl,_,hv⟩
    ·cases p3
    ·refine ⟨mb,b,o,cu,e,p1,?_,?_,?_⟩
     ·have:=hv.k 0 (by simp);simpa [Sv.text] using this
     ·have:=hv.n 0 (by simp);simpa [Sv.text] using this
     ·have:=hv.s 0 (by simp);simpa [Sv.text] using this
  go_wp2_with fail
  exact bodyPost_ret (v := .bool true) (by simp [results,Tryz.results5,go_sem]) rfl ⟨rfl,HF9.out.below⟩
open Go.ChangeShapes Go.WideShapes Go.ChangeAt Go.RowKit
theorem Tryz.own:ownKnob Tryz.prog.godebug=none:=by kernel_rfl
theorem Tryz.gRange : Tryz.prog.globalNamed "strconv.ErrRange" = some 1 := by kernel_rfl
theorem Tryz.tRange:(Tryz.prog.globals[1]?).map (·.type)=some 304:=by kernel_rfl
theorem Tryz.laidOut:laidOutB Tryz.prog=true:=by kernel_rfl
theorem Tryz.cellsRow:Tryz.prog.cellsOf 63=2:=by kernel_rfl
theorem vr_of_laid {W:World} (h:laidMetH Tryz.prog Rows.keptRow.laid W):VR W:=by
 rw [MakeChecks.laidMetH_plain _ _ _ (by kernel_rfl)] at h
 obtain ⟨ps,⟨g0,t0,cs0,f0,p0,q0,_,_,_,_,⟨g1,t1,cs1,f1,p1,q1,_,_,_,_,⟨g2,t2,cs2,f2,p2,q2,_,_,_,_,⟨gx,tx,csx,fx,px,qx,_,_,_,_,⟨g3,t3,cs3,f3,p3,q3,hg3,ht3,hv3,hd3,_,_⟩,_⟩,_⟩,_⟩,_⟩,_,_⟩:=h
 obtain rfl:=Option.some.inj (Tryz.gRange.symm.trans hg3)
 obtain rfl:=Option.some.inj (Tryz.tRange.symm.trans ht3)
 obtain ⟨_,u,v,hcs,_,_⟩:=iface_of_trod Tryz.underlying304 hd3
 have hc:=World.var?_cell hg3 hv3 0
 rw [Array.eq_one_of_toList hcs] at hc
 have hc' : W.cell? ⟨1,0,none⟩=some (.iface u v):=hc
 exact ⟨u,v,hc',cell_lt hc'⟩
theorem vm_of_shape {W:World} (h:W.ShapedOpen Tryz.prog):VM W:=by
 obtain ⟨m,hm⟩:=cell_of_shapedOpen_int (P:=Tryz.prog) (g:=5) (t:=3) (zero:=#[.int .i64 0]) (k := .i64) h (of_decide_eq_true (by kernel_rfl)) (by kernel_rfl) rfl (by kernel_rfl) (by kernel_rfl) Tryz.underlying3
 exact ⟨m,hm,cell_lt hm⟩
theorem rowFields:∃ f0 f1:Field,Tryz.prog.underlying 63=some (.struct #[f0,f1])∧(f0.type=3∧f0.offset=0)∧(f1.type=3∧f1.offset=1):=
 ⟨_,_,Tryz.underlying63,⟨rfl,rfl⟩,⟨rfl,rfl⟩⟩
theorem Tryz.cellsInt:Tryz.prog.cellsOf 3=1:=by kernel_rfl
theorem int_rng {n:Int} (h:(Lit.int .i64 n).wf=true):-9223372036854775808≤n∧n≤9223372036854775807:=by
 simpa [Lit.wf,IntKind.min,IntKind.max,IntKind.bits,IntKind.signed] using h
theorem raw_of {H:Type} {enc:TypeId×Value→H} {W:World} {fuel:Nat} {o:Option Addr} {n cap:Nat} {x:DataW H×List MemPlace} (h:DataW.trod enc Tryz.prog W 0 (fun _=>true) true fuel 29 [.slice o n cap]=some x):∃ l,n=l.length∧RawV W (.slice o n cap) l∧n≤maxLen:=by
 rcases Deep.open_slice Tryz.underlying29 h with ⟨hcs,_⟩ | ⟨a,len,cap',m,fu,D,Pl,hcs,_,hl,hm,hmm,_,hel⟩
 ·simp only [List.cons.injEq,Value.slice.injEq,and_true] at hcs
  obtain ⟨rfl,rfl,rfl⟩:=hcs
  exact ⟨[],rfl, .inl ⟨_,_,rfl,rfl⟩,Nat.zero_le _⟩
 ·simp only [List.cons.injEq,Value.slice.injEq,and_true] at hcs
  obtain ⟨rfl,rfl,rfl⟩:=hcs
  have hlm:n≤m:=by rw [hmm,if_pos rfl];exact hl
  obtain ⟨f0,f1,hst,⟨t0,o0⟩,⟨t1,o1⟩⟩:=rowFields
  have each:∀ i,i<n→∃ kq:Int×Int,W.cell? (a.add (i*2))=some (.int .i64 kq.1)∧W.cell? (a.add (i*2+1))=some (.int .i64 kq.2)∧(-9223372036854775808≤kq.1∧kq.1≤9223372036854775807)∧(-9223372036854775808≤kq.2∧kq.2≤9223372036854775807):=by
   intro i hi
   obtain ⟨cs',h1,h2⟩:=hel i (Nat.lt_of_lt_of_le hi hlm)
   rw [Tryz.cellsRow] at h1
   obtain ⟨_,hlen,hcell⟩:=World.cells?_some h1
   obtain ⟨xs,k,_,_,_,hxl,hf⟩:=DataW.trod_struct hst h2
   match xs,hxl,cs',hlen with
   | [y0,y1],_, [v0,v1],_=>
    have g0:=hf 0 f0 rfl
    have g1:=hf 1 f1 rfl
    rw [t0,o0,Tryz.cellsInt] at g0
    rw [t1,o1,Tryz.cellsInt] at g1
    have e0:=hcell 0 (by omega)
    have e1:=hcell 1 (by omega)
    rw [Deep.add_add] at e0 e1
    obtain ⟨k0,d0,_,r0⟩:=DataW.trod_int Tryz.underlying3 (x:=y0) g0
    obtain ⟨k1,d1,_,r1⟩:=DataW.trod_int Tryz.underlying3 (x:=y1) g1
    simp at d0 d1
    subst d0 d1
    exact ⟨(k0,k1),e0,e1,int_rng r0,int_rng r1⟩
  obtain ⟨f,hf⟩:=Deep.choose_lt each
  refine ⟨(List.range n).map f,by simp,?_,Nat.le_trans hl hm⟩
  by_cases hn:n=0
  ·subst hn
   exact .inl ⟨_,_,rfl,rfl⟩
  ·have h0:=(hf 0 (by omega)).1
   obtain ⟨b,off,spot⟩:=a
   have hspot:spot=none:=by simpa [Addr.add] using World.cell?_spot h0
   subst hspot
   refine .inr ⟨b,off,cap,by simp,cell_lt h0,fun i hi=>?_,fun i hi=>?_⟩
   ·have hi' : i<n:=by simpa using hi
    have:=hf i hi'
    rw [add_plain] at this
    simp only [List.getElem_map,List.getElem_range]
    exact ⟨this.1,this.2.1⟩
   ·have hi' : i<n:=by simpa using hi
    simp only [List.getElem_map,List.getElem_range]
    exact (hf i hi').2.2
theorem contract (H:Type) (enc:TypeId×Value→H) (W:World) (base:Nat) (args:Array Value) (ds gs:List (DataW H)) (before:List MemPlace)
  (hval:∀ (j:Nat) t v,Tryz.f5.params[j]?=some t→args[j]?=some v→Value.okWide Tryz.prog W .any base t v)
  (hW:DataW.Whole enc Tryz.prog Tryz.f5.params.toList Rows.keptSpec.vars false W args.toList ds gs before) (hL:laidMetH Tryz.prog Rows.keptRow.laid W) (hsh:W.ShapedOpen Tryz.prog) :
  Calls Tryz.prog 5 args W fun e W'=>∃ v,e = .returned v∧Rows.keptSpec.post enc Tryz.prog Tryz.f5 false true false false W args v W':=by
 have hW':=hW
 obtain ⟨p,q,hA0,hV,rfl,_,_⟩:=hW
 have hA:DataW.TrodAll enc Tryz.prog W 0 (fun _=>true) true Tryz.f5.params.toList args.toList ds p:=hA0
 rw [Tryz.params5] at hA hval
 obtain ⟨v0,vs0,d0,ds0,p0,q0,hargs,rfl,rfl,h0,r0⟩:=trodAll_cons hA
 obtain ⟨v1,vs1,d1,ds1,p1,q1,rfl,rfl,rfl,h1,r1⟩:=trodAll_cons r0
 obtain ⟨rfl,rfl,rfl⟩:=trodAll_nil r1
 obtain rfl:args=#[v0,v1]:=by cases args;simp_all
 obtain ⟨rfl,rfl⟩:=trodVars_none hV
 obtain ⟨a0,len,cap,rfl⟩:=okWide_slice Tryz.underlying29 (hval 0 29 v0 rfl rfl)
 obtain ⟨s,rfl⟩:=okWide_string Tryz.underlying9 (hval 1 9 v1 rfl rfl)
 have h0k:=h0
 have h1k:=h1
 obtain ⟨fuel,hf⟩:=h0
 clear hA0
 simp only [List.append_nil] at hW'
 have hlt:∀ x∈p0++p1,x.block<W.heap.size:=fun x hx=>by simpa using hW'.lt x hx
 obtain ⟨l,hnl,hraw,hmx⟩:=raw_of (o:=a0) (n:=len) (cap:=cap) (by simpa [Value.cells] using hf)
 refine (lkept ⟨vr_of_laid hL,vm_of_shape hsh⟩ hraw hnl (by simpa [maxLen] using hmx)).mono fun e W' ⟨he,hb⟩=>?_
 subst he
 have har:DataW.Trod enc Tryz.prog W' 0 (fun b=>decide (b<W.heap.size)) true 29 (.slice a0 len cap) d0 p0:=Below.trod Tryz.laidOut (by kernel_rfl) (of_decide_eq_true (by kernel_rfl)) h0k hb (fun x hx=>hlt x (by simp [hx]))
 have har1:DataW.Trod enc Tryz.prog W' 0 (fun b=>decide (b<W.heap.size)) true 9 (.string s) d1 p1:=Below.trod Tryz.laidOut (by kernel_rfl) (of_decide_eq_true (by kernel_rfl)) h1k hb (fun x hx=>hlt x (by simp [hx]))
 refine ⟨_,rfl,_,_,_, [],p0++(p1 ++ []), [],hW',?_,?_,rfl,hb.frame _,fun h=>by cases h⟩
 ·exact trodAll_cons_mk (shut_bool Tryz.underlying4 _) trodAll_mk0
 ·exact trodAll_cons_mk har (trodAll_cons_mk har1 trodAll_mk0)
open Go
theorem and_both {a b:Bool} (h:a=true) (k:b=true):(a&&b)=true:=by rw [h,k];rfl
theorem pf_laidOut:laidOutB Tryz.prog=true:=by kernel_rfl
theorem pf_maps:mapsRowed Tryz.prog=true:=by kernel_rfl
theorem pf_place:(Rows.keptRow.inPlace == Tryz.prog.inPlace 5)=true:=by kernel_rfl
theorem pf_unf:(Rows.keptRow.unfollowed == Tryz.prog.unfollowed 5)=true:=by kernel_rfl
theorem pf_rec:(Rows.keptRow.recurses == Tryz.prog.recurses 5)=true:=by kernel_rfl
theorem pf_named:(Rows.keptRow.named == Tryz.prog.varsNamed 5)=true:=by kernel_rfl
theorem pf_tie:namedTie Tryz.prog Rows.keptRow.named Rows.keptSpec.vars=true:=by kernel_rfl
theorem pf_wf:Rows.keptRow.wf (OpenSpec.ofChange Rows.keptSpec)=true:=by kernel_rfl
end Go.Proofs.YtgnncnhkgmhngaaGreatDoor
