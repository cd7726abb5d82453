import Derived.Test.YtgnncnhkgmhngaaGreatDoorJ52
set_option maxHeartbeats 4000000
set_option maxRecDepth 100000
namespace Go.Proofs.YtgnncnhkgmhngaaGreatDoor
open Go.RowKit Go.Sort
theorem dq_len:∀ l:List UInt8,(Sp.dq l).length<=2*l.length
 | []=>by simp [Sp.dq]
 | c::l=>by
  have:=dq_len l
  rw [Sp.dq]
  split <;> simp <;> omega
theorem qu_len (l:List UInt8):(Sp.qu l).length<=2*l.length+2:=by
 have:=dq_len l
 simp [Sp.qu]
 omega
theorem lkept {ta:Option Addr} {n tc:Nat} {lt:List (Int×Int)} {x:ByteArray} {w:World} (hr:VRX w) (ht:RawV w (.slice ta n tc) lt) (hn:n=lt.length) (hlt:n<=9223372036854775807) :
  Calls Tryz.prog 5 #[.slice ta n tc, .string x] w fun r w'=>r = .returned (.bool true)/\RowKit.Below w.heap.size w w':=by
 have HR:=hid hr
 have HT:=hid ht
 have HN:=hid hn
 have HF0:=hid (lfilled hr ht (.inl ⟨none,0,rfl,rfl⟩) (by omega) (by simp))
 clear hr ht hn
 go_enter Tryz.func5,Tryz.ntmps5
 go_wp2_with fail
 refine HF0.out.mono ?_
 rintro e w1 ⟨bb,rfl,h1⟩
 have HF1:Hid (Fil bb w (rvs (lt.take 20)) [] w1):=hid h1
 clear h1 HF0
 have hxs:(x.extract 0 900).size<=900:=by rw [ByteArray.size_extract];omega
 by_cases hx:900<x.size
 rotate_left
 ·have hxs:x.size<=900:=by omega
  clear hx
  go_wp2_with fail
  refine (asks_all_t HR.out HF1.out rfl rvs_len (by simp) (by simp [rvs];omega)).mono ?_
  rintro e w2 ⟨rv,rfl,hro,h2,_⟩
  have HL2:=hid (hro.lv (by omega))
  have HF2:=hid h2
  obtain ⟨la,lc,rfl⟩:=hro.sl
  have HRo:=hid (lrows_v (HT.out.bel h2.below) (by have:=HN.out;omega))
  clear hro h2 HF1
  go_wp2_with fail
  refine HRo.out.mono ?_
  rintro e w3 ⟨rv3,rfl,hl3,g3⟩
  have HL3:=hid (HL2.out.gr g3)
  have HF3:=hid (HF2.out.bel g3.below)
  obtain ⟨ra,rc,rfl⟩:=hl3.sl
  have HBg:=hid (lbag_all _ _ _ _ w3 (by have:=(sortR_perm (rvs (lt.take 20))).length_eq;simp [rvs] at this ⊢;omega) (fun r hr=>by rw [rvs_len r ((sortR_perm _).mem_iff.1 hr)];omega) (fun r hr=>by rw [rvs_len r hr];omega) HL3.out hl3 (bag_sort rvs_len))
  clear g3 hl3 HRo HL2 HF2
  go_wp2_with fail
  refine HBg.out.mono ?_
  rintro e w4 ⟨rfl,g4⟩
  have HF4:=hid (HF3.out.bel g4.below)
  clear g4 HBg HL3 HF3
  go_wp2_with fail
  refine (quoted_any x w4 (by omega)).mono ?_
  rintro e w5 ⟨⟨q,rfl,hq⟩,rfl⟩
  have hqd:q.data.toList=Sp.qu x.data.toList:=by
   rw [<- ByteArray.toList_eq,hq,dbl_dq,ByteArray.toList_eq];rfl
  have hqs:q.size<=1802:=by
   have:=qu_len x.data.toList
   rw [<- hqd,size_data,size_data] at this
   omega
  have HQ:=hid hqd
  clear hq hqd
  go_wp2_with fail
  have hx19:(Sp.qu x.data.toList).length<=1900:=by rw [<- HQ.out,size_data];omega
  have hs1:((⟨#[105,110,115,101,114,116,32,105,110,116,111,32,117,32,118,97,108,117,101,115,32,40,55,44,32]⟩:ByteArray)++q++(⟨#[41]⟩:ByteArray)).data.toList = [105,110,115,101,114,116,32,105,110,116,111,32,117,32,118,97,108,117,101,115,32,40,55,44,32]++(Sp.qu x.data.toList ++ [41]):=by
   rw [bytes_app,bytes_app,HQ.out,List.append_assoc]
  have hs2:((⟨#[115,101,108,101,99,116,32,98,32,102,114,111,109,32,117,32,119,104,101,114,101,32,98,32,61,32]⟩:ByteArray)++q).data.toList = [115,101,108,101,99,116,32,98,32,102,114,111,109,32,117,32,119,104,101,114,101,32,98,32,61,32]++Sp.qu x.data.toList:=by rw [bytes_app,HQ.out]
  have hs3:((⟨#[100,101,108,101,116,101,32,102,114,111,109,32,117,32,119,104,101,114,101,32,98,32,61,32]⟩:ByteArray)++q).data.toList = [100,101,108,101,116,101,32,102,114,111,109,32,117,32,119,104,101,114,101,32,98,32,61,32]++Sp.qu x.data.toList:=by rw [bytes_app,HQ.out]
  have HS1:=hid hs1
  have HS2:=hid hs2
  have HS3:=hid hs3
  have HX:=hid hx19
  clear hs1 hs2 hs3 hx19
  refine (does_ins_q HR.out HF4.out HS1.out HX.out).mono ?_
  rintro e w6 ⟨rfl,h6,_⟩
  have HF6:=hid h6
  clear h6 HF4 HS1
  go_wp2_with fail
  refine (asks_sel_q HR.out HF6.out HS2.out HX.out rvs_len).mono ?_
  rintro e w7 ⟨rv7,rfl,hr7,h7,_⟩
  have hb7:=HF6.out.lt
  have HM7:=hid hr7
  have HF7:=hid h7
  obtain ⟨ma,mc,rfl⟩:=hr7.sl
  simp only [List.length_cons,List.length_nil,Nat.zero_add] at HM7 ⊢
  clear hr7 h7 HS2
  go_wp2_with fail
  refine (does_del_q HR.out HF7.out HS3.out HX.out).mono ?_
  rintro e w8 ⟨rfl,h8,k8⟩
  have HF8:=hid h8
  have HM8:=hid (HM7.out.kept HF7.out hb7 k8)
  clear h8 k8 HF7 HM7 HS3
  go_wp2_with fail
  refine (asks_all_u HR.out HF8.out rfl rvs_len (by simp) (by simp)).mono ?_
  rintro e w9 ⟨rv9,rfl,hr9,h9,k9⟩
  have HF9:=hid h9
  have HM9:=hid (HM8.out.kept HF8.out hb7 k9)
  obtain ⟨na,nc,rfl⟩:=hr9.sl
  have hl0:(sortR ([]:List (List Sv.Val))).length=0:=by have:=(sortR_perm []).length_eq;simpa using this
  rw [hl0]
  clear hr9 h9 k9 HF8 HM8 hl0
  obtain ⟨mb,b,o,cu,rfl,q0,q1,q2,q3⟩:∃ mb b o cu,ma=some ⟨mb,0,none⟩/\w9.cell? ⟨mb,0,none⟩=some (.slice (some ⟨b,o,none⟩) 1 cu)/\w9.cell? ⟨b,o,none⟩=some (.int .i64 3)/\w9.cell? ⟨b,o+1,none⟩=some (.int .i64 0)/\w9.cell? ⟨b,o+2,none⟩=some (.string x):=by
   rcases HM9.out with ⟨e,_⟩ | ⟨mb,c',e,l1,l2,hr⟩
   ·cases e
   ·obtain ⟨u,p1,p2,p3,p4⟩:=hr 0 (by simp)
    injection e with e _ _
    rcases p3 with ⟨_,p3⟩ | ⟨b,o,cu,rfl,_,hv⟩
    ·cases p3
    ·refine ⟨mb,b,o,cu,e,p1,?_,?_,?_⟩
     ·have:=hv.k 0 (by simp);simpa [Sv.text] using this
     ·have:=hv.n 0 (by simp);simpa [Sv.text] using this
     ·have:=hv.s 0 (by simp);simpa [Sv.text] using this
  go_wp2_with fail
  exact bodyPost_ret (v := .bool true) (by simp [results,Tryz.results5,go_sem]) rfl ⟨rfl,HF9.out.below⟩
 ·go_wp2_with fail
  generalize x.extract 0 900=y at hxs ⊢
  refine (asks_all_t HR.out HF1.out rfl rvs_len (by simp) (by simp [rvs];omega)).mono ?_
  rintro e w2 ⟨rv,rfl,hro,h2,_⟩
  have HL2:=hid (hro.lv (by omega))
  have HF2:=hid h2
  obtain ⟨la,lc,rfl⟩:=hro.sl
  have HRo:=hid (lrows_v (HT.out.bel h2.below) (by have:=HN.out;omega))
  clear hro h2 HF1
  go_wp2_with fail
  refine HRo.out.mono ?_
  rintro e w3 ⟨rv3,rfl,hl3,g3⟩
  have HL3:=hid (HL2.out.gr g3)
  have HF3:=hid (HF2.out.bel g3.below)
  obtain ⟨ra,rc,rfl⟩:=hl3.sl
  have HBg:=hid (lbag_all _ _ _ _ w3 (by have:=(sortR_perm (rvs (lt.take 20))).length_eq;simp [rvs] at this ⊢;omega) (fun r hr=>by rw [rvs_len r ((sortR_perm _).mem_iff.1 hr)];omega) (fun r hr=>by rw [rvs_len r hr];omega) HL3.out hl3 (bag_sort rvs_len))
  clear g3 hl3 HRo HL2 HF2
  go_wp2_with fail
  refine HBg.out.mono ?_
  rintro e w4 ⟨rfl,g4⟩
  have HF4:=hid (HF3.out.bel g4.below)
  clear g4 HBg HL3 HF3
  go_wp2_with fail
  refine (quoted_any y w4 (by omega)).mono ?_
  rintro e w5 ⟨⟨q,rfl,hq⟩,rfl⟩
  have hqd:q.data.toList=Sp.qu y.data.toList:=by
   rw [<- ByteArray.toList_eq,hq,dbl_dq,ByteArray.toList_eq];rfl
  have hqs:q.size<=1802:=by
   have:=qu_len y.data.toList
   rw [<- hqd,size_data,size_data] at this
   omega
  have HQ:=hid hqd
  clear hq hqd
  go_wp2_with fail
  have hx19:(Sp.qu y.data.toList).length<=1900:=by rw [<- HQ.out,size_data];omega
  have hs1:((⟨#[105,110,115,101,114,116,32,105,110,116,111,32,117,32,118,97,108,117,101,115,32,40,55,44,32]⟩:ByteArray)++q++(⟨#[41]⟩:ByteArray)).data.toList = [105,110,115,101,114,116,32,105,110,116,111,32,117,32,118,97,108,117,101,115,32,40,55,44,32]++(Sp.qu y.data.toList ++ [41]):=by
   rw [bytes_app,bytes_app,HQ.out,List.append_assoc]
  have hs2:((⟨#[115,101,108,101,99,116,32,98,32,102,114,111,109,32,117,32,119,104,101,114,101,32,98,32,61,32]⟩:ByteArray)++q).data.toList = [115,101,108,101,99,116,32,98,32,102,114,111,109,32,117,32,119,104,101,114,101,32,98,32,61,32]++Sp.qu y.data.toList:=by rw [bytes_app,HQ.out]
  have hs3:((⟨#[100,101,108,101,116,101,32,102,114,111,109,32,117,32,119,104,101,114,101,32,98,32,61,32]⟩:ByteArray)++q).data.toList = [100,101,108,101,116,101,32,102,114,111,109,32,117,32,119,104,101,114,101,32,98,32,61,32]++Sp.qu y.data.toList:=by rw [bytes_app,HQ.out]
  have HS1:=hid hs1
  have HS2:=hid hs2
  have HS3:=hid hs3
  have HX:=hid hx19
  clear hs1 hs2 hs3 hx19
  refine (does_ins_q HR.out HF4.out HS1.out HX.out).mono ?_
  rintro e w6 ⟨rfl,h6,_⟩
  have HF6:=hid h6
  clear h6 HF4 HS1
  go_wp2_with fail
  refine (asks_sel_q HR.out HF6.out HS2.out HX.out rvs_len).mono ?_
  rintro e w7 ⟨rv7,rfl,hr7,h7,_⟩
  have hb7:=HF6.out.lt
  have HM7:=hid hr7
  have HF7:=hid h7
  obtain ⟨ma,mc,rfl⟩:=hr7.sl
  simp only [List.length_cons,List.length_nil,Nat.zero_add] at HM7 ⊢
  clear hr7 h7 HS2
  go_wp2_with fail
  refine (does_del_q HR.out HF7.out HS3.out HX.out).mono ?_
  rintro e w8 ⟨rfl,h8,k8⟩
  have HF8:=hid h8
  have HM8:=hid (HM7.out.kept HF7.out hb7 k8)
  clear h8 k8 HF7 HM7 HS3
  go_wp2_with fail
  refine (asks_all_u HR.out HF8.out rfl rvs_len (by simp) (by simp)).mono ?_
  rintro e w9 ⟨rv9,rfl,hr9,h9,k9⟩
  have HF9:=hid h9
  have HM9:=hid (HM8.out.kept HF8.out hb7 k9)
  obtain ⟨na,nc,rfl⟩:=hr9.sl
  have hl0:(sortR ([]:List (List Sv.Val))).length=0:=by have:=(sortR_perm []).length_eq;simpa using this
  rw [hl0]
  clear hr9 h9 k9 HF8 HM8 hl0
  obtain ⟨mb,b,o,cu,rfl,q0,q1,q2,q3⟩:∃ mb b o cu,ma=some ⟨mb,0,none⟩/\w9.cell? ⟨mb,0,none⟩=some (.slice (some ⟨b,o,none⟩) 1 cu)/\w9.cell? ⟨b,o,none⟩=some (.int .i64 3)/\w9.cell? ⟨b,o+1,none⟩=some (.int .i64 0)/\w9.cell? ⟨b,o+2,none⟩=some (.string y):=by
   rcases HM9.out with ⟨e,_⟩ | ⟨mb,c',e,l1,l2,hr⟩
   ·cases e
   ·obtain ⟨u,p1,p2,p3,p4⟩:=hr 0 (by simp)
    injection e with e _ _
    rcases p3 with ⟨_,p3⟩ | ⟨b,o,cu,rfl,_,hv⟩
    ·cases p3
    ·refine ⟨mb,b,o,cu,e,p1,?_,?_,?_⟩
     ·have:=hv.k 0 (by simp);simpa [Sv.text] using this
     ·have:=hv.n 0 (by simp);simpa [Sv.text] using this
     ·have:=hv.s 0 (by simp);simpa [Sv.text] using this
  go_wp2_with fail
  exact bodyPost_ret (v := .bool true) (by simp [results,Tryz.results5,go_sem]) rfl ⟨rfl,HF9.out.below⟩
end Go.Proofs.YtgnncnhkgmhngaaGreatDoor
