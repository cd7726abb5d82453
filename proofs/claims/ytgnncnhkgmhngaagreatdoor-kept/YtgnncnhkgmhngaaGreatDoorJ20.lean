import Derived.Test.YtgnncnhkgmhngaaGreatDoorJ19
import Derived.Lib.Replace
set_option maxHeartbeats 1000000
namespace Go.Proofs.YtgnncnhkgmhngaaGreatDoor
open Go.RowKit
structure TW (l:Sp.Bs) (wd:Sp.Bs):Prop where
 eq:(Sp.first l).1 ≠ .bad→wd=l.take (Sp.first l).2
 ok:∀ x∈fixd,(wd == x)=((Sp.first l).1 == .key&&l.take (Sp.first l).2 == x)
theorem fixd_ne:∀ x∈fixd,x ≠ []:=by decide
theorem fixd_head:∀ x∈fixd,Sp.isDg (x.headD 0)=false∧(x.headD 0 == 39)=false:=by decide
theorem fixd_word:∀ x∈fixd,Sp.isLo (x.headD 0)=true→Sp.keys.contains x=true:=by decide
theorem TW.empty {l:Sp.Bs} (h:(Sp.first l).1 = .fin∨(Sp.first l).1 = .bad) (h0:(Sp.first l).1 ≠ .bad→(Sp.first l).2=0):TW l []:=by
 refine ⟨fun hb=>by rw [h0 hb];rfl,fun x hx=>?_⟩
 have:=fixd_ne x hx
 rcases h with h | h <;> rw [h] <;> cases x <;> simp_all
theorem TW.key {l:Sp.Bs} (h:(Sp.first l).1 = .key):TW l (l.take (Sp.first l).2):=
 ⟨fun _=>rfl,fun x _=>by rw [h];simp⟩
theorem TW.head {l:Sp.Bs} {c:UInt8} {r:Sp.Bs} {n:Nat} (hk:(Sp.first l).1 ≠ .key) (hl:l=c::r) (hn:1≤n) (he:(Sp.first l).1 ≠ .bad→n=(Sp.first l).2) (h:∀ x∈fixd,x.headD 0=c→(l.take n == x)=false):TW l (l.take n):=by
 refine ⟨fun hb=>by rw [he hb],fun x hx=>?_⟩
 have e:((Sp.first l).1 == Sp.Cl.key)=false:=by simpa using hk
 rw [e,Bool.false_and]
 by_cases hc:x.headD 0=c
 ·exact h x hx hc
 ·obtain ⟨m,rfl⟩:∃ m,n=m+1:=⟨n - 1,by omega⟩
  rw [hl,List.take_succ_cons]
  cases x with
  | nil=>exact absurd rfl (fixd_ne _ hx)
  | cons y z=>
   simp only [List.headD_cons] at hc
   simp only [List.cons_beq_cons,Bool.and_eq_false_iff]
   exact Or.inl (by simpa using fun e=>hc e.symm)
theorem many_all (p:UInt8→Bool):∀ l:Sp.Bs,(l.take (Sp.many p l)).all p=true
 | []=>rfl
 | c::r=>by
  simp only [Sp.many]
  split
  ·rename_i h
   rw [List.take_succ_cons,List.all_cons,h,many_all p r];rfl
  ·rfl
theorem first_word {c:UInt8} {r:Sp.Bs} (h:Sp.isLo c=true):Sp.first (c::r)=(if Sp.keys.contains ((c::r).take (Sp.many Sp.isWd (c::r))) then .key else if Sp.many Sp.isWd (c::r)≤12 then .name else .bad,Sp.many Sp.isWd (c::r)):=by
 simp only [Sp.first,h,if_true]
 split
 ·rfl
 ·split <;> rfl
theorem first_num {c:UInt8} {r:Sp.Bs} (h:Sp.isLo c=false) (h2:Sp.isDg c=true):Sp.first (c::r)=(if Sp.numVal ((c::r).take (Sp.many Sp.isDg (c::r)))<9223372036854775808 then .num else .bad,Sp.many Sp.isDg (c::r)):=by
 simp only [Sp.first,h,h2,if_true,Bool.false_eq_true,if_false]
 split <;> rfl
theorem first_txt {c:UInt8} {r:Sp.Bs} (h:Sp.isLo c=false) (h2:Sp.isDg c=false) (h3:(c == 39)=true):Sp.first (c::r)=match Sp.txtLen r with | some n=>(.txt,n+1) | none=>(.bad,0):=by
 simp only [Sp.first,h,h2,h3,if_true,Bool.false_eq_true,if_false]
 rfl
theorem first_sign {c:UInt8} {r:Sp.Bs} (h:Sp.isLo c=false) (h2:Sp.isDg c=false) (h3:(c == 39)=false):Sp.first (c::r)=match Sp.signLen (c::r) with | 0=>(.bad,0) | n=>(.key,n):=by
 simp only [Sp.first,h,h2,h3,Bool.false_eq_true,if_false]
 rfl
theorem ext_take (s:ByteArray) (n:Nat):(s.extract 0 n).data.toList=s.data.toList.take n:=by
 rw [Lib.extract_data];simp
theorem size_data (s:ByteArray):s.data.toList.length=s.size:=by simp
def FT (s:ByteArray) (w:World) (e:Ending) (w' : World):Prop:=
 ∃ wd:ByteArray,e = .returned (.agg #[.int .i64 (kn (Sp.first s.data.toList).1), .int .i64 0, .string wd])∧TW s.data.toList wd.toList∧Below w.heap.size w w'
theorem firstToken_nil (s:ByteArray) (w:World) (h:s.toList.isEmpty=true):Calls Tryz.prog 74 #[.string s] w (FT s w):=by
 have hs:s.data.toList = []:=by rw [← ByteArray.toList_eq];simpa using h
 have H:Hid (kn (Sp.first s.data.toList).1=0∧TW s.data.toList (ByteArray.mk #[]).toList):=by
  rw [hs,ByteArray.toList_mk []]
  exact ⟨rfl,TW.empty (Or.inl rfl) (fun _=>rfl)⟩
 clear hs
 go_enter Tryz.func74,Tryz.ntmps74
 go_wp2_with fail
 exact bodyPost_ret (v := .agg #[.int .i64 0, .int .i64 0, .string ⟨#[]⟩]) (by simp [results,Tryz.results74,go_sem]) rfl ⟨⟨#[]⟩,by rw [H.out.1],H.out.2,(Below.refl _ _).alloc (Nat.le_refl _) _⟩
theorem own3 (w w1:World) (x y z:Value) (t:TypeId) (hb:Below (w.alloc (.cells #[x,y,z] t)).heap.size (w.alloc (.cells #[x,y,z] t)) w1) :
  (w1.cell? ⟨w.heap.size,0,none⟩=some x∧w1.cell? ⟨w.heap.size,1,none⟩=some y∧w1.cell? ⟨w.heap.size,2,none⟩=some z)∧(w1.frozen? ⟨w.heap.size,0,none⟩=false∧w1.frozen? ⟨w.heap.size,1,none⟩=false∧w1.frozen? ⟨w.heap.size,2,none⟩=false)∧w.heap.size<w1.heap.size∧Below w.heap.size w w1:=by
 have hs:w.heap.size+1≤w1.heap.size:=by have:=hb.size;simpa using this
 have hc:∀ o,w1.cell? ⟨w.heap.size,o,none⟩=#[x,y,z][o]?:=fun o=>(hb.cell (p:=⟨w.heap.size,o,none⟩) (by simp)).trans (World.cell?_alloc_new _ _ _ _)
 have hf:∀ o,w1.frozen? ⟨w.heap.size,o,none⟩=(w.alloc (.cells #[x,y,z] t)).frozen? ⟨w.heap.size,o,none⟩:=fun o=>hb.frozen (p:=⟨w.heap.size,o,none⟩) (by simp)
 refine ⟨⟨hc 0,hc 1,hc 2⟩,⟨(hf 0).trans ?_,(hf 1).trans ?_,(hf 2).trans ?_⟩,by omega,((Below.refl _ _).alloc (Nat.le_refl _) _).trans (hb.mono (by simp))⟩ <;> go_simp
theorem signLen_le:∀ l:Sp.Bs,Sp.signLen l≤l.length
 | []=>Nat.le_refl _
 | [c]=>by simp only [Sp.signLen];split <;> simp
 | c::c'::r=>by
  simp only [Sp.signLen,List.length_cons]
  split
  ·omega
  ·split <;> omega
theorem mk_nil:(ByteArray.mk #[]).toList = []:=ByteArray.toList_mk []
theorem firstToken_word (s:ByteArray) (w:World) (hs:s.size≤100000) (h0:0<s.size) (hc:Sp.isLo s[0]=true):Calls Tryz.prog 74 #[.string s] w (FT s w):=by
 have e:=data_cons s h0
 have hF:=first_word (r:=s.data.toList.drop 1) hc
 rw [← e] at hF
 have hm:Sp.many Sp.isWd s.data.toList≤s.size:=by have:=many_le Sp.isWd s.data.toList;rwa [size_data] at this
 have h1:1≤Sp.many Sp.isWd s.data.toList:=by rw [e];exact Sp.many_pos (by simp [Sp.isWd,hc])
 have hne:s.toList.isEmpty=false:=by rw [ByteArray.toList_eq,e];rfl
 have hd:(s.extract 0 (Sp.many Sp.isWd s.data.toList)).toList=s.data.toList.take (Sp.many Sp.isWd s.data.toList):=by rw [ByteArray.toList_eq,ext_take]
 have hz:(s.extract 0 (Sp.many Sp.isWd s.data.toList)).size=Sp.many Sp.isWd s.data.toList:=by rw [← size_data,ext_take,List.length_take,size_data];omega
 have HCl:Hid ((Sp.first s.data.toList).1=if isKy (s.extract 0 (Sp.many Sp.isWd s.data.toList)).toList then .key else if (s.extract 0 (Sp.many Sp.isWd s.data.toList)).size≤12 then .name else .bad):=by
  show _=_;rw [hF,hd,hz];rfl
 have HT:Hid (TW s.data.toList (s.extract 0 (Sp.many Sp.isWd s.data.toList)).toList):=by
  show TW _ _
  rw [hd]
  have h2:(Sp.first s.data.toList).2=Sp.many Sp.isWd s.data.toList:=by rw [hF]
  cases hk:Sp.keys.contains (s.data.toList.take (Sp.many Sp.isWd s.data.toList))
  ·refine TW.head ?_ e h1 (fun _=>h2.symm) ?_
   ·rw [hF,hk];simp only [Bool.false_eq_true,if_false];split <;> decide
   ·intro x hx hcx
    have:=fixd_word x hx (by rw [hcx];exact hc)
    cases hb:(s.data.toList.take (Sp.many Sp.isWd s.data.toList) == x)
    ·rfl
    ·rw [eq_of_beq hb,this] at hk;cases hk
  ·have:=TW.key (l:=s.data.toList) (by rw [hF,hk];rfl)
   rw [h2] at this
   exact this
 clear hF hd hz e h1
 generalize hn:Sp.many Sp.isWd s.data.toList=n at *
 have HN:=hid hn
 clear hn
 have hmax:s.size≤maxLen:=by unfold maxLen;omega
 go_enter Tryz.func74,Tryz.ntmps74
 go_wp2_with fail
 refine (isLetter_any _ _).mono ?_
 rintro r w1 ⟨rfl,rfl⟩
 go_wp2_with fail
 refine (countWord_any _ _ hmax).mono ?_
 rintro r w1 ⟨rfl,rfl⟩
 rw [HN.out]
 go_wp2_with fail
 refine (wordKind_any _ _ _ HCl).mono ?_
 rintro r w1 ⟨rfl,rfl⟩
 go_wp2_with fail
 exact bodyPost_ret (v := .agg #[.int .i64 (kn (Sp.first s.data.toList).1), .int .i64 0, .string (s.extract 0 n)]) (by simp [results,Tryz.results74,go_sem]) rfl ⟨_,rfl,HT.out,(Below.refl _ _).alloc (Nat.le_refl _) _⟩
theorem firstToken_num (s:ByteArray) (w:World) (hs:s.size≤100000) (h0:0<s.size) (hr:VR w) (hl:Sp.isLo s[0]=false) (hc:Sp.isDg s[0]=true):Calls Tryz.prog 74 #[.string s] w (FT s w):=by
 have e:=data_cons s h0
 have hF:=first_num (r:=s.data.toList.drop 1) hl hc
 rw [← e] at hF
 have hm:Sp.many Sp.isDg s.data.toList≤s.size:=by have:=many_le Sp.isDg s.data.toList;rwa [size_data] at this
 have h1:1≤Sp.many Sp.isDg s.data.toList:=by rw [e];exact Sp.many_pos hc
 have hne:s.toList.isEmpty=false:=by rw [ByteArray.toList_eq,e];rfl
 have hd:(s.extract 0 (Sp.many Sp.isDg s.data.toList)).data.toList=s.data.toList.take (Sp.many Sp.isDg s.data.toList):=ext_take _ _
 have hz:(s.extract 0 (Sp.many Sp.isDg s.data.toList)).size=Sp.many Sp.isDg s.data.toList:=by rw [← size_data,ext_take,List.length_take,size_data];omega
 have HT:Hid (TW s.data.toList (s.extract 0 (Sp.many Sp.isDg s.data.toList)).toList):=by
  show TW _ _
  rw [ByteArray.toList_eq,hd]
  have h2:(Sp.first s.data.toList).2=Sp.many Sp.isDg s.data.toList:=by rw [hF]
  refine TW.head ?_ e h1 (fun _=>h2.symm) ?_
  ·rw [hF];dsimp only;split <;> decide
  ·intro x hx hcx
   have:=(fixd_head x hx).1
   rw [hcx,hc] at this
   cases this
 have ha:(s.extract 0 (Sp.many Sp.isDg s.data.toList)).data.toList.all Sp.isDg=true:=by rw [hd];exact many_all _ _
 have hnn:(s.extract 0 (Sp.many Sp.isDg s.data.toList)).data.toList ≠ []:=by
  intro h
  have:=congrArg List.length h
  rw [size_data,hz] at this
  simp at this;omega
 have hsz:(s.extract 0 (Sp.many Sp.isDg s.data.toList)).size≤100000:=by omega
 have hmax:s.size≤maxLen:=by unfold maxLen;omega
 have hr1:∀ o,VR (w.alloc o):=fun o=>by
  obtain ⟨te,pe,x,y⟩:=hr
  exact ⟨te,pe,(World.cell?_alloc_lt _ _ _ (by exact y)).trans x,by simp;omega⟩
 have HR1:=hid hr1
 clear hr1 hr
 by_cases hv:Sp.numVal (s.extract 0 (Sp.many Sp.isDg s.data.toList)).data.toList<9223372036854775808
 ·have HCl:Hid (kn (Sp.first s.data.toList).1=kn .num):=by
   show _=_;rw [hF,← hd,if_pos hv]
  have HA:=numberKind_ok (s.extract 0 (Sp.many Sp.isDg s.data.toList)) (hne:=hnn) (hd:=ha) (hs:=hsz) (hv:=hv)
  have HNK:Hid (∀ w,Calls Tryz.prog 118 #[.string (s.extract 0 (Sp.many Sp.isDg s.data.toList))] w fun e w'=>e = .returned (.int .i64 (kn .num))∧Below w.heap.size w w'):=fun w=>HA w
  clear hF hd hz e h1 HA hnn ha hv hsz
  generalize hn:Sp.many Sp.isDg s.data.toList=n at *
  have HN:=hid hn
  clear hn
  go_enter Tryz.func74,Tryz.ntmps74
  go_wp2_with fail
  refine (isLetter_any _ _).mono ?_
  rintro r w1 ⟨rfl,rfl⟩
  go_wp2_with fail
  refine (isDigit_any _ _).mono ?_
  rintro r w1 ⟨rfl,rfl⟩
  go_wp2_with fail
  refine (countDigit_any _ _ hmax).mono ?_
  rintro r w1 ⟨rfl,rfl⟩
  rw [HN.out]
  go_wp2_with fail
  refine (HNK.out _).mono ?_
  rintro r w1 ⟨rfl,hb⟩
  obtain ⟨⟨c0,c1,c2⟩,⟨f0,f1,f2⟩,hsz,hbl⟩:=own3 _ _ _ _ _ _ hb
  have HB:=hid hbl
  clear hb hbl
  go_wp2_with fail
  exact bodyPost_ret (v := .agg #[.int .i64 (kn .num), .int .i64 0, .string (s.extract 0 n)]) (by simp [results,Tryz.results74,go_sem,c0,c1,c2]) rfl ⟨_,by rw [HCl.out],HT.out,((HB.out.setCell (Nat.le_refl _) _).setCell (Nat.le_refl _) _).setCell (Nat.le_refl _) _⟩
 ·have HCl:Hid (kn (Sp.first s.data.toList).1=kn .bad):=by
   show _=_;rw [hF,← hd,if_neg hv]
  have HA:=fun w=>numberKind_bad (s.extract 0 (Sp.many Sp.isDg s.data.toList)) w hnn ha hsz hv
  have HNK:Hid (∀ w,VR w→Calls Tryz.prog 118 #[.string (s.extract 0 (Sp.many Sp.isDg s.data.toList))] w fun e w'=>e = .returned (.int .i64 (kn .bad))∧Below w.heap.size w w'):=fun w h=>HA w h
  clear hF hd hz e h1 HA hnn ha hv hsz
  generalize hn:Sp.many Sp.isDg s.data.toList=n at *
  have HN:=hid hn
  clear hn
  go_enter Tryz.func74,Tryz.ntmps74
  go_wp2_with fail
  refine (isLetter_any _ _).mono ?_
  rintro r w1 ⟨rfl,rfl⟩
  go_wp2_with fail
  refine (isDigit_any _ _).mono ?_
  rintro r w1 ⟨rfl,rfl⟩
  go_wp2_with fail
  refine (countDigit_any _ _ hmax).mono ?_
  rintro r w1 ⟨rfl,rfl⟩
  rw [HN.out]
  go_wp2_with fail
  refine (HNK.out _ (HR1.out _)).mono ?_
  rintro r w1 ⟨rfl,hb⟩
  obtain ⟨⟨c0,c1,c2⟩,⟨f0,f1,f2⟩,hsz,hbl⟩:=own3 _ _ _ _ _ _ hb
  have HB:=hid hbl
  clear hb hbl
  go_wp2_with fail
  exact bodyPost_ret (v := .agg #[.int .i64 (kn .bad), .int .i64 0, .string (s.extract 0 n)]) (by simp [results,Tryz.results74,go_sem,c0,c1,c2]) rfl ⟨_,by rw [HCl.out],HT.out,((HB.out.setCell (Nat.le_refl _) _).setCell (Nat.le_refl _) _).setCell (Nat.le_refl _) _⟩
theorem firstToken_txt (s:ByteArray) (w:World) (hs:s.size≤100000) (h0:0<s.size) (hl:Sp.isLo s[0]=false) (hc:Sp.isDg s[0]=false) (hq:(s[0] == 39)=true):Calls Tryz.prog 74 #[.string s] w (FT s w):=by
 have e:=data_cons s h0
 have hF:=first_txt (r:=s.data.toList.drop 1) hl hc hq
 rw [← e] at hF
 have hne:s.toList.isEmpty=false:=by rw [ByteArray.toList_eq,e];rfl
 have hmax:s.size≤maxLen:=by unfold maxLen;omega
 have hx:txr s 1≤s.size:=txr_le s 1 (by omega)
 have hq' : ((s[0].toNat:Int) == 39)=true:=by have:=u8_eq s[0] 39;rw [hq] at this;exact this
 have hd:(s.extract 0 (txr s 1)).toList=s.data.toList.take (txr s 1):=by rw [ByteArray.toList_eq,ext_take]
 cases ht:Sp.txtLen (s.data.toList.drop 1) with
 | none=>
  rw [ht] at hF
  have hz:txr s 1=0:=by unfold txr;rw [ht]
  have hem:(s.extract 0 (txr s 1)).toList.isEmpty=true:=by rw [hd,hz];rfl
  have HT:Hid (TW s.data.toList (ByteArray.mk #[]).toList∧kn (Sp.first s.data.toList).1=1):=by
   rw [mk_nil]
   exact ⟨TW.empty (Or.inr (by rw [hF])) (fun h=>absurd (by rw [hF]) h),by rw [hF];rfl⟩
  clear hF e ht hd hz
  generalize hn:txr s 1=n at *
  have HN:=hid hn
  clear hn
  go_enter Tryz.func74,Tryz.ntmps74
  go_wp2_with fail
  refine (isLetter_any _ _).mono ?_
  rintro r w1 ⟨rfl,rfl⟩
  go_wp2_with fail
  refine (isDigit_any _ _).mono ?_
  rintro r w1 ⟨rfl,rfl⟩
  go_wp2_with fail
  refine (textLength_any _ _ h0 hmax).mono ?_
  rintro r w1 ⟨rfl,rfl⟩
  rw [HN.out]
  go_wp2_with fail
  refine (tokenEmpty_any _ _ _ hem).mono ?_
  rintro r w1 ⟨rfl,hb⟩
  obtain ⟨⟨c0,c1,c2⟩,⟨f0,f1,f2⟩,hsz,hbl⟩:=own3 _ _ _ _ _ _ hb
  have HB:=hid hbl
  clear hb hbl
  go_wp2_with fail
  exact bodyPost_ret (v := .agg #[.int .i64 1, .int .i64 0, .string ⟨#[]⟩]) (by simp [results,Tryz.results74,go_sem,c0,c1,c2]) rfl ⟨_,by rw [HT.out.2],HT.out.1,((HB.out.setCell (Nat.le_refl _) _).setCell (Nat.le_refl _) _).setCell (Nat.le_refl _) _⟩
 | some k=>
  rw [ht] at hF
  have hz:txr s 1=1+k:=by unfold txr;rw [ht]
  have hem:(s.extract 0 (txr s 1)).toList.isEmpty=false:=by rw [hd,hz,e,Nat.add_comm];rfl
  have HT:Hid (TW s.data.toList (s.extract 0 (txr s 1)).toList∧kn (Sp.first s.data.toList).1=5):=by
   refine ⟨?_,by rw [hF];rfl⟩
   rw [hd]
   refine TW.head (by rw [hF];simp) e (by omega) (fun _=>by rw [hF];dsimp only;omega) ?_
   intro x hx hcx
   have:=(fixd_head x hx).2
   rw [hcx,hq] at this
   cases this
  clear hF e ht hd hz
  generalize hn:txr s 1=n at *
  have HN:=hid hn
  clear hn
  go_enter Tryz.func74,Tryz.ntmps74
  go_wp2_with fail
  refine (isLetter_any _ _).mono ?_
  rintro r w1 ⟨rfl,rfl⟩
  go_wp2_with fail
  refine (isDigit_any _ _).mono ?_
  rintro r w1 ⟨rfl,rfl⟩
  go_wp2_with fail
  refine (textLength_any _ _ h0 hmax).mono ?_
  rintro r w1 ⟨rfl,rfl⟩
  rw [HN.out]
  go_wp2_with fail
  refine (tokenFull_any _ _ _ hem).mono ?_
  rintro r w1 ⟨rfl,hb⟩
  obtain ⟨⟨c0,c1,c2⟩,⟨f0,f1,f2⟩,hsz,hbl⟩:=own3 _ _ _ _ _ _ hb
  have HB:=hid hbl
  clear hb hbl
  go_wp2_with fail
  exact bodyPost_ret (v := .agg #[.int .i64 5, .int .i64 0, .string (s.extract 0 n)]) (by simp [results,Tryz.results74,go_sem,c0,c1,c2]) rfl ⟨_,by rw [HT.out.2],HT.out.1,((HB.out.setCell (Nat.le_refl _) _).setCell (Nat.le_refl _) _).setCell (Nat.le_refl _) _⟩
theorem firstToken_sign (s:ByteArray) (w:World) (hs:s.size≤100000) (h0:0<s.size) (hl:Sp.isLo s[0]=false) (hc:Sp.isDg s[0]=false) (hq:(s[0] == 39)=false):Calls Tryz.prog 74 #[.string s] w (FT s w):=by
 have e:=data_cons s h0
 have hF:=first_sign (r:=s.data.toList.drop 1) hl hc hq
 rw [← e] at hF
 have hne:s.toList.isEmpty=false:=by rw [ByteArray.toList_eq,e];rfl
 have hmax:s.size≤maxLen:=by unfold maxLen;omega
 have hx:Sp.signLen s.data.toList≤s.size:=by rw [← size_data];exact signLen_le _
 have hq' : ((s[0].toNat:Int) == 39)=false:=by have:=u8_eq s[0] 39;rw [hq] at this;exact this
 have hd:(s.extract 0 (Sp.signLen s.data.toList)).toList=s.data.toList.take (Sp.signLen s.data.toList):=by rw [ByteArray.toList_eq,ext_take]
 cases ht:Sp.signLen s.data.toList with
 | zero=>
  rw [ht] at hF
  have hF:Sp.first s.data.toList=(.bad,0):=hF
  have hem:(s.extract 0 (Sp.signLen s.data.toList)).toList.isEmpty=true:=by rw [hd,ht];rfl
  have HT:Hid (TW s.data.toList (ByteArray.mk #[]).toList∧kn (Sp.first s.data.toList).1=1):=by
   rw [mk_nil]
   exact ⟨TW.empty (Or.inr (by rw [hF])) (fun h=>absurd (by rw [hF]) h),by rw [hF];rfl⟩
  clear hF e ht hd
  generalize hn:Sp.signLen s.data.toList=n at *
  have HN:=hid hn
  clear hn
  go_enter Tryz.func74,Tryz.ntmps74
  go_wp2_with fail
  refine (isLetter_any _ _).mono ?_
  rintro r w1 ⟨rfl,rfl⟩
  go_wp2_with fail
  refine (isDigit_any _ _).mono ?_
  rintro r w1 ⟨rfl,rfl⟩
  go_wp2_with fail
  refine (signLength_any _ _ h0 hmax).mono ?_
  rintro r w1 ⟨rfl,rfl⟩
  rw [HN.out]
  go_wp2_with fail
  refine (tokenEmpty_any _ _ _ hem).mono ?_
  rintro r w1 ⟨rfl,hb⟩
  obtain ⟨⟨c0,c1,c2⟩,⟨f0,f1,f2⟩,hsz,hbl⟩:=own3 _ _ _ _ _ _ hb
  have HB:=hid hbl
  clear hb hbl
  go_wp2_with fail
  exact bodyPost_ret (v := .agg #[.int .i64 1, .int .i64 0, .string ⟨#[]⟩]) (by simp [results,Tryz.results74,go_sem,c0,c1,c2]) rfl ⟨_,by rw [HT.out.2],HT.out.1,((HB.out.setCell (Nat.le_refl _) _).setCell (Nat.le_refl _) _).setCell (Nat.le_refl _) _⟩
 | succ k=>
  have hF' : Sp.first s.data.toList=(.key,Sp.signLen s.data.toList):=by rw [hF,ht];rfl
  have hem:(s.extract 0 (Sp.signLen s.data.toList)).toList.isEmpty=false:=by rw [hd,ht,e];rfl
  have HT:Hid (TW s.data.toList (s.extract 0 (Sp.signLen s.data.toList)).toList∧kn (Sp.first s.data.toList).1=2):=by
   refine ⟨?_,by rw [hF'];rfl⟩
   rw [hd]
   have:=TW.key (l:=s.data.toList) (by rw [hF'])
   rw [hF'] at this
   exact this
  clear hF hF' e ht hd
  generalize hn:Sp.signLen s.data.toList=n at *
  have HN:=hid hn
  clear hn
  go_enter Tryz.func74,Tryz.ntmps74
  go_wp2_with fail
  refine (isLetter_any _ _).mono ?_
  rintro r w1 ⟨rfl,rfl⟩
  go_wp2_with fail
  refine (isDigit_any _ _).mono ?_
  rintro r w1 ⟨rfl,rfl⟩
  go_wp2_with fail
  refine (signLength_any _ _ h0 hmax).mono ?_
  rintro r w1 ⟨rfl,rfl⟩
  rw [HN.out]
  go_wp2_with fail
  refine (tokenFull_any _ _ _ hem).mono ?_
  rintro r w1 ⟨rfl,hb⟩
  obtain ⟨⟨c0,c1,c2⟩,⟨f0,f1,f2⟩,hsz,hbl⟩:=own3 _ _ _ _ _ _ hb
  have HB:=hid hbl
  clear hb hbl
  go_wp2_with fail
  exact bodyPost_ret (v := .agg #[.int .i64 2, .int .i64 0, .string (s.extract 0 n)]) (by simp [results,Tryz.results74,go_sem,c0,c1,c2]) rfl ⟨_,by rw [HT.out.2],HT.out.1,((HB.out.setCell (Nat.le_refl _) _).setCell (Nat.le_refl _) _).setCell (Nat.le_refl _) _⟩
theorem firstToken_any (s:ByteArray) (w:World) (hs:s.size≤100000) (hr:VR w):Calls Tryz.prog 74 #[.string s] w (FT s w):=by
 by_cases h0:0<s.size
 ·cases hl:Sp.isLo s[0]
  ·cases hc:Sp.isDg s[0]
   ·cases hq:(s[0] == 39)
    ·exact firstToken_sign s w hs h0 hl hc hq
    ·exact firstToken_txt s w hs h0 hl hc hq
   ·exact firstToken_num s w hs h0 hr hl hc
  ·exact firstToken_word s w hs h0 hl
 ·refine firstToken_nil s w ?_
  rw [ByteArray.toList_eq]
  have:s.data.toList.length=0:=by rw [size_data];omega
  rw [List.length_eq_zero_iff.1 this];rfl
end Go.Proofs.YtgnncnhkgmhngaaGreatDoor
namespace Go.Proofs.YtgnncnhkgmhngaaGreatDoor.Sp
open Go
theorem idx_pair (r:Bs):Lib.index (39::39::r) [39,39]=0:=by simp [Lib.index]
theorem idx_skip (c:UInt8) (t:Bs) (h:([39,39]:Bs).isPrefixOf (c::t)=false):Lib.index (c::t) [39,39]=if Lib.index t [39,39] == -1 then -1 else Lib.index t [39,39]+1:=by
 simp only [Lib.index,h]
 simp
theorem cnt_skip (c:UInt8) (t:Bs) (h:([39,39]:Bs).isPrefixOf (c::t)=false):Lib.count (c::t) [39,39]=Lib.count t [39,39]:=by
 have e:=idx_skip c t h
 by_cases hm:Lib.index t [39,39]=-1
 ·rw [Lib.count_miss hm,Lib.count_miss];rw [e,hm];rfl
 ·obtain ⟨i,hi⟩:∃ i:Nat,Lib.index t [39,39]=i:=⟨(Lib.index t [39,39]).toNat,by have:=Lib.index_ge t [39,39];omega⟩
  rw [Lib.count_hit (i:=i) (by decide) hi,Lib.count_hit (i:=i+1) (by decide) (by rw [e,hi,if_neg (by simp)];rfl)]
  simp
theorem rep_skip (k:Nat) (c:UInt8) (t:Bs) (h:([39,39]:Bs).isPrefixOf (c::t)=false):Lib.replaceK [39,39] [39] k (c::t)=c::Lib.replaceK [39,39] [39] k t:=by
 cases k with
 | zero=>rfl
 | succ k=>
  have e:=idx_skip c t h
  by_cases hm:Lib.index t [39,39]=-1
  ·rw [Lib.replaceK,Lib.replaceK,if_pos (by rw [e,hm];rfl),if_pos (by rw [hm];rfl)]
  ·obtain ⟨i,hi⟩:∃ i:Nat,Lib.index t [39,39]=i:=⟨(Lib.index t [39,39]).toNat,by have:=Lib.index_ge t [39,39];omega⟩
   rw [Lib.replaceK_hit _ _ _ _ (i+1) (by rw [e,hi,if_neg (by simp)];rfl),Lib.replaceK_hit _ _ _ _ i hi]
   simp
theorem rep_unq:∀ l:Bs,Lib.replaceK [39,39] [39] (Lib.count l [39,39]) l=unq l
 | []=>by
  have:Lib.index [] [39,39]=-1:=by decide
  rw [Lib.count_miss this];rfl
 | [c]=>by
  have h:([39,39]:Bs).isPrefixOf [c]=false:=by simp [List.isPrefixOf]
  rw [cnt_skip c [] h,rep_skip _ c [] h]
  have:Lib.index [] [39,39]=-1:=by decide
  rw [Lib.count_miss this];rfl
 | c::c'::r=>by
  cases hp:(c == 39&&c' == 39)
  ·have h:([39,39]:Bs).isPrefixOf (c::c'::r)=false:=by
    simp only [List.isPrefixOf,Bool.and_eq_false_iff] at hp ⊢
    rcases hp with hp | hp
    ·left;rw [Bool.eq_false_iff] at hp ⊢;intro e;exact hp (by rw [beq_iff_eq] at e ⊢;exact e.symm)
    ·right;left;rw [Bool.eq_false_iff] at hp ⊢;intro e;exact hp (by rw [beq_iff_eq] at e ⊢;exact e.symm)
   rw [cnt_skip c _ h,rep_skip _ c _ h,rep_unq (c'::r),unq,hp]
   rfl
  ·simp only [Bool.and_eq_true,beq_iff_eq] at hp
   obtain ⟨rfl,rfl⟩:=hp
   rw [Lib.count_hit (i:=0) (by decide) (idx_pair r),Nat.add_comm 1,Lib.replaceK_hit _ _ _ _ 0 (idx_pair r)]
   have e:(39::39::r:Bs).drop (0+([39,39]:Bs).length)=r:=rfl
   rw [e,rep_unq r,unq]
   rfl
theorem replaceAll_unq (l:Bs):Lib.replaceAll l [39,39] [39]=unq l:=by
 rw [Lib.replaceAll,Lib.replace,if_neg (by decide),Lib.replaceNum,if_pos (Or.inl (by decide)),rep_unq]
end Go.Proofs.YtgnncnhkgmhngaaGreatDoor.Sp
namespace Go.Proofs.YtgnncnhkgmhngaaGreatDoor
open Go.RowKit
theorem num_word {s:Sp.Bs} {e:Nat} (h:Sp.tokCl s e = .num):Sp.tokWord s e ≠ []∧(Sp.tokWord s e).all Sp.isDg=true∧Sp.numVal (Sp.tokWord s e)<9223372036854775808:=by
 unfold Sp.tokCl at h
 unfold Sp.tokWord Sp.tokLen
 generalize s.drop (Sp.tokAt s e)=l at *
 cases l with
 | nil=>simp [Sp.first] at h
 | cons c r=>
  cases h1:Sp.isLo c
  ·cases h2:Sp.isDg c
   ·cases h3:(c == 39)
    ·rw [first_sign h1 h2 h3] at h;split at h <;> cases h
    ·rw [first_txt h1 h2 h3] at h;split at h <;> cases h
   ·rw [first_num h1 h2] at h ⊢
    simp only at h ⊢
    split at h
    ·rename_i hv
     refine ⟨?_,many_all _ _,hv⟩
     have:1≤Sp.many Sp.isDg (c::r):=Sp.many_pos h2
     intro hc
     have:=congrArg List.length hc
     rw [List.length_take] at this
     simp at this
     omega
    ·cases h
  ·rw [first_word h1] at h
   simp only at h
   split at h
   ·cases h
   ·split at h <;> cases h
theorem vint_b (n:Int) (w:World):Calls Tryz.prog 290 #[.int .i64 n] w fun e w'=>e = .returned (enV (Sv.int n))∧Below w.heap.size w w':=by
 go_enter Tryz.func290,Tryz.ntmps290
 go_wp2
 exact bodyPost_ret (v:=enV (Sv.int n)) (by simp [results,Tryz.results290,go_sem];exact ⟨rfl,rfl,rfl⟩) rfl ⟨rfl,(Below.refl _ _).alloc (Nat.le_refl _) _⟩
theorem vtext_b (s:ByteArray) (w:World):Calls Tryz.prog 348 #[.string s] w fun e w'=>e = .returned (enV (Sv.text s))∧Below w.heap.size w w':=by
 go_enter Tryz.func348,Tryz.ntmps348
 go_wp2
 exact bodyPost_ret (v:=enV (Sv.text s)) (by simp [results,Tryz.results348,go_sem];exact ⟨rfl,rfl,rfl⟩) rfl ⟨rfl,(Below.refl _ _).alloc (Nat.le_refl _) _⟩
theorem vnull_b (w:World):Calls Tryz.prog 236 #[] w fun e w'=>e = .returned (enV Sv.null)∧Below w.heap.size w w':=by
 go_enter Tryz.func236,Tryz.ntmps236
 go_wp2
 exact bodyPost_ret (v:=enV Sv.null) (by simp [results,Tryz.results236,go_sem];exact ⟨rfl,rfl,rfl⟩) rfl ⟨rfl,(Below.refl _ _).alloc (Nat.le_refl _) _⟩
theorem vbool_b (t:Bool) (w:World):Calls Tryz.prog 231 #[.bool t] w fun e w'=>e = .returned (enV (Sv.bool t))∧Below w.heap.size w w':=by
 cases t
 all_goals
  go_enter Tryz.func231,Tryz.ntmps231
  go_wp2
 ·exact bodyPost_ret (v:=enV (Sv.bool false)) (by simp [results,Tryz.results231,go_sem];exact ⟨rfl,rfl,rfl⟩) rfl ⟨rfl,(Below.refl _ _).alloc (Nat.le_refl _) _⟩
 ·exact bodyPost_ret (v:=enV (Sv.bool true)) (by simp [results,Tryz.results231,go_sem];exact ⟨rfl,rfl,rfl⟩) rfl ⟨rfl,(Below.refl _ _).alloc (Nat.le_refl _) _⟩
theorem Bk.belowN {w w' : World} {q:Nat} {vs:List Value} (h:Bk w q vs) {n:Nat} (k:Below n w w') (hq:q<n) (hs:w.heap.size≤w'.heap.size):Bk w' q vs:=h.same hs (k.block q hq)
theorem numberOf_any (s:ByteArray) (w:World) (hne:s.data.toList ≠ []) (hd:s.data.toList.all Sp.isDg=true) (hs:s.size≤100000) (hv:Sp.numVal s.data.toList<9223372036854775808) :
  Calls Tryz.prog 341 #[.string s] w fun e w'=>e = .returned (enV (Sv.int (Sp.numVal s.data.toList:Nat)))∧Below w.heap.size w w':=by
 have H:Hid (Lib.parseIntB 64 s.data.toList = .ok (Sp.numVal s.data.toList:Int)):=intB_ok hne hd hv
 clear hne hd
 generalize hnv:(Sp.numVal s.data.toList)=nv at *
 clear hnv
 have HB0:Hid (Bk (w.alloc (.cells #[.int .i64 0, .int .i64 0, .string ⟨#[]⟩] 40)) w.heap.size [.int .i64 0, .int .i64 0, .string ⟨#[]⟩]):=Bk.new _ _ _
 have HL0:Hid (Below w.heap.size w (w.alloc (.cells #[.int .i64 0, .int .i64 0, .string ⟨#[]⟩] 40))):=(Below.refl _ _).alloc (Nat.le_refl _) _
 go_enter Tryz.func341,Tryz.ntmps341
 go_wp2_with fail
 refine (Tryz.strconv_ParseInt_10_at64_ok s (by omega) _ H.out _).mono ?_
 generalize (w.alloc (.cells #[.int .i64 0, .int .i64 0, .string ⟨#[]⟩] 40))=w0 at *
 rintro e w' ⟨rfl,hw⟩
 have hb1:Below w0.heap.size w0 w':=by
  rcases hw with rfl | ⟨t,rfl⟩
  ·exact Below.refl _ _
  ·exact Lib.bytesWorld_below _ _ _
 have HB1:=hid (HB0.out.below hb1)
 have HL1:Hid (Below w.heap.size w w'):=HL0.out.trans (hb1.mono HL0.out.size)
 clear hw hb1 HB0 HL0
 go_wp2_with fail
 refine (vint_b _ _).mono ?_
 rintro e w2 ⟨rfl,hb2⟩
 have hB2:=HB1.out.below hb2
 have HL2:Hid (Below w.heap.size w w2):=HL1.out.trans (hb2.mono HL1.out.size)
 have c0:=hB2.k0
 have c1:=hB2.k1
 have c2:=hB2.k2
 have f0:=hB2.f 0
 have f1:=hB2.f 1
 have f2:=hB2.f 2
 clear hB2 hb2
 go_wp2_with fail
 exact bodyPost_ret (v:=enV (Sv.int (nv:Nat))) (by simp [results,Tryz.results341,go_sem, *]) rfl ⟨rfl,((HL2.out.setCell (Nat.le_refl _) _).setCell (Nat.le_refl _) _).setCell (Nat.le_refl _) _⟩
theorem txtLen_pos:∀ {l:Sp.Bs} {n:Nat},Sp.txtLen l=some n→1≤n:=by
 intro l
 induction l using Sp.txtLen.induct with
 | case1=>intro n h;simp [Sp.txtLen] at h
 | case2=>intro n h;simp_all [Sp.txtLen]
 | case3 c h1 c' r' h2 ih=>
  intro n h
  simp only [Sp.txtLen,h1,h2,if_true] at h
  cases hx:Sp.txtLen r' with
  | none=>rw [hx] at h;simp at h
  | some k=>rw [hx] at h;simp at h;omega
 | case4=>intro n h;simp_all [Sp.txtLen]
 | case5 c r h1 ih=>
  intro n h
  rw [Sp.txtLen.eq_def] at h
  simp only [if_neg h1] at h
  cases hx:Sp.txtLen r with
  | none=>rw [hx] at h;simp at h
  | some k=>rw [hx] at h;simp at h;omega
theorem txt_word {s:Sp.Bs} {e:Nat} (h:Sp.tokCl s e = .txt):2≤(Sp.tokWord s e).length:=by
 unfold Sp.tokCl at h
 unfold Sp.tokWord Sp.tokLen
 generalize s.drop (Sp.tokAt s e)=l at *
 cases l with
 | nil=>simp [Sp.first] at h
 | cons c r=>
  cases h1:Sp.isLo c
  ·cases h2:Sp.isDg c
   ·cases h3:(c == 39)
    ·rw [first_sign h1 h2 h3] at h;split at h <;> cases h
    ·rw [first_txt h1 h2 h3] at h ⊢
     cases ht:Sp.txtLen r with
     | none=>rw [ht] at h;cases h
     | some n=>
      simp only
      have a:=txtLen_pos ht
      have b:=txtLen_le r n ht
      rw [List.length_take]
      simp
      omega
   ·rw [first_num h1 h2] at h
    simp only at h
    split at h <;> cases h
  ·rw [first_word h1] at h
   simp only at h
   split at h
   ·cases h
   ·split at h <;> cases h
def VM (w:World):Prop:=∃ m:Int,w.cell? ⟨5,0,none⟩=some (.int .i64 m)∧5<w.heap.size
theorem VM.below {w w' : World} (h:VM w) (k:Below w.heap.size w w'):VM w':=by
 obtain ⟨m,h1,h2⟩:=h
 exact ⟨m,(k.cell (p:=⟨5,0,none⟩) h2).trans h1,Nat.lt_of_lt_of_le h2 k.size⟩
theorem PS.vmv {b c cap len:Nat} {s:Sp.Bs} {d:Nat} {σ:Sp.St} {w:World} (h:PS b c cap len s d σ w):VM w:=by
 obtain ⟨m,hm⟩:=h.vm
 have h1:=h.h5
 have h2:=h.lc
 exact ⟨m,hm,by omega⟩
theorem VM.kept {b:Nat} {w w' : World} (h:VM w) (k:Kept b w w') (hb:b≠5):VM w':=by
 obtain ⟨m,h1,h2⟩:=h
 exact ⟨m,(k.cell (p:=⟨5,0,none⟩) h2 (Ne.symm hb)).trans h1,Nat.lt_of_lt_of_le h2 k.size⟩
theorem countB_le (s sub:ByteArray):Lib.countB s sub≤s.size+1:=by
 have:=Lib.count_le s.data.toList sub.data.toList
 rw [size_data] at this
 exact this
theorem clone_any (s:ByteArray) (w:World) (hs:s.size≤100000):Calls Tryz.prog 142 #[.string s] w fun e w'=>e = .returned (.string s)∧Below w.heap.size w w':=by
 go_enter Tryz.func142,Tryz.ntmps142
 go_wp2_with fail
 refine (Tryz.stringslite_Clone s _ (by omega)).mono ?_
 rintro e w1 ⟨rfl,hb⟩
 go_wp2_with fail
 go_ret
 exact ⟨rfl,hb⟩
theorem txt_inside (s:ByteArray):(s.extract 1 (s.size - 1)).data.toList=(s.data.toList.drop 1).take (s.data.toList.length - 2):=by
 rw [Lib.extract_data,size_data]
 congr 1
theorem unq_le:∀ l:Sp.Bs,(Sp.unq l).length≤l.length
 | []=>Nat.le_refl _
 | [c]=>Nat.le_refl _
 | c::c'::r=>by
  rw [Sp.unq]
  split
  ·have:=unq_le r;simp;omega
  ·have:=unq_le (c'::r);simp at this ⊢;omega
theorem textOf_any (s:ByteArray) (w:World) (h2:2≤s.size) (hs:s.size≤100000) (hm:VM w) :
  Calls Tryz.prog 342 #[.string s] w fun e w'=>e = .returned (enV (Sv.text ⟨(Sp.txtVal s.data.toList).toArray⟩))∧Below w.heap.size w w':=by
 have HV:Hid (Sp.txtVal s.data.toList=Lib.replaceAll (s.extract 1 (s.size - 1)).data.toList [39,39] [39]):=by
  show _=_
  rw [Sp.replaceAll_unq,txt_inside s];rfl
 have hsz:(s.extract 1 (s.size - 1)).size≤100000:=by
  have:=congrArg List.length (txt_inside s)
  rw [size_data,List.length_take,List.length_drop,size_data] at this
  omega
 have HC:Hid ((s.extract 1 (s.size - 1)).size+Lib.countB (s.extract 1 (s.size - 1)) ⟨#[39,39]⟩*(⟨#[39]⟩:ByteArray).size≤140737488355328):=by
  have:=countB_le (s.extract 1 (s.size - 1)) ⟨#[39,39]⟩
  have e1:(⟨#[39]⟩:ByteArray).size=1:=rfl
  show _≤_
  rw [e1]
  omega
 have HB0:Hid (Bk (w.alloc (.cells #[.int .i64 0, .int .i64 0, .string ⟨#[]⟩] 40)) w.heap.size [.int .i64 0, .int .i64 0, .string ⟨#[]⟩]):=Bk.new _ _ _
 have HL0:Hid (Below w.heap.size w (w.alloc (.cells #[.int .i64 0, .int .i64 0, .string ⟨#[]⟩] 40))):=(Below.refl _ _).alloc (Nat.le_refl _) _
 have HM0:Hid (VM (w.alloc (.cells #[.int .i64 0, .int .i64 0, .string ⟨#[]⟩] 40))):=hm.below ((Below.refl _ _).alloc (Nat.le_refl _) _)
 have HSZ:=hid hsz
 clear hm hsz
 go_enter Tryz.func342,Tryz.ntmps342
 go_wp2_with fail
 obtain ⟨m,hm1,hm2⟩:=HM0.out
 refine (Tryz.strings_ReplaceAll (s.extract 1 (s.size - 1)) ⟨#[39,39]⟩ ⟨#[39]⟩ m _ (by have:=HSZ.out;omega) hm1 (by decide) HC.out).mono ?_
 clear hm1 hm2
 generalize (w.alloc (.cells #[.int .i64 0, .int .i64 0, .string ⟨#[]⟩] 40))=w0 at *
 rintro e w1 ⟨rfl,hb1⟩
 have e0:Lib.replaceAll (s.extract 1 (s.size - 1)).data.toList (⟨#[39,39]⟩:ByteArray).data.toList (⟨#[39]⟩:ByteArray).data.toList=Sp.txtVal s.data.toList:=HV.out.symm
 rw [e0]
 have hle:(⟨(Sp.txtVal s.data.toList).toArray⟩:ByteArray).size≤100000:=by
  show (Sp.txtVal s.data.toList).toArray.size≤100000
  rw [List.size_toArray]
  have a:(Sp.txtVal s.data.toList).length≤((s.data.toList.drop 1).take (s.data.toList.length - 2)).length:=unq_le _
  rw [List.length_take,List.length_drop,size_data] at a
  omega
 have HLE:=hid hle
 clear hle e0
 have HB1:=hid (HB0.out.below hb1)
 have HL1:Hid (Below w.heap.size w w1):=HL0.out.trans (hb1.mono HL0.out.size)
 clear hb1 HB0 HL0 HV HC HSZ
 generalize htv:(⟨(Sp.txtVal s.data.toList).toArray⟩:ByteArray)=tv at *
 have HTV:=hid htv
 clear htv
 go_wp2_with fail
 refine (clone_any _ _ HLE.out).mono ?_
 rintro e w2 ⟨rfl,hb2⟩
 have HB2:=hid (HB1.out.below hb2)
 have HL2:Hid (Below w.heap.size w w2):=HL1.out.trans (hb2.mono HL1.out.size)
 clear hb2
 go_wp2_with fail
 refine (vtext_b _ _).mono ?_
 rintro e w3 ⟨rfl,hb3⟩
 have hB3:=HB2.out.below hb3
 have HL3:Hid (Below w.heap.size w w3):=HL2.out.trans (hb3.mono HL2.out.size)
 have c0:=hB3.k0
 have c1:=hB3.k1
 have c2:=hB3.k2
 have f0:=hB3.f 0
 have f1:=hB3.f 1
 have f2:=hB3.f 2
 clear hB3 hb3
 go_wp2_with fail
 exact bodyPost_ret (v:=enV (Sv.text tv)) (by simp [results,Tryz.results342,go_sem, *]) rfl ⟨by rw [HTV.out],((HL3.out.setCell (Nat.le_refl _) _).setCell (Nat.le_refl _) _).setCell (Nat.le_refl _) _⟩
end Go.Proofs.YtgnncnhkgmhngaaGreatDoor
