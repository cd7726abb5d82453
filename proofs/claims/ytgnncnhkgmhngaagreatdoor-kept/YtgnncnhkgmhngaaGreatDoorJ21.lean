import Derived.Test.YtgnncnhkgmhngaaGreatDoorJ05
set_option maxHeartbeats 1000000
namespace Go.Proofs.YtgnncnhkgmhngaaGreatDoor
open Go.RowKit
structure TW (l:Sp.Bs) (wd:Sp.Bs):Prop where
 eq:(Sp.first l).1 ≠ .bad->wd=l.take (Sp.first l).2
 ok:∀ x∈fixd,(wd == x)=((Sp.first l).1 == .key&&l.take (Sp.first l).2 == x)
theorem fixd_ne:∀ x∈fixd,x ≠ []:=by decide
theorem fixd_head:∀ x∈fixd,Sp.isDg (x.headD 0)=false/\(x.headD 0 == 39)=false:=by decide
theorem fixd_word:∀ x∈fixd,Sp.isLo (x.headD 0)=true->Sp.keys.contains x=true:=by decide
theorem TW.empty {l:Sp.Bs} (h:(Sp.first l).1 = .fin\/(Sp.first l).1 = .bad) (h0:(Sp.first l).1 ≠ .bad->(Sp.first l).2=0):TW l []:=by
 refine ⟨fun hb=>by rw [h0 hb];rfl,fun x hx=>?_⟩
 have:=fixd_ne x hx
 rcases h with h | h <;> rw [h] <;> cases x <;> simp_all
theorem TW.key {l:Sp.Bs} (h:(Sp.first l).1 = .key):TW l (l.take (Sp.first l).2):=
 ⟨fun _=>rfl,fun x _=>by rw [h];simp⟩
theorem TW.head {l:Sp.Bs} {c:UInt8} {r:Sp.Bs} {n:Nat} (hk:(Sp.first l).1 ≠ .key) (hl:l=c::r) (hn:1<=n) (he:(Sp.first l).1 ≠ .bad->n=(Sp.first l).2) (h:∀ x∈fixd,x.headD 0=c->(l.take n == x)=false):TW l (l.take n):=by
 refine ⟨fun hb=>by rw [he hb],fun x hx=>?_⟩
 have e:((Sp.first l).1 == Sp.Cl.key)=false:=by simpa using hk
 rw [e,Bool.false_and]
 by_cases hc:x.headD 0=c
 ·exact h x hx hc
 ·obtain ⟨m,rfl⟩:∃ m,n=m+1:=⟨n - 1,by omega⟩
  rw [hl,List.take_succ_cons]
  cases x with
  | nil=>exact absurd rfl (fixd_ne _ hx)
  | cons y z=>
   simp only [List.headD_cons] at hc
   simp only [List.cons_beq_cons,Bool.and_eq_false_iff]
   exact Or.inl (by simpa using fun e=>hc e.symm)
theorem many_all (p:UInt8->Bool):∀ l:Sp.Bs,(l.take (Sp.many p l)).all p=true
 | []=>rfl
 | c::r=>by
  simp only [Sp.many]
  split
  ·rename_i h
   rw [List.take_succ_cons,List.all_cons,h,many_all p r];rfl
  ·rfl
theorem first_word {c:UInt8} {r:Sp.Bs} (h:Sp.isLo c=true):Sp.first (c::r)=(if Sp.keys.contains ((c::r).take (Sp.many Sp.isWd (c::r))) then .key else if Sp.many Sp.isWd (c::r)<=12 then .name else .bad,Sp.many Sp.isWd (c::r)):=by
 simp only [Sp.first,h,if_true]
 split
 ·rfl
 ·split <;> rfl
theorem first_num {c:UInt8} {r:Sp.Bs} (h:Sp.isLo c=false) (h2:Sp.isDg c=true):Sp.first (c::r)=(if Sp.numVal ((c::r).take (Sp.many Sp.isDg (c::r)))<9223372036854775808 then .num else .bad,Sp.many Sp.isDg (c::r)):=by
 simp only [Sp.first,h,h2,if_true,Bool.false_eq_true,if_false]
 split <;> rfl
theorem first_txt {c:UInt8} {r:Sp.Bs} (h:Sp.isLo c=false) (h2:Sp.isDg c=false) (h3:(c == 39)=true):Sp.first (c::r)=match Sp.txtLen r with | some n=>(.txt,n+1) | none=>(.bad,0):=by
 simp only [Sp.first,h,h2,h3,if_true,Bool.false_eq_true,if_false]
 rfl
theorem first_sign {c:UInt8} {r:Sp.Bs} (h:Sp.isLo c=false) (h2:Sp.isDg c=false) (h3:(c == 39)=false):Sp.first (c::r)=match Sp.signLen (c::r) with | 0=>(.bad,0) | n=>(.key,n):=by
 simp only [Sp.first,h,h2,h3,Bool.false_eq_true,if_false]
 rfl
theorem ext_take (s:ByteArray) (n:Nat):(s.extract 0 n).data.toList=s.data.toList.take n:=by
 rw [Lib.extract_data];simp
theorem size_data (s:ByteArray):s.data.toList.length=s.size:=by simp
def FT (s:ByteArray) (w:World) (e:Ending) (w' : World):Prop:=
 ∃ wd:ByteArray,e = .returned (.agg #[.int .i64 (kn (Sp.first s.data.toList).1), .int .i64 0, .string wd])/\TW s.data.toList wd.toList/\Below w.heap.size w w'
theorem firstToken_nil (s:ByteArray) (w:World) (h:s.toList.isEmpty=true):Calls Tryz.prog 74 #[.string s] w (FT s w):=by
 have hs:s.data.toList = []:=by rw [<- ByteArray.toList_eq];simpa using h
 have H:Hid (kn (Sp.first s.data.toList).1=0/\TW s.data.toList (ByteArray.mk #[]).toList):=by
  rw [hs,ByteArray.toList_mk []]
  exact ⟨rfl,TW.empty (Or.inl rfl) (fun _=>rfl)⟩
 clear hs
 go_enter Tryz.func74,Tryz.ntmps74
 go_wp2_with fail
 exact bodyPost_ret (v := .agg #[.int .i64 0, .int .i64 0, .string ⟨#[]⟩]) (by simp [results,Tryz.results74,go_sem]) rfl ⟨⟨#[]⟩,by rw [H.out.1],H.out.2,(Below.refl _ _).alloc (Nat.le_refl _) _⟩
theorem own3 (w w1:World) (x y z:Value) (t:TypeId) (hb:Below (w.alloc (.cells #[x,y,z] t)).heap.size (w.alloc (.cells #[x,y,z] t)) w1) :
  (w1.cell? ⟨w.heap.size,0,none⟩=some x/\w1.cell? ⟨w.heap.size,1,none⟩=some y/\w1.cell? ⟨w.heap.size,2,none⟩=some z)/\(w1.frozen? ⟨w.heap.size,0,none⟩=false/\w1.frozen? ⟨w.heap.size,1,none⟩=false/\w1.frozen? ⟨w.heap.size,2,none⟩=false)/\w.heap.size<w1.heap.size/\Below w.heap.size w w1:=by
 have hs:w.heap.size+1<=w1.heap.size:=by have:=hb.size;simpa using this
 have hc:∀ o,w1.cell? ⟨w.heap.size,o,none⟩=#[x,y,z][o]?:=fun o=>(hb.cell (p:=⟨w.heap.size,o,none⟩) (by simp)).trans (World.cell?_alloc_new _ _ _ _)
 have hf:∀ o,w1.frozen? ⟨w.heap.size,o,none⟩=(w.alloc (.cells #[x,y,z] t)).frozen? ⟨w.heap.size,o,none⟩:=fun o=>hb.frozen (p:=⟨w.heap.size,o,none⟩) (by simp)
 refine ⟨⟨hc 0,hc 1,hc 2⟩,⟨(hf 0).trans ?_,(hf 1).trans ?_,(hf 2).trans ?_⟩,by omega,((Below.refl _ _).alloc (Nat.le_refl _) _).trans (hb.mono (by simp))⟩ <;> go_simp
theorem signLen_le:∀ l:Sp.Bs,Sp.signLen l<=l.length
 | []=>Nat.le_refl _
 | [c]=>by simp only [Sp.signLen];split <;> simp
 | c::c'::r=>by
  simp only [Sp.signLen,List.length_cons]
  split
  ·omega
  ·split <;> omega
theorem mk_nil:(ByteArray.mk #[]).toList = []:=ByteArray.toList_mk []
theorem firstToken_word (s:ByteArray) (w:World) (hs:s.size<=100000) (h0:0<s.size) (hc:Sp.isLo s[0]=true):Calls Tryz.prog 74 #[.string s] w (FT s w):=by
 have e:=data_cons s h0
 have hF:=first_word (r:=s.data.toList.drop 1) hc
 rw [<- e] at hF
 have hm:Sp.many Sp.isWd s.data.toList<=s.size:=by have:=many_le Sp.isWd s.data.toList;rwa [size_data] at this
 have h1:1<=Sp.many Sp.isWd s.data.toList:=by rw [e];exact Sp.many_pos (by simp [Sp.isWd,hc])
 have hne:s.toList.isEmpty=false:=by rw [ByteArray.toList_eq,e];rfl
 have hd:(s.extract 0 (Sp.many Sp.isWd s.data.toList)).toList=s.data.toList.take (Sp.many Sp.isWd s.data.toList):=by rw [ByteArray.toList_eq,ext_take]
 have hz:(s.extract 0 (Sp.many Sp.isWd s.data.toList)).size=Sp.many Sp.isWd s.data.toList:=by rw [<- size_data,ext_take,List.length_take,size_data];omega
 have HCl:Hid ((Sp.first s.data.toList).1=if isKy (s.extract 0 (Sp.many Sp.isWd s.data.toList)).toList then .key else if (s.extract 0 (Sp.many Sp.isWd s.data.toList)).size<=12 then .name else .bad):=by
  show _=_;rw [hF,hd,hz];rfl
 have HT:Hid (TW s.data.toList (s.extract 0 (Sp.many Sp.isWd s.data.toList)).toList):=by
  show TW _ _
  rw [hd]
  have h2:(Sp.first s.data.toList).2=Sp.many Sp.isWd s.data.toList:=by rw [hF]
  cases hk:Sp.keys.contains (s.data.toList.take (Sp.many Sp.isWd s.data.toList))
  ·refine TW.head ?_ e h1 (fun _=>h2.symm) ?_
   ·rw [hF,hk];simp only [Bool.false_eq_true,if_false];split <;> decide
   ·intro x hx hcx
    have:=fixd_word x hx (by rw [hcx];exact hc)
    cases hb:(s.data.toList.take (Sp.many Sp.isWd s.data.toList) == x)
    ·rfl
    ·rw [eq_of_beq hb,this] at hk;cases hk
  ·have:=TW.key (l:=s.data.toList) (by rw [hF,hk];rfl)
   rw [h2] at this
   exact this
 clear hF hd hz e h1
 generalize hn:Sp.many Sp.isWd s.data.toList=n at *
 have HN:=hid hn
 clear hn
 have hmax:s.size<=maxLen:=by unfold maxLen;omega
 go_enter Tryz.func74,Tryz.ntmps74
 go_wp2_with fail
 refine (isLetter_any _ _).mono ?_
 rintro r w1 ⟨rfl,rfl⟩
 go_wp2_with fail
 refine (countWord_any _ _ hmax).mono ?_
 rintro r w1 ⟨rfl,rfl⟩
 rw [HN.out]
 go_wp2_with fail
 refine (wordKind_any _ _ _ HCl).mono ?_
 rintro r w1 ⟨rfl,rfl⟩
 go_wp2_with fail
 exact bodyPost_ret (v := .agg #[.int .i64 (kn (Sp.first s.data.toList).1), .int .i64 0, .string (s.extract 0 n)]) (by simp [results,Tryz.results74,go_sem]) rfl ⟨_,rfl,HT.out,(Below.refl _ _).alloc (Nat.le_refl _) _⟩
theorem firstToken_num (s:ByteArray) (w:World) (hs:s.size<=100000) (h0:0<s.size) (hr:VR w) (hl:Sp.isLo s[0]=false) (hc:Sp.isDg s[0]=true):Calls Tryz.prog 74 #[.string s] w (FT s w):=by
 have e:=data_cons s h0
 have hF:=first_num (r:=s.data.toList.drop 1) hl hc
 rw [<- e] at hF
 have hm:Sp.many Sp.isDg s.data.toList<=s.size:=by have:=many_le Sp.isDg s.data.toList;rwa [size_data] at this
 have h1:1<=Sp.many Sp.isDg s.data.toList:=by rw [e];exact Sp.many_pos hc
 have hne:s.toList.isEmpty=false:=by rw [ByteArray.toList_eq,e];rfl
 have hd:(s.extract 0 (Sp.many Sp.isDg s.data.toList)).data.toList=s.data.toList.take (Sp.many Sp.isDg s.data.toList):=ext_take _ _
 have hz:(s.extract 0 (Sp.many Sp.isDg s.data.toList)).size=Sp.many Sp.isDg s.data.toList:=by rw [<- size_data,ext_take,List.length_take,size_data];omega
 have HT:Hid (TW s.data.toList (s.extract 0 (Sp.many Sp.isDg s.data.toList)).toList):=by
  show TW _ _
  rw [ByteArray.toList_eq,hd]
  have h2:(Sp.first s.data.toList).2=Sp.many Sp.isDg s.data.toList:=by rw [hF]
  refine TW.head ?_ e h1 (fun _=>h2.symm) ?_
  ·rw [hF];dsimp only;split <;> decide
  ·intro x hx hcx
   have:=(fixd_head x hx).1
   rw [hcx,hc] at this
   cases this
 have ha:(s.extract 0 (Sp.many Sp.isDg s.data.toList)).data.toList.all Sp.isDg=true:=by rw [hd];exact many_all _ _
 have hnn:(s.extract 0 (Sp.many Sp.isDg s.data.toList)).data.toList ≠ []:=by
  intro h
  have:=congrArg List.length h
  rw [size_data,hz] at this
  simp at this;omega
 have hsz:(s.extract 0 (Sp.many Sp.isDg s.data.toList)).size<=100000:=by omega
 have hmax:s.size<=maxLen:=by unfold maxLen;omega
 have hr1:∀ o,VR (w.alloc o):=fun o=>by
  obtain ⟨te,pe,x,y⟩:=hr
  exact ⟨te,pe,(World.cell?_alloc_lt _ _ _ (by exact y)).trans x,by simp;omega⟩
 have HR1:=hid hr1
 clear hr1 hr
 by_cases hv:Sp.numVal (s.extract 0 (Sp.many Sp.isDg s.data.toList)).data.toList<9223372036854775808
 ·have HCl:Hid (kn (Sp.first s.data.toList).1=kn .num):=by
   show _=_;rw [hF,<- hd,if_pos hv]
  have HA:=numberKind_ok (s.extract 0 (Sp.many Sp.isDg s.data.toList)) (hne:=hnn) (hd:=ha) (hs:=hsz) (hv:=hv)
  have HNK:Hid (∀ w,Calls Tryz.prog 118 #[.string (s.extract 0 (Sp.many Sp.isDg s.data.toList))] w fun e w'=>e = .returned (.int .i64 (kn .num))/\Below w.heap.size w w'):=fun w=>HA w
  clear hF hd hz e h1 HA hnn ha hv hsz
  generalize hn:Sp.many Sp.isDg s.data.toList=n at *
  have HN:=hid hn
  clear hn
  go_enter Tryz.func74,Tryz.ntmps74
  go_wp2_with fail
  refine (isLetter_any _ _).mono ?_
  rintro r w1 ⟨rfl,rfl⟩
  go_wp2_with fail
  refine (isDigit_any _ _).mono ?_
  rintro r w1 ⟨rfl,rfl⟩
  go_wp2_with fail
  refine (countDigit_any _ _ hmax).mono ?_
  rintro r w1 ⟨rfl,rfl⟩
  rw [HN.out]
  go_wp2_with fail
  refine (HNK.out _).mono ?_
  rintro r w1 ⟨rfl,hb⟩
  obtain ⟨⟨c0,c1,c2⟩,⟨f0,f1,f2⟩,hsz,hbl⟩:=own3 _ _ _ _ _ _ hb
  have HB:=hid hbl
  clear hb hbl
  go_wp2_with fail
  exact bodyPost_ret (v := .agg #[.int .i64 (kn .num), .int .i64 0, .string (s.extract 0 n)]) (by simp [results,Tryz.results74,go_sem,c0,c1,c2]) rfl ⟨_,by rw [HCl.out],HT.out,((HB.out.setCell (Nat.le_refl _) _).setCell (Nat.le_refl _) _).setCell (Nat.le_refl _) _⟩
 ·have HCl:Hid (kn (Sp.first s.data.toList).1=kn .bad):=by
   show _=_;rw [hF,<- hd,if_neg hv]
  have HA:=fun w=>numberKind_bad (s.extract 0 (Sp.many Sp.isDg s.data.toList)) w hnn ha hsz hv
  have HNK:Hid (∀ w,VR w->Calls Tryz.prog 118 #[.string (s.extract 0 (Sp.many Sp.isDg s.data.toList))] w fun e w'=>e = .returned (.int .i64 (kn .bad))/\Below w.heap.size w w'):=fun w h=>HA w h
  clear hF hd hz e h1 HA hnn ha hv hsz
  generalize hn:Sp.many Sp.isDg s.data.toList=n at *
  have HN:=hid hn
  clear hn
  go_enter Tryz.func74,Tryz.ntmps74
  go_wp2_with fail
  refine (isLetter_any _ _).mono ?_
  rintro r w1 ⟨rfl,rfl⟩
  go_wp2_with fail
  refine (isDigit_any _ _).mono ?_
  rintro r w1 ⟨rfl,rfl⟩
  go_wp2_with fail
  refine (countDigit_any _ _ hmax).mono ?_
  rintro r w1 ⟨rfl,rfl⟩
  rw [HN.out]
  go_wp2_with fail
  refine (HNK.out _ (HR1.out _)).mono ?_
  rintro r w1 ⟨rfl,hb⟩
  obtain ⟨⟨c0,c1,c2⟩,⟨f0,f1,f2⟩,hsz,hbl⟩:=own3 _ _ _ _ _ _ hb
  have HB:=hid hbl
  clear hb hbl
  go_wp2_with fail
  exact bodyPost_ret (v := .agg #[.int .i64 (kn .bad), .int .i64 0, .string (s.extract 0 n)]) (by simp [results,Tryz.results74,go_sem,c0,c1,c2]) rfl ⟨_,by rw [HCl.out],HT.out,((HB.out.setCell (Nat.le_refl _) _).setCell (Nat.le_refl _) _).setCell (Nat.le_refl _) _⟩
theorem firstToken_txt (s:ByteArray) (w:World) (hs:s.size<=100000) (h0:0<s.size) (hl:Sp.isLo s[0]=false) (hc:Sp.isDg s[0]=false) (hq:(s[0] == 39)=true):Calls Tryz.prog 74 #[.string s] w (FT s w):=by
 have e:=data_cons s h0
 have hF:=first_txt (r:=s.data.toList.drop 1) hl hc hq
 rw [<- e] at hF
 have hne:s.toList.isEmpty=false:=by rw [ByteArray.toList_eq,e];rfl
 have hmax:s.size<=maxLen:=by unfold maxLen;omega
 have hx:txr s 1<=s.size:=txr_le s 1 (by omega)
 have hq' : ((s[0].toNat:Int) == 39)=true:=by have:=u8_eq s[0] 39;rw [hq] at this;exact this
 have hd:(s.extract 0 (txr s 1)).toList=s.data.toList.take (txr s 1):=by rw [ByteArray.toList_eq,ext_take]
 cases ht:Sp.txtLen (s.data.toList.drop 1) with
 | none=>
  rw [ht] at hF
  have hz:txr s 1=0:=by unfold txr;rw [ht]
  have hem:(s.extract 0 (txr s 1)).toList.isEmpty=true:=by rw [hd,hz];rfl
  have HT:Hid (TW s.data.toList (ByteArray.mk #[]).toList/\kn (Sp.first s.data.toList).1=1):=by
   rw [mk_nil]
   exact ⟨TW.empty (Or.inr (by rw [hF])) (fun h=>absurd (by rw [hF]) h),by rw [hF];rfl⟩
  clear hF e ht hd hz
  generalize hn:txr s 1=n at *
  have HN:=hid hn
  clear hn
  go_enter Tryz.func74,Tryz.ntmps74
  go_wp2_with fail
  refine (isLetter_any _ _).mono ?_
  rintro r w1 ⟨rfl,rfl⟩
  go_wp2_with fail
  refine (isDigit_any _ _).mono ?_
  rintro r w1 ⟨rfl,rfl⟩
  go_wp2_with fail
  refine (textLength_any _ _ h0 hmax).mono ?_
  rintro r w1 ⟨rfl,rfl⟩
  rw [HN.out]
  go_wp2_with fail
  refine (tokenEmpty_any _ _ _ hem).mono ?_
  rintro r w1 ⟨rfl,hb⟩
  obtain ⟨⟨c0,c1,c2⟩,⟨f0,f1,f2⟩,hsz,hbl⟩:=own3 _ _ _ _ _ _ hb
  have HB:=hid hbl
  clear hb hbl
  go_wp2_with fail
  exact bodyPost_ret (v := .agg #[.int .i64 1, .int .i64 0, .string ⟨#[]⟩]) (by simp [results,Tryz.results74,go_sem,c0,c1,c2]) rfl ⟨_,by rw [HT.out.2],HT.out.1,((HB.out.setCell (Nat.le_refl _) _).setCell (Nat.le_refl _) _).setCell (Nat.le_refl _) _⟩
 | some k=>
  rw [ht] at hF
  have hz:txr s 1=1+k:=by unfold txr;rw [ht]
  have hem:(s.extract 0 (txr s 1)).toList.isEmpty=false:=by rw [hd,hz,e,Nat.add_comm];rfl
  have HT:Hid (TW s.data.toList (s.extract 0 (txr s 1)).toList/\kn (Sp.first s.data.toList).1=5):=by
   refine ⟨?_,by rw [hF];rfl⟩
   rw [hd]
   refine TW.head (by rw [hF];simp) e (by omega) (fun _=>by rw [hF];dsimp only;omega) ?_
   intro x hx hcx
   have:=(fixd_head x hx).2
   rw [hcx,hq] at this
   cases this
  clear hF e ht hd hz
  generalize hn:txr s 1=n at *
  have HN:=hid hn
  clear hn
  go_enter Tryz.func74,Tryz.ntmps74
  go_wp2_with fail
  refine (isLetter_any _ _).mono ?_
  rintro r w1 ⟨rfl,rfl⟩
  go_wp2_with fail
  refine (isDigit_any _ _).mono ?_
  rintro r w1 ⟨rfl,rfl⟩
  go_wp2_with fail
  refine (textLength_any _ _ h0 hmax).mono ?_
  rintro r w1 ⟨rfl,rfl⟩
  rw [HN.out]
  go_wp2_with fail
  refine (tokenFull_any _ _ _ hem).mono ?_
  rintro r w1 ⟨rfl,hb⟩
  obtain ⟨⟨c0,c1,c2⟩,⟨f0,f1,f2⟩,hsz,hbl⟩:=own3 _ _ _ _ _ _ hb
  have HB:=hid hbl
  clear hb hbl
  go_wp2_with fail
  exact bodyPost_ret (v := .agg #[.int .i64 5, .int .i64 0, .string (s.extract 0 n)]) (by simp [results,Tryz.results74,go_sem,c0,c1,c2]) rfl ⟨_,by rw [HT.out.2],HT.out.1,((HB.out.setCell (Nat.le_refl _) _).setCell (Nat.le_refl _) _).setCell (Nat.le_refl _) _⟩
theorem firstToken_sign (s:ByteArray) (w:World) (hs:s.size<=100000) (h0:0<s.size) (hl:Sp.isLo s[0]=false) (hc:Sp.isDg s[0]=false) (hq:(s[0] == 39)=false):Calls Tryz.prog 74 #[.string s] w (FT s w):=by
 have e:=data_cons s h0
 have hF:=first_sign (r:=s.data.toList.drop 1) hl hc hq
 rw [<- e] at hF
 have hne:s.toList.isEmpty=false:=by rw [ByteArray.toList_eq,e];rfl
 have hmax:s.size<=maxLen:=by unfold maxLen;omega
 have hx:Sp.signLen s.data.toList<=s.size:=by rw [<- size_data];exact signLen_le _
 have hq' : ((s[0].toNat:Int) == 39)=false:=by have:=u8_eq s[0] 39;rw [hq] at this;exact this
 have hd:(s.extract 0 (Sp.signLen s.data.toList)).toList=s.data.toList.take (Sp.signLen s.data.toList):=by rw [ByteArray.toList_eq,ext_take]
 cases ht:Sp.signLen s.data.toList with
 | zero=>
  rw [ht] at hF
  have hF:Sp.first s.data.toList=(.bad,0):=hF
  have hem:(s.extract 0 (Sp.signLen s.data.toList)).toList.isEmpty=true:=by rw [hd,ht];rfl
  have HT:Hid (TW s.data.toList (ByteArray.mk #[]).toList/\kn (Sp.first s.data.toList).1=1):=by
   rw [mk_nil]
   exact ⟨TW.empty (Or.inr (by rw [hF])) (fun h=>absurd (by rw [hF]) h),by rw [hF];rfl⟩
  clear hF e ht hd
  generalize hn:Sp.signLen s.data.toList=n at *
  have HN:=hid hn
  clear hn
  go_enter Tryz.func74,Tryz.ntmps74
  go_wp2_with fail
  refine (isLetter_any _ _).mono ?_
  rintro r w1 ⟨rfl,rfl⟩
  go_wp2_with fail
  refine (isDigit_any _ _).mono ?_
  rintro r w1 ⟨rfl,rfl⟩
  go_wp2_with fail
  refine (signLength_any _ _ h0 hmax).mono ?_
  rintro r w1 ⟨rfl,rfl⟩
  rw [HN.out]
  go_wp2_with fail
  refine (tokenEmpty_any _ _ _ hem).mono ?_
  rintro r w1 ⟨rfl,hb⟩
  obtain ⟨⟨c0,c1,c2⟩,⟨f0,f1,f2⟩,hsz,hbl⟩:=own3 _ _ _ _ _ _ hb
  have HB:=hid hbl
  clear hb hbl
  go_wp2_with fail
  exact bodyPost_ret (v := .agg #[.int .i64 1, .int .i64 0, .string ⟨#[]⟩]) (by simp [results,Tryz.results74,go_sem,c0,c1,c2]) rfl ⟨_,by rw [HT.out.2],HT.out.1,((HB.out.setCell (Nat.le_refl _) _).setCell (Nat.le_refl _) _).setCell (Nat.le_refl _) _⟩
 | succ k=>
  have hF' : Sp.first s.data.toList=(.key,Sp.signLen s.data.toList):=by rw [hF,ht];rfl
  have hem:(s.extract 0 (Sp.signLen s.data.toList)).toList.isEmpty=false:=by rw [hd,ht,e];rfl
  have HT:Hid (TW s.data.toList (s.extract 0 (Sp.signLen s.data.toList)).toList/\kn (Sp.first s.data.toList).1=2):=by
   refine ⟨?_,by rw [hF'];rfl⟩
   rw [hd]
   have:=TW.key (l:=s.data.toList) (by rw [hF'])
   rw [hF'] at this
   exact this
  clear hF hF' e ht hd
  generalize hn:Sp.signLen s.data.toList=n at *
  have HN:=hid hn
  clear hn
  go_enter Tryz.func74,Tryz.ntmps74
  go_wp2_with fail
  refine (isLetter_any _ _).mono ?_
  rintro r w1 ⟨rfl,rfl⟩
  go_wp2_with fail
  refine (isDigit_any _ _).mono ?_
  rintro r w1 ⟨rfl,rfl⟩
  go_wp2_with fail
  refine (signLength_any _ _ h0 hmax).mono ?_
  rintro r w1 ⟨rfl,rfl⟩
  rw [HN.out]
  go_wp2_with fail
  refine (tokenFull_any _ _ _ hem).mono ?_
  rintro r w1 ⟨rfl,hb⟩
  obtain ⟨⟨c0,c1,c2⟩,⟨f0,f1,f2⟩,hsz,hbl⟩:=own3 _ _ _ _ _ _ hb
  have HB:=hid hbl
  clear hb hbl
  go_wp2_with fail
  exact bodyPost_ret (v := .agg #[.int .i64 2, .int .i64 0, .string (s.extract 0 n)]) (by simp [results,Tryz.results74,go_sem,c0,c1,c2]) rfl ⟨_,by rw [HT.out.2],HT.out.1,((HB.out.setCell (Nat.le_refl _) _).setCell (Nat.le_refl _) _).setCell (Nat.le_refl _) _⟩
theorem firstToken_any (s:ByteArray) (w:World) (hs:s.size<=100000) (hr:VR w):Calls Tryz.prog 74 #[.string s] w (FT s w):=by
 by_cases h0:0<s.size
 ·cases hl:Sp.isLo s[0]
  ·cases hc:Sp.isDg s[0]
   ·cases hq:(s[0] == 39)
    ·exact firstToken_sign s w hs h0 hl hc hq
    ·exact firstToken_txt s w hs h0 hl hc hq
   ·exact firstToken_num s w hs h0 hr hl hc
  ·exact firstToken_word s w hs h0 hl
 ·refine firstToken_nil s w ?_
  rw [ByteArray.toList_eq]
  have:s.data.toList.length=0:=by rw [size_data];omega
  rw [List.length_eq_zero_iff.1 this];rfl
end Go.Proofs.YtgnncnhkgmhngaaGreatDoor
