import Derived.Test.YtgnncnhkgmhngaaGreatDoorJ01
import Derived.WalkSpells
import Derived.WalkLawsBesides
import Derived.Lib.Strings
import Derived.Test.YtgnncnhkgmhngaaGreatDoorJ03
import Derived.Lib.AtoiErrMem
set_option maxHeartbeats 2000000
namespace Go.Proofs.YtgnncnhkgmhngaaGreatDoor
open Go.RowKit
theorem u8_eq (c:UInt8) (k:UInt8):((c.toNat:Int) == (k.toNat:Int))=(c == k):=by
 rw [Bool.eq_iff_iff];simp only [beq_iff_eq]
 constructor
 ·intro h;exact UInt8.toNat_inj.1 (by omega)
 ·intro h;rw [h]
theorem ret_bool {a b:Bool} (h:a=b):Ending.returned (.bool a) = .returned (.bool b):=by rw [h]
theorem ret_int {k:IntKind} {a b:Int} (h:a=b):Ending.returned (.int k a) = .returned (.int k b):=by rw [h]
theorem isSpace_any (c:UInt8) (w:World) :
  Calls Tryz.prog 73 #[.int .u8 (c.toNat:Int)] w fun e w'=>e = .returned (.bool (Sp.isSp c))/\w'=w:=by
 have e1:=u8_eq c 32
 have e2:=u8_eq c 10
 have E:Hid (Sp.isSp c=(((c.toNat:Int) == 32)||((c.toNat:Int) == 10))):=by
  show Sp.isSp c=_
  rw [Sp.isSp,<- e1,<- e2];rfl
 clear e1 e2
 go_enter Tryz.func73,Tryz.ntmps73
 go_wp2
 all_goals go_ret
 all_goals exact ⟨ret_bool (by rw [E.out];first | done | (simp [*];done)),rfl⟩
theorem isLetter_any (c:UInt8) (w:World) :
  Calls Tryz.prog 114 #[.int .u8 (c.toNat:Int)] w fun e w'=>e = .returned (.bool (Sp.isLo c))/\w'=w:=by
 have E:Hid (Sp.isLo c=(decide (97<=(c.toNat:Int))&&decide ((c.toNat:Int)<=122))):=by
  show Sp.isLo c=_
  rw [Sp.isLo,Bool.eq_iff_iff];simp [UInt8.le_iff_toNat_le];omega
 go_enter Tryz.func114,Tryz.ntmps114
 go_wp2
 all_goals go_ret
 all_goals exact ⟨ret_bool (by rw [E.out];first | (simp [*];done) | (simp;omega)),rfl⟩
theorem isDigit_any (c:UInt8) (w:World) :
  Calls Tryz.prog 117 #[.int .u8 (c.toNat:Int)] w fun e w'=>e = .returned (.bool (Sp.isDg c))/\w'=w:=by
 have E:Hid (Sp.isDg c=(decide (48<=(c.toNat:Int))&&decide ((c.toNat:Int)<=57))):=by
  show Sp.isDg c=_
  rw [Sp.isDg,Bool.eq_iff_iff];simp [UInt8.le_iff_toNat_le];omega
 go_enter Tryz.func117,Tryz.ntmps117
 go_wp2
 all_goals go_ret
 all_goals exact ⟨ret_bool (by rw [E.out];first | (simp [*];done) | (simp;omega)),rfl⟩
theorem isWordByte_any (c:UInt8) (w:World) :
  Calls Tryz.prog 115 #[.int .u8 (c.toNat:Int)] w fun e w'=>e = .returned (.bool (Sp.isWd c))/\w'=w:=by
 have e1:=u8_eq c 95
 have E:Hid (Sp.isWd c=(Sp.isLo c||Sp.isDg c||((c.toNat:Int) == 95))):=by
  show Sp.isWd c=_
  rw [Sp.isWd,<- e1];rfl
 clear e1
 go_enter Tryz.func115,Tryz.ntmps115
 go_wp2_with (first | (go_at_call 114;refine (isLetter_any _ _).mono ?_;rintro e w' ⟨rfl,rfl⟩) | (go_at_call 117;refine (isDigit_any _ _).mono ?_;rintro e w' ⟨rfl,rfl⟩))
 all_goals go_ret
 all_goals exact ⟨ret_bool (by rw [E.out];first | done | (simp [*];done)),rfl⟩
theorem many_le (p:UInt8->Bool):∀ l:Sp.Bs,Sp.many p l<=l.length
 | []=>by simp [Sp.many]
 | c::r=>by have:=many_le p r;simp only [Sp.many,List.length_cons];split <;> omega
theorem many_step (p:UInt8->Bool) (s:ByteArray) (k:Nat) (h:k<s.size) (hp:p s[k]=true):Sp.many p (s.data.toList.drop k)=Sp.many p (s.data.toList.drop (k+1))+1:=by
 have hk:k<s.data.toList.length:=by simpa using h
 rw [List.drop_eq_getElem_cons hk,Sp.many]
 have:s.data.toList[k]=s[k]:=rfl
 rw [this,hp];rfl
theorem many_stop (p:UInt8->Bool) (s:ByteArray) (k:Nat) (h:k<s.size) (hp:p s[k]=false):Sp.many p (s.data.toList.drop k)=0:=by
 have hk:k<s.data.toList.length:=by simpa using h
 rw [List.drop_eq_getElem_cons hk,Sp.many]
 have:s.data.toList[k]=s[k]:=rfl
 rw [this,hp];rfl
theorem many_end (p:UInt8->Bool) (s:ByteArray) (k:Nat) (h:s.size<=k):Sp.many p (s.data.toList.drop k)=0:=by
 rw [List.drop_of_length_le (by simpa using h)];rfl
theorem countSpace_any (s:ByteArray) (w:World) (hs:s.size<=maxLen) :
  Calls Tryz.prog 72 #[.string s, .func (.func 73) #[] #[]] w fun e w'=>e = .returned (.int .i64 (Sp.many Sp.isSp s.data.toList:Nat))/\w'=w:=by
 unfold maxLen at hs
 go_enter Tryz.func72,Tryz.ntmps72
 go_wp2_with fail
 go_loop [5] (fun i=>∃ k:Nat,k<=s.size/\i = .int .i64 k/\Hid (Sp.many Sp.isSp s.data.toList=k+Sp.many Sp.isSp (s.data.toList.drop k))) (fun i=>s.size - (intOf i).toNat)
 case atStart=>exact ⟨0,Nat.zero_le _,rfl,by show _=_;simp⟩
 case round=>
  obtain ⟨k,hk,rfl,HR⟩:=hrel
  by_cases hlt:k<s.size
  ·cases hp:Sp.isSp s[k]
   ·have H0:Hid (Sp.many Sp.isSp (s.data.toList.drop k)=0):=many_stop _ s k hlt hp
    go_wp2_with (go_at_call 73;refine (isSpace_any _ _).mono ?_;rintro e w' ⟨rfl,rfl⟩)
    go_ret
    exact ⟨ret_int (by have a:=HR.out;have b:=H0.out;omega),rfl⟩
   ·have H0:Hid (Sp.many Sp.isSp (s.data.toList.drop k)=Sp.many Sp.isSp (s.data.toList.drop (k+1))+1):=many_step _ s k hlt hp
    go_wp2_with (go_at_call 73;refine (isSpace_any _ _).mono ?_;rintro e w' ⟨rfl,rfl⟩)
    go_round
    case rel=>exact ⟨k+1,by omega,by go_num,by have a:=HR.out;have b:=H0.out;show _=_;omega⟩
    case measure=>simp [intOf];omega
  ·have H0:Hid (Sp.many Sp.isSp (s.data.toList.drop k)=0):=many_end _ s k (by omega)
   go_wp2_with fail
   go_ret
   exact ⟨ret_int (by have a:=HR.out;have b:=H0.out;omega),rfl⟩
theorem countWord_any (s:ByteArray) (w:World) (hs:s.size<=maxLen) :
  Calls Tryz.prog 72 #[.string s, .func (.func 115) #[] #[]] w fun e w'=>e = .returned (.int .i64 (Sp.many Sp.isWd s.data.toList:Nat))/\w'=w:=by
 unfold maxLen at hs
 go_enter Tryz.func72,Tryz.ntmps72
 go_wp2_with fail
 go_loop [5] (fun i=>∃ k:Nat,k<=s.size/\i = .int .i64 k/\Hid (Sp.many Sp.isWd s.data.toList=k+Sp.many Sp.isWd (s.data.toList.drop k))) (fun i=>s.size - (intOf i).toNat)
 case atStart=>exact ⟨0,Nat.zero_le _,rfl,by show _=_;simp⟩
 case round=>
  obtain ⟨k,hk,rfl,HR⟩:=hrel
  by_cases hlt:k<s.size
  ·cases hp:Sp.isWd s[k]
   ·have H0:Hid (Sp.many Sp.isWd (s.data.toList.drop k)=0):=many_stop _ s k hlt hp
    go_wp2_with (go_at_call 115;refine (isWordByte_any _ _).mono ?_;rintro e w' ⟨rfl,rfl⟩)
    go_ret
    exact ⟨ret_int (by have a:=HR.out;have b:=H0.out;omega),rfl⟩
   ·have H0:Hid (Sp.many Sp.isWd (s.data.toList.drop k)=Sp.many Sp.isWd (s.data.toList.drop (k+1))+1):=many_step _ s k hlt hp
    go_wp2_with (go_at_call 115;refine (isWordByte_any _ _).mono ?_;rintro e w' ⟨rfl,rfl⟩)
    go_round
    case rel=>exact ⟨k+1,by omega,by go_num,by have a:=HR.out;have b:=H0.out;show _=_;omega⟩
    case measure=>simp [intOf];omega
  ·have H0:Hid (Sp.many Sp.isWd (s.data.toList.drop k)=0):=many_end _ s k (by omega)
   go_wp2_with fail
   go_ret
   exact ⟨ret_int (by have a:=HR.out;have b:=H0.out;omega),rfl⟩
theorem countDigit_any (s:ByteArray) (w:World) (hs:s.size<=maxLen) :
  Calls Tryz.prog 72 #[.string s, .func (.func 117) #[] #[]] w fun e w'=>e = .returned (.int .i64 (Sp.many Sp.isDg s.data.toList:Nat))/\w'=w:=by
 unfold maxLen at hs
 go_enter Tryz.func72,Tryz.ntmps72
 go_wp2_with fail
 go_loop [5] (fun i=>∃ k:Nat,k<=s.size/\i = .int .i64 k/\Hid (Sp.many Sp.isDg s.data.toList=k+Sp.many Sp.isDg (s.data.toList.drop k))) (fun i=>s.size - (intOf i).toNat)
 case atStart=>exact ⟨0,Nat.zero_le _,rfl,by show _=_;simp⟩
 case round=>
  obtain ⟨k,hk,rfl,HR⟩:=hrel
  by_cases hlt:k<s.size
  ·cases hp:Sp.isDg s[k]
   ·have H0:Hid (Sp.many Sp.isDg (s.data.toList.drop k)=0):=many_stop _ s k hlt hp
    go_wp2_with (go_at_call 117;refine (isDigit_any _ _).mono ?_;rintro e w' ⟨rfl,rfl⟩)
    go_ret
    exact ⟨ret_int (by have a:=HR.out;have b:=H0.out;omega),rfl⟩
   ·have H0:Hid (Sp.many Sp.isDg (s.data.toList.drop k)=Sp.many Sp.isDg (s.data.toList.drop (k+1))+1):=many_step _ s k hlt hp
    go_wp2_with (go_at_call 117;refine (isDigit_any _ _).mono ?_;rintro e w' ⟨rfl,rfl⟩)
    go_round
    case rel=>exact ⟨k+1,by omega,by go_num,by have a:=HR.out;have b:=H0.out;show _=_;omega⟩
    case measure=>simp [intOf];omega
  ·have H0:Hid (Sp.many Sp.isDg (s.data.toList.drop k)=0):=many_end _ s k (by omega)
   go_wp2_with fail
   go_ret
   exact ⟨ret_int (by have a:=HR.out;have b:=H0.out;omega),rfl⟩
def kn:Sp.Cl->Int | .fin=>0 | .bad=>1 | .key=>2 | .name=>3 | .num=>4 | .txt=>5
theorem tokenEmpty_any (k:Int) (s:ByteArray) (w:World) (h:s.toList.isEmpty=true) :
  Calls Tryz.prog 119 #[.int .i64 k, .string s] w fun e w'=>e = .returned (.agg #[.int .i64 1, .int .i64 0, .string ⟨#[]⟩])/\Below w.heap.size w w':=by
 go_enter Tryz.func119,Tryz.ntmps119
 go_wp2
 exact bodyPost_ret (v := .agg #[.int .i64 1, .int .i64 0, .string ⟨#[]⟩]) (by simp [results,Tryz.results119,go_sem]) rfl ⟨rfl,(Below.refl _ _).alloc (Nat.le_refl _) _⟩
theorem tokenFull_any (k:Int) (s:ByteArray) (w:World) (h:s.toList.isEmpty=false) :
  Calls Tryz.prog 119 #[.int .i64 k, .string s] w fun e w'=>e = .returned (.agg #[.int .i64 k, .int .i64 0, .string s])/\Below w.heap.size w w':=by
 go_enter Tryz.func119,Tryz.ntmps119
 go_wp2
 exact bodyPost_ret (v := .agg #[.int .i64 k, .int .i64 0, .string s]) (by simp [results,Tryz.results119,go_sem]) rfl ⟨rfl,(Below.refl _ _).alloc (Nat.le_refl _) _⟩
def isKy (l:Sp.Bs):Bool:=Sp.keys.contains l
theorem kc {l k:Sp.Bs} (h:(l == k)=true) (hk:Sp.keys.contains k=true):Sp.keys.contains l=true:=by rw [eq_of_beq h];exact hk
theorem cc {l k:Sp.Bs} (h:(l == k)=true) (h' : (l == k)=false):False:=by rw [h] at h';cases h'
theorem isKeyword_any (s:ByteArray) (w:World) :
  Calls Tryz.prog 171 #[.string s] w fun e w'=>e = .returned (.bool (isKy s.toList))/\w'=w:=by
 go_enter Tryz.func171,Tryz.ntmps171
 go_wp2
 all_goals go_ret
 all_goals refine ⟨ret_bool ?_,rfl⟩
 all_goals unfold isKy
 all_goals first | exact (kc (by assumption) (by decide)).symm | (exfalso;exact cc (by assumption) (by assumption)) | (simp only [Sp.keys,List.contains_cons,List.contains_nil,Bool.or_self, *];done)
theorem wordKind_any (s:ByteArray) (w:World) (c:Sp.Cl) (H:Hid (c=if isKy s.toList then .key else if s.size<=12 then .name else .bad)) :
  Calls Tryz.prog 116 #[.string s] w fun e w'=>e = .returned (.int .i64 (kn c))/\w'=w:=by
 cases hk:isKy s.toList
 ·by_cases h12:s.size<=12
  ·have E:Hid (c = .name):=by have:=H.out;rw [hk,if_neg (by simp),if_pos h12] at this;exact this
   clear H
   go_enter Tryz.func116,Tryz.ntmps116
   go_wp2_with (go_at_call 171;refine (isKeyword_any _ _).mono ?_;rintro e w' ⟨rfl,rfl⟩)
   go_ret
   exact ⟨ret_int (by rw [E.out];rfl),rfl⟩
  ·have E:Hid (c = .bad):=by have:=H.out;rw [hk,if_neg (by simp),if_neg h12] at this;exact this
   clear H
   go_enter Tryz.func116,Tryz.ntmps116
   go_wp2_with (go_at_call 171;refine (isKeyword_any _ _).mono ?_;rintro e w' ⟨rfl,rfl⟩)
   go_ret
   exact ⟨ret_int (by rw [E.out];rfl),rfl⟩
 ·have E:Hid (c = .key):=by have:=H.out;rw [hk,if_pos rfl] at this;exact this
  clear H
  go_enter Tryz.func116,Tryz.ntmps116
  go_wp2_with (go_at_call 171;refine (isKeyword_any _ _).mono ?_;rintro e w' ⟨rfl,rfl⟩)
  go_ret
  exact ⟨ret_int (by rw [E.out];rfl),rfl⟩
theorem data_cons (s:ByteArray) (h0:0<s.size):s.data.toList=s[0]::s.data.toList.drop 1:=by
 have hk:0<s.data.toList.length:=by simpa using h0
 have:=List.drop_eq_getElem_cons hk
 rw [List.drop_zero] at this
 exact this
theorem data_cons2 (s:ByteArray) (h0:1<s.size):s.data.toList=s[0]::s[1]::s.data.toList.drop 2:=by
 have hk:0<s.data.toList.length:=by simp;omega
 have hk1:1<s.data.toList.length:=by simpa using h0
 have e:=List.drop_eq_getElem_cons hk
 have e1:=List.drop_eq_getElem_cons hk1
 rw [List.drop_zero] at e
 rw [e,e1];rfl
theorem ext2 (s:ByteArray) (h0:1<s.size):(s.extract 0 2).toList = [s[0],s[1]]:=by
 rw [ByteArray.toList_eq,Lib.extract_data]
 conv=>lhs;rw [data_cons2 s h0]
 rfl
theorem one_cases (s:ByteArray) (h0:0<s.size):(Sp.isOne s[0]=true/\((s[0].toNat:Int)=40\/(s[0].toNat:Int)=41\/(s[0].toNat:Int)=44\/(s[0].toNat:Int)=46\/(s[0].toNat:Int)=42\/(s[0].toNat:Int)=43\/(s[0].toNat:Int)=45\/(s[0].toNat:Int)=47\/(s[0].toNat:Int)=61\/(s[0].toNat:Int)=60\/(s[0].toNat:Int)=62))\/(Sp.isOne s[0]=false/\((((s[0].toNat:Int) == 40)=false)/\(((s[0].toNat:Int) == 41)=false)/\(((s[0].toNat:Int) == 44)=false)/\(((s[0].toNat:Int) == 46)=false)/\(((s[0].toNat:Int) == 42)=false)/\(((s[0].toNat:Int) == 43)=false)/\(((s[0].toNat:Int) == 45)=false)/\(((s[0].toNat:Int) == 47)=false)/\(((s[0].toNat:Int) == 61)=false)/\(((s[0].toNat:Int) == 60)=false)/\(((s[0].toNat:Int) == 62)=false))):=by
 have e:∀ k:UInt8,((s[0].toNat:Int) == (k.toNat:Int))=(s[0] == k):=fun k=>u8_eq _ k
 cases h:Sp.isOne s[0]
 ·right
  refine ⟨rfl,?_⟩
  simp only [Sp.isOne,Bool.or_eq_false_iff] at h
  obtain ⟨⟨⟨⟨⟨⟨⟨⟨⟨⟨a1,a2⟩,a3⟩,a4⟩,a5⟩,a6⟩,a7⟩,a8⟩,a9⟩,a10⟩,a11⟩:=h
  exact ⟨(e 40).trans a1,(e 41).trans a2,(e 44).trans a3,(e 46).trans a4,(e 42).trans a5,(e 43).trans a6,(e 45).trans a7,(e 47).trans a8,(e 61).trans a9,(e 60).trans a10,(e 62).trans a11⟩
 ·left
  refine ⟨rfl,?_⟩
  simp only [Sp.isOne,Bool.or_eq_true,beq_iff_eq] at h
  rcases h with ((((((((((h | h) | h) | h) | h) | h) | h) | h) | h) | h) | h) <;> rw [h] <;> decide
theorem sl_two (s:ByteArray) (h1:1<s.size) {a b:UInt8} (h:((s.extract 0 2).toList == [a,b])=true) (hab:Sp.isTwo a b=true):Sp.signLen s.data.toList=2:=by
 rw [ext2 s h1] at h
 have:=eq_of_beq h
 simp only [List.cons.injEq,and_true] at this
 rw [data_cons2 s h1,this.1,this.2,Sp.signLen,hab];rfl
theorem sl_notwo (s:ByteArray) (h1:1<s.size) (t1:((s.extract 0 2).toList == [60,62])=false) (t2:((s.extract 0 2).toList == [60,61])=false) (t3:((s.extract 0 2).toList == [62,61])=false) :
  Sp.signLen s.data.toList=if Sp.isOne s[0] then 1 else 0:=by
 rw [ext2 s h1] at t1 t2 t3
 have:Sp.isTwo s[0] s[1]=false:=by
  simp only [Sp.isTwo]
  have z:(([]:List UInt8) == [])=true:=rfl
  simp only [List.cons_beq_cons,z,Bool.and_true] at t1 t2 t3
  rw [t1,t2,t3];rfl
 rw [data_cons2 s h1,Sp.signLen,this];rfl
theorem sl_short (s:ByteArray) (h0:0<s.size) (h1:¬ 1<s.size):Sp.signLen s.data.toList=if Sp.isOne s[0] then 1 else 0:=by
 have e:=data_cons s h0
 have:s.data.toList.drop 1 = []:=List.drop_of_length_le (by simp;omega)
 rw [this] at e
 rw [e,Sp.signLen]
theorem signLength_any (s:ByteArray) (w:World) (h0:0<s.size) (hs:s.size<=maxLen) :
  Calls Tryz.prog 121 #[.string s] w fun e w'=>e = .returned (.int .i64 (Sp.signLen s.data.toList:Nat))/\w'=w:=by
 unfold maxLen at hs
 by_cases h1:1<s.size
 ·cases t1:((s.extract 0 2).toList == [60,62])
  ·cases t2:((s.extract 0 2).toList == [60,61])
   ·cases t3:((s.extract 0 2).toList == [62,61])
    ·have HL:Hid (Sp.signLen s.data.toList=if Sp.isOne s[0] then 1 else 0):=sl_notwo s h1 t1 t2 t3
     rcases one_cases s h0 with ⟨h,hd⟩ | ⟨h,g1,g2,g3,g4,g5,g6,g7,g8,g9,g10,g11⟩
     ·have HV:Hid (Sp.signLen s.data.toList=1):=by show _=_;rw [HL.out,h];rfl
      clear HL h
      rcases hd with hd | hd | hd | hd | hd | hd | hd | hd | hd | hd | hd
      all_goals
       go_enter Tryz.func121,Tryz.ntmps121
       go_wp2
       go_ret
       exact ⟨ret_int (by rw [HV.out];rfl),rfl⟩
     ·have HV:Hid (Sp.signLen s.data.toList=0):=by show _=_;rw [HL.out,h];rfl
      clear HL h
      go_enter Tryz.func121,Tryz.ntmps121
      go_wp2
      go_ret
      exact ⟨ret_int (by rw [HV.out];rfl),rfl⟩
    ·have HV:Hid (Sp.signLen s.data.toList=2):=sl_two s h1 t3 rfl
     go_enter Tryz.func121,Tryz.ntmps121
     go_wp2
     go_ret
     exact ⟨ret_int (by rw [HV.out];rfl),rfl⟩
   ·have HV:Hid (Sp.signLen s.data.toList=2):=sl_two s h1 t2 rfl
    go_enter Tryz.func121,Tryz.ntmps121
    go_wp2
    go_ret
    exact ⟨ret_int (by rw [HV.out];rfl),rfl⟩
  ·have HV:Hid (Sp.signLen s.data.toList=2):=sl_two s h1 t1 rfl
   go_enter Tryz.func121,Tryz.ntmps121
   go_wp2
   go_ret
   exact ⟨ret_int (by rw [HV.out];rfl),rfl⟩
 ·have HL:Hid (Sp.signLen s.data.toList=if Sp.isOne s[0] then 1 else 0):=sl_short s h0 h1
  rcases one_cases s h0 with ⟨h,hd⟩ | ⟨h,g1,g2,g3,g4,g5,g6,g7,g8,g9,g10,g11⟩
  ·have HV:Hid (Sp.signLen s.data.toList=1):=by show _=_;rw [HL.out,h];rfl
   clear HL h
   rcases hd with hd | hd | hd | hd | hd | hd | hd | hd | hd | hd | hd
   all_goals
    go_enter Tryz.func121,Tryz.ntmps121
    go_wp2
    go_ret
    exact ⟨ret_int (by rw [HV.out];rfl),rfl⟩
  ·have HV:Hid (Sp.signLen s.data.toList=0):=by show _=_;rw [HL.out,h];rfl
   clear HL h
   go_enter Tryz.func121,Tryz.ntmps121
   go_wp2
   go_ret
   exact ⟨ret_int (by rw [HV.out];rfl),rfl⟩
def txl (l:Sp.Bs):Nat:=match Sp.txtLen l with | some n=>n+1 | none=>0
def txr (s:ByteArray) (k:Nat):Nat:=match Sp.txtLen (s.data.toList.drop k) with | some n=>k+n | none=>0
theorem drop_cons (s:ByteArray) (k:Nat) (h:k<s.size):s.data.toList.drop k=s[k]::s.data.toList.drop (k+1):=List.drop_eq_getElem_cons (by simpa using h)
theorem u8ne (c k:UInt8):((c.toNat:Int) != (k.toNat:Int))=(c != k):=by simp only [bne,u8_eq]
theorem txtLen_other (c:UInt8) (r:Sp.Bs) (h:(c == 39)=false):Sp.txtLen (c::r)=(Sp.txtLen r).map (·+1):=by cases r <;> simp [Sp.txtLen,h]
theorem txr_other (s:ByteArray) (k:Nat) (h:k<s.size) (hne:((s[k].toNat:Int) != 39)=true):txr s k=txr s (k+1):=by
 have e:(s[k] == 39)=false:=by
  have:=u8ne s[k] 39
  rw [show ((39:UInt8).toNat:Int)=39 from rfl] at this
  rw [hne] at this;simpa [bne] using this.symm
 unfold txr
 rw [drop_cons s k h,txtLen_other _ _ e]
 cases Sp.txtLen (s.data.toList.drop (k+1)) <;> simp;omega
theorem q_eq (s:ByteArray) (k:Nat) (h:k<s.size) (hne:((s[k].toNat:Int) != 39)=false):(s[k] == 39)=true:=by
 have:=u8ne s[k] 39
 rw [show ((39:UInt8).toNat:Int)=39 from rfl] at this
 rw [hne] at this;simpa [bne] using this.symm
theorem q_ne (s:ByteArray) (k:Nat) (h:k<s.size) (hne:((s[k].toNat:Int) != 39)=true):(s[k] == 39)=false:=by
 have:=u8ne s[k] 39
 rw [show ((39:UInt8).toNat:Int)=39 from rfl] at this
 rw [hne] at this;simpa [bne] using this.symm
theorem txr_last (s:ByteArray) (k:Nat) (h:k+1=s.size) (hne:((s[k].toNat:Int) != 39)=false):txr s k=k+1:=by
 unfold txr
 rw [drop_cons s k (by omega),List.drop_of_length_le (by simp;omega),Sp.txtLen,q_eq s k (by omega) hne];rfl
theorem txr_close (s:ByteArray) (k:Nat) (h:k+1<s.size) (hne:((s[k].toNat:Int) != 39)=false) (hn:((s[k+1].toNat:Int) != 39)=true):txr s k=k+1:=by
 unfold txr
 rw [drop_cons s k (by omega),drop_cons s (k+1) h,Sp.txtLen,q_eq s k (by omega) hne]
 simp [q_ne s (k+1) h hn]
theorem txr_pair (s:ByteArray) (k:Nat) (h:k+1<s.size) (hne:((s[k].toNat:Int) != 39)=false) (hn:((s[k+1].toNat:Int) != 39)=false):txr s k=txr s (k+2):=by
 unfold txr
 rw [drop_cons s k (by omega),drop_cons s (k+1) h,Sp.txtLen,q_eq s k (by omega) hne]
 simp only [q_eq s (k+1) h hn,if_true]
 cases Sp.txtLen (s.data.toList.drop (k+1+1)) <;> simp;omega
theorem txr_end (s:ByteArray) (k:Nat) (h:s.size<=k):txr s k=0:=by
 unfold txr;rw [List.drop_of_length_le (by simpa using h)];rfl
theorem txr_one (s:ByteArray):txr s 1=txl (s.data.toList.drop 1):=by
 unfold txr txl;cases Sp.txtLen (s.data.toList.drop 1) <;> simp;omega
theorem txtLen_le:∀ (l:Sp.Bs) (n:Nat),Sp.txtLen l=some n->n<=l.length
 | [],n,h=>by simp [Sp.txtLen] at h
 | c :: [],n,h=>by
  simp only [Sp.txtLen] at h
  split at h
  ·simp at h;simp;omega
  ·simp at h
 | c::c'::r,n,h=>by
  by_cases hc:(c == 39)=true
  ·by_cases hc' : (c' == 39)=true
   ·simp only [Sp.txtLen,hc,hc',if_true] at h
    cases hr:Sp.txtLen r with
    | none=>rw [hr] at h;simp at h
    | some m=>
     rw [hr] at h
     have:=txtLen_le r m hr
     simp at h;simp;omega
   ·simp only [Sp.txtLen,hc,hc',if_true] at h
    simp at h;simp;omega
  ·have hc'' : (c == 39)=false:=by simpa using hc
   rw [txtLen_other c _ hc''] at h
   cases hr:Sp.txtLen (c'::r) with
   | none=>rw [hr] at h;simp at h
   | some m=>
    rw [hr] at h
    have:=txtLen_le (c'::r) m hr
    simp at h;simp at this ⊢;omega
theorem txr_le (s:ByteArray) (k:Nat) (hk:k<=s.size):txr s k<=s.size:=by
 unfold txr
 cases h:Sp.txtLen (s.data.toList.drop k) with
 | none=>simp
 | some n=>
  have:=txtLen_le _ _ h
  simp at this ⊢;omega
theorem textLength_any (s:ByteArray) (w:World) (h0:0<s.size) (hs:s.size<=maxLen) :
  Calls Tryz.prog 120 #[.string s] w fun e w'=>e = .returned (.int .i64 (txr s 1:Nat))/\w'=w:=by
 unfold maxLen at hs
 go_enter Tryz.func120,Tryz.ntmps120
 go_wp2
 go_loop [3] (fun i=>∃ k:Nat,1<=k/\k<=s.size+1/\i = .int .i64 k/\Hid (txr s k=txr s 1)) (fun i=>s.size+2 - (intOf i).toNat)
 case atStart=>exact ⟨1,Nat.le_refl _,by omega,rfl,rfl⟩
 case round=>
  obtain ⟨k,hk1,hk,rfl,HR⟩:=hrel
  by_cases hlt:k<s.size
  ·cases hq:((s[k].toNat:Int) != 39)
   ·by_cases hl:k+1=s.size
    ·have HV:Hid (txr s k=k+1):=txr_last s k hl hq
     have hb:((k:Int)+1 == (s.size:Int))=true:=by simp;omega
     go_wp2
     go_ret
     exact ⟨ret_int (by rw [<- HR.out,HV.out];rfl),rfl⟩
    ·have hl2:k+1<s.size:=by omega
     have hb:((k:Int)+1 == (s.size:Int))=false:=by simp;omega
     cases hq2:((s[k+1].toNat:Int) != 39)
     ·have HV:Hid (txr s k=txr s (k+2)):=txr_pair s k hl2 hq hq2
      go_wp2
      go_round
      case rel=>exact ⟨k+2,by omega,by omega,by go_num,by show _=_;rw [<- HV.out,HR.out]⟩
      case measure=>simp [intOf];omega
     ·have HV:Hid (txr s k=k+1):=txr_close s k hl2 hq hq2
      go_wp2
      go_ret
      exact ⟨ret_int (by rw [<- HR.out,HV.out];rfl),rfl⟩
   ·have HV:Hid (txr s k=txr s (k+1)):=txr_other s k hlt hq
    go_wp2
    go_round
    case rel=>exact ⟨k+1,by omega,by omega,by go_num,by show _=_;rw [<- HV.out,HR.out]⟩
    case measure=>simp [intOf];omega
  ·have HV:Hid (txr s k=0):=txr_end s k (by omega)
   go_wp2
   go_ret
   exact ⟨ret_int (by rw [<- HR.out,HV.out];rfl),rfl⟩
def numF (a:Nat) (l:Sp.Bs):Nat:=l.foldl (fun a c=>a*10+(c.toNat - 48)) a
theorem numF_ge:∀ (l:Sp.Bs) (a:Nat),a<=numF a l
 | [],a=>Nat.le_refl _
 | c::r,a=>by
  have:=numF_ge r (a*10+(c.toNat - 48))
  simp only [numF,List.foldl_cons] at this ⊢
  omega
theorem dg_iff (c:UInt8):Sp.isDg c=true↔48<=c.toNat/\c.toNat<=57:=by
 simp [Sp.isDg,UInt8.le_iff_toNat_le]
theorem uintM (M:Nat) (hM:M=18446744073709551615):∀ (l:Sp.Bs) (a:Nat),l.all Sp.isDg=true->a<=M->Lib.parseUintM M a l=if numF a l<=M then .ok (numF a l) else .range
 | [],a,_,ha=>by simp [Lib.parseUintM,numF,ha]
 | c::r,a,hd,ha=>by
  simp only [List.all_cons,Bool.and_eq_true] at hd
  have hc:=(dg_iff c).1 hd.1
  have hg:=numF_ge r (a*10+(c.toNat - 48))
  have he:numF a (c::r)=numF (a*10+(c.toNat - 48)) r:=rfl
  rw [Lib.parseUintM,if_pos hc,he]
  by_cases h1:1844674407370955162<=a
  ·rw [if_pos h1,if_neg (by omega)]
  ·rw [if_neg h1]
   by_cases h2:M<a*10+(c.toNat - 48)
   ·rw [if_pos h2,if_neg (by omega)]
   ·rw [if_neg h2,uintM M hM r _ hd.2 (by omega)]
theorem uintB {l:Sp.Bs} (h:l ≠ []) (hd:l.all Sp.isDg=true):Lib.parseUintB 64 l=if Sp.numVal l<=18446744073709551615 then .ok (Sp.numVal l) else .range:=by
 rw [Lib.parseUintB,if_neg h,uintM _ rfl l 0 hd (by omega)];rfl
theorem intB_ok {l:Sp.Bs} (h:l ≠ []) (hd:l.all Sp.isDg=true) (hv:Sp.numVal l<9223372036854775808):Lib.parseIntB 64 l = .ok (Sp.numVal l:Int):=by
 cases l with
 | nil=>exact absurd rfl h
 | cons c r=>
  have hc:=(dg_iff c).1 (by simp only [List.all_cons,Bool.and_eq_true] at hd;exact hd.1)
  rw [Lib.parseIntB]
  simp only [show ¬ (c.toNat=43) from by omega,show ¬ (c.toNat=45) from by omega,or_self,if_false]
  rw [uintB h hd,if_pos (by omega)]
  simp only [not_false_eq_true,true_and,false_and,if_false]
  rw [if_neg (by omega)]
theorem intB_range {l:Sp.Bs} (h:l ≠ []) (hd:l.all Sp.isDg=true) (hv:¬ Sp.numVal l<9223372036854775808):Lib.parseIntB 64 l = .range:=by
 cases l with
 | nil=>exact absurd rfl h
 | cons c r=>
  have hc:=(dg_iff c).1 (by simp only [List.all_cons,Bool.and_eq_true] at hd;exact hd.1)
  rw [Lib.parseIntB]
  simp only [show ¬ (c.toNat=43) from by omega,show ¬ (c.toNat=45) from by omega,or_self,if_false]
  rw [uintB h hd]
  by_cases hu:Sp.numVal (c::r)<=18446744073709551615
  ·rw [if_pos hu]
   simp only [not_false_eq_true,true_and,false_and,if_false]
   rw [if_pos (by omega)]
  ·rw [if_neg hu]
def VR (w:World):Prop:=∃ te pe,w.cell? ⟨1,0,none⟩=some (.iface te pe)/\1<w.heap.size
theorem numberKind_ok (s:ByteArray) (w:World) (hne:s.data.toList ≠ []) (hd:s.data.toList.all Sp.isDg=true) (hs:s.size<=100000) (hv:Sp.numVal s.data.toList<9223372036854775808) :
  Calls Tryz.prog 118 #[.string s] w fun e w'=>e = .returned (.int .i64 (kn .num))/\Below w.heap.size w w':=by
 have H:Hid (Lib.parseIntB 64 s.data.toList = .ok (Sp.numVal s.data.toList:Int)):=intB_ok hne hd hv
 clear hne hd hv
 go_enter Tryz.func118,Tryz.ntmps118
 go_wp2_with fail
 refine (Tryz.strconv_ParseInt_10_at64_ok s (by omega) _ H.out _).mono ?_
 rintro e w' ⟨rfl,hw⟩
 have HW:Hid (Below w.heap.size w w'):=by
  rcases hw with rfl | ⟨t,rfl⟩
  ·exact Below.refl _ _
  ·exact Lib.bytesWorld_below _ _ _
 clear hw
 go_wp2_with fail
 go_ret
 exact ⟨rfl,HW.out⟩
theorem numberKind_bad (s:ByteArray) (w:World) (hne:s.data.toList ≠ []) (hd:s.data.toList.all Sp.isDg=true) (hs:s.size<=100000) (hv:¬ Sp.numVal s.data.toList<9223372036854775808) (hr:VR w) :
  Calls Tryz.prog 118 #[.string s] w fun e w'=>e = .returned (.int .i64 (kn .bad))/\Below w.heap.size w w':=by
 have H:Hid (Lib.parseIntB 64 s.data.toList = .range):=intB_range hne hd hv
 clear hne hd hv
 obtain ⟨te,pe,hc,_⟩:=hr
 have HC:=hid hc
 clear hc
 go_enter Tryz.func118,Tryz.ntmps118
 go_wp2_with fail
 refine (Tryz.strconv_ParseInt_10_at64_range s (by omega) H.out (.iface te pe) _ HC.out (Or.inr ⟨te,pe,rfl⟩)).mono ?_
 rintro e w' ⟨N,rfl,_,_,hb⟩
 have HW:=hid hb
 clear hb
 go_wp2_with fail
 go_ret
 exact ⟨rfl,HW.out⟩
end Go.Proofs.YtgnncnhkgmhngaaGreatDoor
