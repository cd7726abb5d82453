import Derived.Test.YtgnncnhkgmhngaaGreatDoorJ01
import Derived.WalkSpells
import Derived.WalkLawsBesides
import Derived.Lib.Strings
import Derived.Test.YtgnncnhkgmhngaaGreatDoorJ03
import Derived.Lib.AtoiErrMem
set_option maxHeartbeats 2000000
namespace Go.Proofs.YtgnncnhkgmhngaaGreatDoor
open Sp
open Go.RowKit
theorem rJ (c:UInt8) (k:UInt8):((c.toNat:Int) == (k.toNat:Int))=(c == k):=by
 rw [Bool.eq_iff_iff];simp only [beq_iff_eq]
 constructor
 ·intro h;exact UInt8.toNat_inj.1 (by omega)
 ·intro h;rw [h]
theorem dN {a b:Bool} (h:a=b):Ending.returned (.bool a) = .returned (.bool b):=by rw [h]
theorem aP {k:IntKind} {a b:Int} (h:a=b):Ending.returned (.int k a) = .returned (.int k b):=by rw [h]
theorem rK (c:UInt8) (w:World) :
  Calls Tryz.prog 73 #[.int .u8 (c.toNat:Int)] w λe w'=>e = .returned (.bool (isSp c))/\w'=w:=by
 have e1:=rJ c 32
 have e2:=rJ c 10
 have E:Hid (isSp c=(((c.toNat:Int) == 32)||((c.toNat:Int) == 10))):=by
  show isSp c=_
  rw [isSp,<- e1,<- e2];rfl
 clear e1 e2
 go_enter Tryz.func73,Tryz.ntmps73
 go_wp2
 all_goals go_ret
 all_goals exact ⟨dN (by rw [E.out];first | done | (simp [*];done)),rfl⟩
theorem cY (c:UInt8) (w:World) :
  Calls Tryz.prog 114 #[.int .u8 (c.toNat:Int)] w λe w'=>e = .returned (.bool (iP c))/\w'=w:=by
 have E:Hid (iP c=(decide (97<=(c.toNat:Int))&&decide ((c.toNat:Int)<=122))):=by
  show iP c=_
  rw [iP,Bool.eq_iff_iff];simp [UInt8.le_iff_toNat_le];omega
 go_enter Tryz.func114,Tryz.ntmps114
 go_wp2
 all_goals go_ret
 all_goals exact ⟨dN (by rw [E.out];first | (simp [*];done) | (simp;omega)),rfl⟩
theorem cZ (c:UInt8) (w:World) :
  Calls Tryz.prog 117 #[.int .u8 (c.toNat:Int)] w λe w'=>e = .returned (.bool (bV c))/\w'=w:=by
 have E:Hid (bV c=(decide (48<=(c.toNat:Int))&&decide ((c.toNat:Int)<=57))):=by
  show bV c=_
  rw [bV,Bool.eq_iff_iff];simp [UInt8.le_iff_toNat_le];omega
 go_enter Tryz.func117,Tryz.ntmps117
 go_wp2
 all_goals go_ret
 all_goals exact ⟨dN (by rw [E.out];first | (simp [*];done) | (simp;omega)),rfl⟩
theorem lO (c:UInt8) (w:World) :
  Calls Tryz.prog 115 #[.int .u8 (c.toNat:Int)] w λe w'=>e = .returned (.bool (eF c))/\w'=w:=by
 have e1:=rJ c 95
 have E:Hid (eF c=(iP c||bV c||((c.toNat:Int) == 95))):=by
  show eF c=_
  rw [eF,<- e1];rfl
 clear e1
 go_enter Tryz.func115,Tryz.ntmps115
 go_wp2_with (first | (go_at_call 114;refine (cY _ _).mono ?_;rintro e w' ⟨rfl,rfl⟩) | (go_at_call 117;refine (cZ _ _).mono ?_;rintro e w' ⟨rfl,rfl⟩))
 all_goals go_ret
 all_goals exact ⟨dN (by rw [E.out];first | done | (simp [*];done)),rfl⟩
theorem nE (p:UInt8->Bool):∀ l:Sp.Bs,many p l<=l.length
 | []=>by simp [many]
 | c::r=>by have:=nE p r;simp only [many,List.length_cons];split <;> omega
theorem qF (p:UInt8->Bool) (s:ByteArray) (k:Nat) (h:k<s.size) (hp:p s[k]=true):many p (s.data.toList.drop k)=many p (s.data.toList.drop (k+1))+1:=by
 have hk:k<s.data.toList.length:=by simpa using h
 rw [nS hk,many]
 have:s.data.toList[k]=s[k]:=rfl
 rw [this,hp];rfl
theorem qG (p:UInt8->Bool) (s:ByteArray) (k:Nat) (h:k<s.size) (hp:p s[k]=false):many p (s.data.toList.drop k)=0:=by
 have hk:k<s.data.toList.length:=by simpa using h
 rw [nS hk,many]
 have:s.data.toList[k]=s[k]:=rfl
 rw [this,hp];rfl
theorem sY (p:UInt8->Bool) (s:ByteArray) (k:Nat) (h:s.size<=k):many p (s.data.toList.drop k)=0:=by
 rw [Aw (by simpa using h)];rfl
theorem sZ (s:ByteArray) (w:World) (hs:s.size<=maxLen) :
  Calls Tryz.prog 72 #[.string s, .func (.func 73) #[] #[]] w λe w'=>e = .returned (.int .i64 (many isSp s.data.toList:Nat))/\w'=w:=by
 unfold maxLen at hs
 go_enter Tryz.func72,Tryz.ntmps72
 go_wp2_with fail
 go_loop [5] (λi=>∃ k:Nat,k<=s.size/\i = .int .i64 k/\Hid (many isSp s.data.toList=k+many isSp (s.data.toList.drop k))) (λi=>s.size - (intOf i).toNat)
 case atStart=>exact ⟨0,fO _,rfl,by show _=_;simp⟩
 case round=>
  obtain ⟨k,hk,rfl,HR⟩:=hrel
  by_cases hlt:k<s.size
  ·cases hp:isSp s[k]
   ·have H0:Hid (many isSp (s.data.toList.drop k)=0):=qG _ s k hlt hp
    go_wp2_with (go_at_call 73;refine (rK _ _).mono ?_;rintro e w' ⟨rfl,rfl⟩)
    go_ret
    exact ⟨aP (by have a:=HR.out;have b:=H0.out;omega),rfl⟩
   ·have H0:Hid (many isSp (s.data.toList.drop k)=many isSp (s.data.toList.drop (k+1))+1):=qF _ s k hlt hp
    go_wp2_with (go_at_call 73;refine (rK _ _).mono ?_;rintro e w' ⟨rfl,rfl⟩)
    go_round
    case rel=>exact ⟨k+1,by omega,by go_num,by have a:=HR.out;have b:=H0.out;show _=_;omega⟩
    case measure=>simp [intOf];omega
  ·have H0:Hid (many isSp (s.data.toList.drop k)=0):=sY _ s k (by omega)
   go_wp2_with fail
   go_ret
   exact ⟨aP (by have a:=HR.out;have b:=H0.out;omega),rfl⟩
theorem vA (s:ByteArray) (w:World) (hs:s.size<=maxLen) :
  Calls Tryz.prog 72 #[.string s, .func (.func 115) #[] #[]] w λe w'=>e = .returned (.int .i64 (many eF s.data.toList:Nat))/\w'=w:=by
 unfold maxLen at hs
 go_enter Tryz.func72,Tryz.ntmps72
 go_wp2_with fail
 go_loop [5] (λi=>∃ k:Nat,k<=s.size/\i = .int .i64 k/\Hid (many eF s.data.toList=k+many eF (s.data.toList.drop k))) (λi=>s.size - (intOf i).toNat)
 case atStart=>exact ⟨0,fO _,rfl,by show _=_;simp⟩
 case round=>
  obtain ⟨k,hk,rfl,HR⟩:=hrel
  by_cases hlt:k<s.size
  ·cases hp:eF s[k]
   ·have H0:Hid (many eF (s.data.toList.drop k)=0):=qG _ s k hlt hp
    go_wp2_with (go_at_call 115;refine (lO _ _).mono ?_;rintro e w' ⟨rfl,rfl⟩)
    go_ret
    exact ⟨aP (by have a:=HR.out;have b:=H0.out;omega),rfl⟩
   ·have H0:Hid (many eF (s.data.toList.drop k)=many eF (s.data.toList.drop (k+1))+1):=qF _ s k hlt hp
    go_wp2_with (go_at_call 115;refine (lO _ _).mono ?_;rintro e w' ⟨rfl,rfl⟩)
    go_round
    case rel=>exact ⟨k+1,by omega,by go_num,by have a:=HR.out;have b:=H0.out;show _=_;omega⟩
    case measure=>simp [intOf];omega
  ·have H0:Hid (many eF (s.data.toList.drop k)=0):=sY _ s k (by omega)
   go_wp2_with fail
   go_ret
   exact ⟨aP (by have a:=HR.out;have b:=H0.out;omega),rfl⟩
theorem lP (s:ByteArray) (w:World) (hs:s.size<=maxLen) :
  Calls Tryz.prog 72 #[.string s, .func (.func 117) #[] #[]] w λe w'=>e = .returned (.int .i64 (many bV s.data.toList:Nat))/\w'=w:=by
 unfold maxLen at hs
 go_enter Tryz.func72,Tryz.ntmps72
 go_wp2_with fail
 go_loop [5] (λi=>∃ k:Nat,k<=s.size/\i = .int .i64 k/\Hid (many bV s.data.toList=k+many bV (s.data.toList.drop k))) (λi=>s.size - (intOf i).toNat)
 case atStart=>exact ⟨0,fO _,rfl,by show _=_;simp⟩
 case round=>
  obtain ⟨k,hk,rfl,HR⟩:=hrel
  by_cases hlt:k<s.size
  ·cases hp:bV s[k]
   ·have H0:Hid (many bV (s.data.toList.drop k)=0):=qG _ s k hlt hp
    go_wp2_with (go_at_call 117;refine (cZ _ _).mono ?_;rintro e w' ⟨rfl,rfl⟩)
    go_ret
    exact ⟨aP (by have a:=HR.out;have b:=H0.out;omega),rfl⟩
   ·have H0:Hid (many bV (s.data.toList.drop k)=many bV (s.data.toList.drop (k+1))+1):=qF _ s k hlt hp
    go_wp2_with (go_at_call 117;refine (cZ _ _).mono ?_;rintro e w' ⟨rfl,rfl⟩)
    go_round
    case rel=>exact ⟨k+1,by omega,by go_num,by have a:=HR.out;have b:=H0.out;show _=_;omega⟩
    case measure=>simp [intOf];omega
  ·have H0:Hid (many bV (s.data.toList.drop k)=0):=sY _ s k (by omega)
   go_wp2_with fail
   go_ret
   exact ⟨aP (by have a:=HR.out;have b:=H0.out;omega),rfl⟩
def kn:Cl->Int | .fin=>0 | .bad=>1 | .key=>2 | .name=>3 | .num=>4 | .txt=>5
theorem lQ (k:Int) (s:ByteArray) (w:World) (h:s.toList.isEmpty=true) :
  Calls Tryz.prog 119 #[.int .i64 k, .string s] w λe w'=>e = .returned (.agg #[.int .i64 1, .int .i64 0, .string ⟨#[]⟩])/\Below w.heap.size w w':=by
 go_enter Tryz.func119,Tryz.ntmps119
 go_wp2
 exact cL (v := .agg #[.int .i64 1, .int .i64 0, .string ⟨#[]⟩]) (by simp [results,Tryz.results119,go_sem]) rfl ⟨rfl,(Below.refl _ _).alloc (aF _) _⟩
theorem nX (k:Int) (s:ByteArray) (w:World) (h:s.toList.isEmpty=false) :
  Calls Tryz.prog 119 #[.int .i64 k, .string s] w λe w'=>e = .returned (.agg #[.int .i64 k, .int .i64 0, .string s])/\Below w.heap.size w w':=by
 go_enter Tryz.func119,Tryz.ntmps119
 go_wp2
 exact cL (v := .agg #[.int .i64 k, .int .i64 0, .string s]) (by simp [results,Tryz.results119,go_sem]) rfl ⟨rfl,(Below.refl _ _).alloc (aF _) _⟩
def Ih (l:Sp.Bs):Bool:=keys.contains l
theorem kc {l k:Sp.Bs} (h:(l == k)=true) (hk:keys.contains k=true):keys.contains l=true:=by rw [eq_of_beq h];exact hk
theorem cc {l k:Sp.Bs} (h:(l == k)=true) (h' : (l == k)=false):False:=by rw [h] at h';cases h'
theorem jE (s:ByteArray) (w:World) :
  Calls Tryz.prog 171 #[.string s] w λe w'=>e = .returned (.bool (Ih s.toList))/\w'=w:=by
 go_enter Tryz.func171,Tryz.ntmps171
 go_wp2
 all_goals go_ret
 all_goals refine ⟨dN ?_,rfl⟩
 all_goals unfold Ih
 all_goals first | exact (kc (by assumption) (by decide)).symm | (exfalso;exact cc (by assumption) (by assumption)) | (simp only [keys,List.contains_cons,List.contains_nil,Bool.or_self, *];done)
theorem yK (s:ByteArray) (w:World) (c:Cl) (H:Hid (c=if Ih s.toList then .key else if s.size<=12 then .name else .bad)) :
  Calls Tryz.prog 116 #[.string s] w λe w'=>e = .returned (.int .i64 (kn c))/\w'=w:=by
 cases hk:Ih s.toList
 ·by_cases h12:s.size<=12
  ·have E:Hid (c = .name):=by have:=H.out;rw [hk,if_neg (by simp),if_pos h12] at this;exact this
   clear H
   go_enter Tryz.func116,Tryz.ntmps116
   go_wp2_with (go_at_call 171;refine (jE _ _).mono ?_;rintro e w' ⟨rfl,rfl⟩)
   go_ret
   exact ⟨aP (by rw [E.out];rfl),rfl⟩
  ·have E:Hid (c = .bad):=by have:=H.out;rw [hk,if_neg (by simp),if_neg h12] at this;exact this
   clear H
   go_enter Tryz.func116,Tryz.ntmps116
   go_wp2_with (go_at_call 171;refine (jE _ _).mono ?_;rintro e w' ⟨rfl,rfl⟩)
   go_ret
   exact ⟨aP (by rw [E.out];rfl),rfl⟩
 ·have E:Hid (c = .key):=by have:=H.out;rw [hk,if_pos rfl] at this;exact this
  clear H
  go_enter Tryz.func116,Tryz.ntmps116
  go_wp2_with (go_at_call 171;refine (jE _ _).mono ?_;rintro e w' ⟨rfl,rfl⟩)
  go_ret
  exact ⟨aP (by rw [E.out];rfl),rfl⟩
theorem jM (s:ByteArray) (h0:0<s.size):s.data.toList=s[0]::s.data.toList.drop 1:=by
 have hk:0<s.data.toList.length:=by simpa using h0
 have:=nS hk
 rw [List.drop_zero] at this
 exact this
theorem oA (s:ByteArray) (h0:1<s.size):s.data.toList=s[0]::s[1]::s.data.toList.drop 2:=by
 have hk:0<s.data.toList.length:=by simp;omega
 have hk1:1<s.data.toList.length:=by simpa using h0
 have e:=nS hk
 have e1:=nS hk1
 rw [List.drop_zero] at e
 rw [e,e1];rfl
theorem Pz (s:ByteArray) (h0:1<s.size):(s.extract 0 2).toList = [s[0],s[1]]:=by
 rw [pD,Lib.extract_data]
 conv=>lhs;rw [oA s h0]
 rfl
theorem wG (s:ByteArray) (h0:0<s.size):(lF s[0]=true/\((s[0].toNat:Int)=40\/(s[0].toNat:Int)=41\/(s[0].toNat:Int)=44\/(s[0].toNat:Int)=46\/(s[0].toNat:Int)=42\/(s[0].toNat:Int)=43\/(s[0].toNat:Int)=45\/(s[0].toNat:Int)=47\/(s[0].toNat:Int)=61\/(s[0].toNat:Int)=60\/(s[0].toNat:Int)=62))\/(lF s[0]=false/\((((s[0].toNat:Int) == 40)=false)/\(((s[0].toNat:Int) == 41)=false)/\(((s[0].toNat:Int) == 44)=false)/\(((s[0].toNat:Int) == 46)=false)/\(((s[0].toNat:Int) == 42)=false)/\(((s[0].toNat:Int) == 43)=false)/\(((s[0].toNat:Int) == 45)=false)/\(((s[0].toNat:Int) == 47)=false)/\(((s[0].toNat:Int) == 61)=false)/\(((s[0].toNat:Int) == 60)=false)/\(((s[0].toNat:Int) == 62)=false))):=by
 have e:∀ k:UInt8,((s[0].toNat:Int) == (k.toNat:Int))=(s[0] == k):=λk=>rJ _ k
 cases h:lF s[0]
 ·right
  refine ⟨rfl,?_⟩
  simp only [lF,Bool.or_eq_false_iff] at h
  obtain ⟨⟨⟨⟨⟨⟨⟨⟨⟨⟨a1,a2⟩,a3⟩,a4⟩,a5⟩,a6⟩,a7⟩,a8⟩,a9⟩,a10⟩,a11⟩:=h
  exact ⟨(e 40).trans a1,(e 41).trans a2,(e 44).trans a3,(e 46).trans a4,(e 42).trans a5,(e 43).trans a6,(e 45).trans a7,(e 47).trans a8,(e 61).trans a9,(e 60).trans a10,(e 62).trans a11⟩
 ·left
  refine ⟨rfl,?_⟩
  simp only [lF,Bool.or_eq_true,beq_iff_eq] at h
  rcases h with ((((((((((h | h) | h) | h) | h) | h) | h) | h) | h) | h) | h) <;> rw [h] <;> decide
theorem C6 (s:ByteArray) (h1:1<s.size) {a b:UInt8} (h:((s.extract 0 2).toList == [a,b])=true) (hab:EL a b=true):aU s.data.toList=2:=by
 rw [Pz s h1] at h
 have:=eq_of_beq h
 simp only [List.cons.injEq,and_true] at this
 rw [oA s h1,this.1,this.2,aU,hab];rfl
theorem Ii (s:ByteArray) (h1:1<s.size) (t1:((s.extract 0 2).toList == [60,62])=false) (t2:((s.extract 0 2).toList == [60,61])=false) (t3:((s.extract 0 2).toList == [62,61])=false) :
  aU s.data.toList=if lF s[0] then 1 else 0:=by
 rw [Pz s h1] at t1 t2 t3
 have:EL s[0] s[1]=false:=by
  simp only [EL]
  have z:(([]:List UInt8) == [])=true:=rfl
  simp only [List.cons_beq_cons,z,Bool.and_true] at t1 t2 t3
  rw [t1,t2,t3];rfl
 rw [oA s h1,aU,this];rfl
theorem Ij (s:ByteArray) (h0:0<s.size) (h1:¬ 1<s.size):aU s.data.toList=if lF s[0] then 1 else 0:=by
 have e:=jM s h0
 have:s.data.toList.drop 1 = []:=Aw (by simp;omega)
 rw [this] at e
 rw [e,aU]
theorem lR (s:ByteArray) (w:World) (h0:0<s.size) (hs:s.size<=maxLen) :
  Calls Tryz.prog 121 #[.string s] w λe w'=>e = .returned (.int .i64 (aU s.data.toList:Nat))/\w'=w:=by
 unfold maxLen at hs
 by_cases h1:1<s.size
 ·cases t1:((s.extract 0 2).toList == [60,62])
  ·cases t2:((s.extract 0 2).toList == [60,61])
   ·cases t3:((s.extract 0 2).toList == [62,61])
    ·have HL:Hid (aU s.data.toList=if lF s[0] then 1 else 0):=Ii s h1 t1 t2 t3
     rcases wG s h0 with ⟨h,hd⟩ | ⟨h,g1,g2,g3,g4,g5,g6,g7,g8,g9,g10,g11⟩
     ·have HV:Hid (aU s.data.toList=1):=by show _=_;rw [HL.out,h];rfl
      clear HL h
      rcases hd with hd | hd | hd | hd | hd | hd | hd | hd | hd | hd | hd
      all_goals
       go_enter Tryz.func121,Tryz.ntmps121
       go_wp2
       go_ret
       exact ⟨aP (by rw [HV.out];rfl),rfl⟩
     ·have HV:Hid (aU s.data.toList=0):=by show _=_;rw [HL.out,h];rfl
      clear HL h
      go_enter Tryz.func121,Tryz.ntmps121
      go_wp2
      go_ret
      exact ⟨aP (by rw [HV.out];rfl),rfl⟩
    ·have HV:Hid (aU s.data.toList=2):=C6 s h1 t3 rfl
     go_enter Tryz.func121,Tryz.ntmps121
     go_wp2
     go_ret
     exact ⟨aP (by rw [HV.out];rfl),rfl⟩
   ·have HV:Hid (aU s.data.toList=2):=C6 s h1 t2 rfl
    go_enter Tryz.func121,Tryz.ntmps121
    go_wp2
    go_ret
    exact ⟨aP (by rw [HV.out];rfl),rfl⟩
  ·have HV:Hid (aU s.data.toList=2):=C6 s h1 t1 rfl
   go_enter Tryz.func121,Tryz.ntmps121
   go_wp2
   go_ret
   exact ⟨aP (by rw [HV.out];rfl),rfl⟩
 ·have HL:Hid (aU s.data.toList=if lF s[0] then 1 else 0):=Ij s h0 h1
  rcases wG s h0 with ⟨h,hd⟩ | ⟨h,g1,g2,g3,g4,g5,g6,g7,g8,g9,g10,g11⟩
  ·have HV:Hid (aU s.data.toList=1):=by show _=_;rw [HL.out,h];rfl
   clear HL h
   rcases hd with hd | hd | hd | hd | hd | hd | hd | hd | hd | hd | hd
   all_goals
    go_enter Tryz.func121,Tryz.ntmps121
    go_wp2
    go_ret
    exact ⟨aP (by rw [HV.out];rfl),rfl⟩
  ·have HV:Hid (aU s.data.toList=0):=by show _=_;rw [HL.out,h];rfl
   clear HL h
   go_enter Tryz.func121,Tryz.ntmps121
   go_wp2
   go_ret
   exact ⟨aP (by rw [HV.out];rfl),rfl⟩
def lC (s:ByteArray) (k:Nat):Nat:=match bJ (s.data.toList.drop k) with | some n=>k+n | none=>0
theorem drop_cons (s:ByteArray) (k:Nat) (h:k<s.size):s.data.toList.drop k=s[k]::s.data.toList.drop (k+1):=nS (by simpa using h)
theorem Nu (c k:UInt8):((c.toNat:Int) != (k.toNat:Int))=(c != k):=by simp only [bne,rJ]
theorem pF (c:UInt8) (r:Sp.Bs) (h:(c == 39)=false):bJ (c::r)=(bJ r).map (·+1):=by cases r <;> simp [bJ,h]
theorem FN (s:ByteArray) (k:Nat) (h:k<s.size) (hne:((s[k].toNat:Int) != 39)=true):lC s k=lC s (k+1):=by
 have e:(s[k] == 39)=false:=by
  have:=Nu s[k] 39
  rw [show ((39:UInt8).toNat:Int)=39 from rfl] at this
  rw [hne] at this;simpa [bne] using this.symm
 unfold lC
 rw [drop_cons s k h,pF _ _ e]
 cases bJ (s.data.toList.drop (k+1)) <;> simp;omega
theorem KJ (s:ByteArray) (k:Nat) (h:k<s.size) (hne:((s[k].toNat:Int) != 39)=false):(s[k] == 39)=true:=by
 have:=Nu s[k] 39
 rw [show ((39:UInt8).toNat:Int)=39 from rfl] at this
 rw [hne] at this;simpa [bne] using this.symm
theorem S4 (s:ByteArray) (k:Nat) (h:k<s.size) (hne:((s[k].toNat:Int) != 39)=true):(s[k] == 39)=false:=by
 have:=Nu s[k] 39
 rw [show ((39:UInt8).toNat:Int)=39 from rfl] at this
 rw [hne] at this;simpa [bne] using this.symm
theorem Ik (s:ByteArray) (k:Nat) (h:k+1=s.size) (hne:((s[k].toNat:Int) != 39)=false):lC s k=k+1:=by
 unfold lC
 rw [drop_cons s k (by omega),Aw (by simp;omega),bJ,KJ s k (by omega) hne];rfl
theorem FO (s:ByteArray) (k:Nat) (h:k+1<s.size) (hne:((s[k].toNat:Int) != 39)=false) (hn:((s[k+1].toNat:Int) != 39)=true):lC s k=k+1:=by
 unfold lC
 rw [drop_cons s k (by omega),drop_cons s (k+1) h,bJ,KJ s k (by omega) hne]
 simp [S4 s (k+1) h hn]
theorem Il (s:ByteArray) (k:Nat) (h:k+1<s.size) (hne:((s[k].toNat:Int) != 39)=false) (hn:((s[k+1].toNat:Int) != 39)=false):lC s k=lC s (k+2):=by
 unfold lC
 rw [drop_cons s k (by omega),drop_cons s (k+1) h,bJ,KJ s k (by omega) hne]
 simp only [KJ s (k+1) h hn,if_true]
 cases bJ (s.data.toList.drop (k+1+1)) <;> simp;omega
theorem KL (s:ByteArray) (k:Nat) (h:s.size<=k):lC s k=0:=by
 unfold lC;rw [Aw (by simpa using h)];rfl
theorem jN:∀ (l:Sp.Bs) (n:Nat),bJ l=some n->n<=l.length
 | [],n,h=>by simp [bJ] at h
 | c :: [],n,h=>by
  simp only [bJ] at h
  split at h
  ·simp at h;simp;omega
  ·simp at h
 | c::c'::r,n,h=>by
  by_cases hc:(c == 39)=true
  ·by_cases hc' : (c' == 39)=true
   ·simp only [bJ,hc,hc',if_true] at h
    cases hr:bJ r with
    | none=>rw [hr] at h;simp at h
    | some m=>
     rw [hr] at h
     have:=jN r m hr
     simp at h;simp;omega
   ·simp only [bJ,hc,hc',if_true] at h
    simp at h;simp;omega
  ·have hc'' : (c == 39)=false:=by simpa using hc
   rw [pF c _ hc''] at h
   cases hr:bJ (c'::r) with
   | none=>rw [hr] at h;simp at h
   | some m=>
    rw [hr] at h
    have:=jN (c'::r) m hr
    simp at h;simp at this ⊢;omega
theorem Nv (s:ByteArray) (k:Nat) (hk:k<=s.size):lC s k<=s.size:=by
 unfold lC
 cases h:bJ (s.data.toList.drop k) with
 | none=>simp
 | some n=>
  have:=jN _ _ h
  simp at this ⊢;omega
theorem lS (s:ByteArray) (w:World) (h0:0<s.size) (hs:s.size<=maxLen) :
  Calls Tryz.prog 120 #[.string s] w λe w'=>e = .returned (.int .i64 (lC s 1:Nat))/\w'=w:=by
 unfold maxLen at hs
 go_enter Tryz.func120,Tryz.ntmps120
 go_wp2
 go_loop [3] (λi=>∃ k:Nat,1<=k/\k<=s.size+1/\i = .int .i64 k/\Hid (lC s k=lC s 1)) (λi=>s.size+2 - (intOf i).toNat)
 case atStart=>exact ⟨1,aF _,by omega,rfl,rfl⟩
 case round=>
  obtain ⟨k,hk1,hk,rfl,HR⟩:=hrel
  by_cases hlt:k<s.size
  ·cases hq:((s[k].toNat:Int) != 39)
   ·by_cases hl:k+1=s.size
    ·have HV:Hid (lC s k=k+1):=Ik s k hl hq
     have hb:((k:Int)+1 == (s.size:Int))=true:=by simp;omega
     go_wp2
     go_ret
     exact ⟨aP (by rw [<- HR.out,HV.out];rfl),rfl⟩
    ·have hl2:k+1<s.size:=by omega
     have hb:((k:Int)+1 == (s.size:Int))=false:=by simp;omega
     cases hq2:((s[k+1].toNat:Int) != 39)
     ·have HV:Hid (lC s k=lC s (k+2)):=Il s k hl2 hq hq2
      go_wp2
      go_round
      case rel=>exact ⟨k+2,by omega,by omega,by go_num,by show _=_;rw [<- HV.out,HR.out]⟩
      case measure=>simp [intOf];omega
     ·have HV:Hid (lC s k=k+1):=FO s k hl2 hq hq2
      go_wp2
      go_ret
      exact ⟨aP (by rw [<- HR.out,HV.out];rfl),rfl⟩
   ·have HV:Hid (lC s k=lC s (k+1)):=FN s k hlt hq
    go_wp2
    go_round
    case rel=>exact ⟨k+1,by omega,by omega,by go_num,by show _=_;rw [<- HV.out,HR.out]⟩
    case measure=>simp [intOf];omega
  ·have HV:Hid (lC s k=0):=KL s k (by omega)
   go_wp2
   go_ret
   exact ⟨aP (by rw [<- HR.out,HV.out];rfl),rfl⟩
def C7 (a:Nat) (l:Sp.Bs):Nat:=l.foldl (λa c=>a*10+(c.toNat - 48)) a
theorem EO:∀ (l:Sp.Bs) (a:Nat),a<=C7 a l
 | [],a=>aF _
 | c::r,a=>by
  have:=EO r (a*10+(c.toNat - 48))
  simp only [C7,List.foldl_cons] at this ⊢
  omega
theorem C8 (c:UInt8):bV c=true↔48<=c.toNat/\c.toNat<=57:=by
 simp [bV,UInt8.le_iff_toNat_le]
theorem Mn (M:Nat) (hM:M=18446744073709551615):∀ (l:Sp.Bs) (a:Nat),l.all bV=true->a<=M->Lib.parseUintM M a l=if C7 a l<=M then .ok (C7 a l) else .range
 | [],a,_,ha=>by simp [Lib.parseUintM,C7,ha]
 | c::r,a,hd,ha=>by
  simp only [List.all_cons,Bool.and_eq_true] at hd
  have hc:=(C8 c).1 hd.1
  have hg:=EO r (a*10+(c.toNat - 48))
  have he:C7 a (c::r)=C7 (a*10+(c.toNat - 48)) r:=rfl
  rw [Lib.parseUintM,if_pos hc,he]
  by_cases h1:1844674407370955162<=a
  ·rw [if_pos h1,if_neg (by omega)]
  ·rw [if_neg h1]
   by_cases h2:M<a*10+(c.toNat - 48)
   ·rw [if_pos h2,if_neg (by omega)]
   ·rw [if_neg h2,Mn M hM r _ hd.2 (by omega)]
theorem Mo {l:Sp.Bs} (h:l ≠ []) (hd:l.all bV=true):Lib.parseUintB 64 l=if dB l<=18446744073709551615 then .ok (dB l) else .range:=by
 rw [Lib.parseUintB,if_neg h,Mn _ rfl l 0 hd (by omega)];rfl
theorem EP {l:Sp.Bs} (h:l ≠ []) (hd:l.all bV=true) (hv:dB l<9223372036854775808):Lib.parseIntB 64 l = .ok (dB l:Int):=by
 cases l with
 | nil=>exact absurd rfl h
 | cons c r=>
  have hc:=(C8 c).1 (by simp only [List.all_cons,Bool.and_eq_true] at hd;exact hd.1)
  rw [Lib.parseIntB]
  simp only [show ¬ (c.toNat=43) from by omega,show ¬ (c.toNat=45) from by omega,or_self,if_false]
  rw [Mo h hd,if_pos (by omega)]
  simp only [not_false_eq_true,true_and,false_and,if_false]
  rw [if_neg (by omega)]
theorem C9 {l:Sp.Bs} (h:l ≠ []) (hd:l.all bV=true) (hv:¬ dB l<9223372036854775808):Lib.parseIntB 64 l = .range:=by
 cases l with
 | nil=>exact absurd rfl h
 | cons c r=>
  have hc:=(C8 c).1 (by simp only [List.all_cons,Bool.and_eq_true] at hd;exact hd.1)
  rw [Lib.parseIntB]
  simp only [show ¬ (c.toNat=43) from by omega,show ¬ (c.toNat=45) from by omega,or_self,if_false]
  rw [Mo h hd]
  by_cases hu:dB (c::r)<=18446744073709551615
  ·rw [if_pos hu]
   simp only [not_false_eq_true,true_and,false_and,if_false]
   rw [if_pos (by omega)]
  ·rw [if_neg hu]
def VR (w:World):Prop:=∃ te pe,w.cell? ⟨1,0,none⟩=some (.iface te pe)/\1<w.heap.size
theorem vB (s:ByteArray) (w:World) (hne:s.data.toList ≠ []) (hd:s.data.toList.all bV=true) (hs:s.size<=100000) (hv:dB s.data.toList<9223372036854775808) :
  Calls Tryz.prog 118 #[.string s] w λe w'=>e = .returned (.int .i64 (kn .num))/\Below w.heap.size w w':=by
 have H:Hid (Lib.parseIntB 64 s.data.toList = .ok (dB s.data.toList:Int)):=EP hne hd hv
 clear hne hd hv
 go_enter Tryz.func118,Tryz.ntmps118
 go_wp2_with fail
 refine (Tryz.strconv_ParseInt_10_at64_ok s (by omega) _ H.out _).mono ?_
 rintro e w' ⟨rfl,hw⟩
 have HW:Hid (Below w.heap.size w w'):=by
  rcases hw with rfl | ⟨t,rfl⟩
  ·exact Below.refl _ _
  ·exact Lib.bytesWorld_below _ _ _
 clear hw
 go_wp2_with fail
 go_ret
 exact ⟨rfl,HW.out⟩
theorem s5 (s:ByteArray) (w:World) (hne:s.data.toList ≠ []) (hd:s.data.toList.all bV=true) (hs:s.size<=100000) (hv:¬ dB s.data.toList<9223372036854775808) (hr:VR w) :
  Calls Tryz.prog 118 #[.string s] w λe w'=>e = .returned (.int .i64 (kn .bad))/\Below w.heap.size w w':=by
 have H:Hid (Lib.parseIntB 64 s.data.toList = .range):=C9 hne hd hv
 clear hne hd hv
 obtain ⟨te,pe,hc,_⟩:=hr
 have HC:=hid hc
 clear hc
 go_enter Tryz.func118,Tryz.ntmps118
 go_wp2_with fail
 refine (Tryz.strconv_ParseInt_10_at64_range s (by omega) H.out (.iface te pe) _ HC.out (Or.inr ⟨te,pe,rfl⟩)).mono ?_
 rintro e w' ⟨N,rfl,_,_,hb⟩
 have HW:=hid hb
 clear hb
 go_wp2_with fail
 go_ret
 exact ⟨rfl,HW.out⟩
end Go.Proofs.YtgnncnhkgmhngaaGreatDoor
