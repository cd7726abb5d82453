import Derived.Test.YtgnncnhkgmhngaaGreatDoorJ01
import Derived.WalkSpells
import Derived.WalkLawsBesides
import Derived.Lib.Strings
import Derived.Test.YtgnncnhkgmhngaaGreatDoorJ03
import Derived.Lib.AtoiErrMem
set_option maxHeartbeats 2000000
namespace Go.Proofs.YtgnncnhkgmhngaaGreatDoor
open Sp
open Tryz
open Go.RowKit
theorem sB (c:UInt8) (k:UInt8):((c.toNat:Int) == (k.toNat:Int))=(c == k):=by
 rw [Bool.eq_iff_iff];simp only [beq_iff_eq]
 constructor
 ·intro h;exact UInt8.toNat_inj.1 (by omega)
 ·intro h;rw [h]
theorem dC {a b:Bool} (h:a=b):Ending.returned (.bool a) = .returned (.bool b):=by rw [h]
theorem aQ {k:IntKind} {a b:Int} (h:a=b):Ending.returned (.int k a) = .returned (.int k b):=by rw [h]
theorem sC (c:UInt8) (w:World) :
  Calls prog 73 #[.int .u8 (c.toNat:Int)] w λe w'=>e = .returned (.bool (isSp c))/\w'=w:=by
 have e1:=sB c 32
 have e2:=sB c 10
 have E:Hid (isSp c=(((c.toNat:Int) == 32)||((c.toNat:Int) == 10))):=by
  show isSp c=_
  rw [isSp,<- e1,<- e2];rfl
 clear e1 e2
 go_enter func73,ntmps73
 go_wp2
 all_goals go_ret
 all_goals exact ⟨dC (by rw [E.out];first | done | (simp [*];done)),rfl⟩
theorem dD (c:UInt8) (w:World) :
  Calls prog 114 #[.int .u8 (c.toNat:Int)] w λe w'=>e = .returned (.bool (i8 c))/\w'=w:=by
 have E:Hid (i8 c=(decide (97<=(c.toNat:Int))&&decide ((c.toNat:Int)<=122))):=by
  show i8 c=_
  rw [i8,Bool.eq_iff_iff];simp [UInt8.le_iff_toNat_le];omega
 go_enter func114,ntmps114
 go_wp2
 all_goals go_ret
 all_goals exact ⟨dC (by rw [E.out];first | (simp [*];done) | (simp;omega)),rfl⟩
theorem dE (c:UInt8) (w:World) :
  Calls prog 117 #[.int .u8 (c.toNat:Int)] w λe w'=>e = .returned (.bool (bU c))/\w'=w:=by
 have E:Hid (bU c=(decide (48<=(c.toNat:Int))&&decide ((c.toNat:Int)<=57))):=by
  show bU c=_
  rw [bU,Bool.eq_iff_iff];simp [UInt8.le_iff_toNat_le];omega
 go_enter func117,ntmps117
 go_wp2
 all_goals go_ret
 all_goals exact ⟨dC (by rw [E.out];first | (simp [*];done) | (simp;omega)),rfl⟩
theorem mH (c:UInt8) (w:World) :
  Calls prog 115 #[.int .u8 (c.toNat:Int)] w λe w'=>e = .returned (.bool (eM c))/\w'=w:=by
 have e1:=sB c 95
 have E:Hid (eM c=(i8 c||bU c||((c.toNat:Int) == 95))):=by
  show eM c=_
  rw [eM,<- e1];rfl
 clear e1
 go_enter func115,ntmps115
 go_wp2_with (first | (go_at_call 114;refine (dD _ _).mono ?_;rintro e w' ⟨rfl,rfl⟩) | (go_at_call 117;refine (dE _ _).mono ?_;rintro e w' ⟨rfl,rfl⟩))
 all_goals go_ret
 all_goals exact ⟨dC (by rw [E.out];first | done | (simp [*];done)),rfl⟩
theorem nY (p:UInt8->Bool):∀ l:Sp.Bs,many p l<=l.length
 | []=>by simp [many]
 | c::r=>by have:=nY p r;simp only [many,List.length_cons];split <;> omega
theorem q9 (p:UInt8->Bool) (s:ByteArray) (k:Nat) (h:k<s.size) (hp:p s[k]=true):many p (s.data.toList.drop k)=many p (s.data.toList.drop (k+1))+1:=by
 have hk:k<s.data.toList.length:=by simpa using h
 rw [lJ hk,many]
 have:s.data.toList[k]=s[k]:=rfl
 rw [this,hp];rfl
theorem rA (p:UInt8->Bool) (s:ByteArray) (k:Nat) (h:k<s.size) (hp:p s[k]=false):many p (s.data.toList.drop k)=0:=by
 have hk:k<s.data.toList.length:=by simpa using h
 rw [lJ hk,many]
 have:s.data.toList[k]=s[k]:=rfl
 rw [this,hp];rfl
theorem tW (p:UInt8->Bool) (s:ByteArray) (k:Nat) (h:s.size<=k):many p (s.data.toList.drop k)=0:=by
 rw [Bn (by simpa using h)];rfl
theorem tX (s:ByteArray) (w:World) (hs:s.size<=maxLen) :
  Calls prog 72 #[.string s, .func (.func 73) #[] #[]] w λe w'=>e = .returned (.int .i64 (many isSp s.data.toList:Nat))/\w'=w:=by
 unfold maxLen at hs
 go_enter func72,ntmps72
 go_wp2_with fail
 go_loop [5] (λi=>∃ k:Nat,k<=s.size/\i = .int .i64 k/\Hid (many isSp s.data.toList=k+many isSp (s.data.toList.drop k))) (λi=>s.size - (intOf i).toNat)
 case atStart=>exact ⟨0,eX _,rfl,by show _=_;simp⟩
 case round=>
  obtain ⟨k,hk,rfl,HR⟩:=hrel
  by_cases hlt:k<s.size
  ·cases hp:isSp s[k]
   ·have H0:Hid (many isSp (s.data.toList.drop k)=0):=rA _ s k hlt hp
    go_wp2_with (go_at_call 73;refine (sC _ _).mono ?_;rintro e w' ⟨rfl,rfl⟩)
    go_ret
    exact ⟨aQ (by have a:=HR.out;have b:=H0.out;omega),rfl⟩
   ·have H0:Hid (many isSp (s.data.toList.drop k)=many isSp (s.data.toList.drop (k+1))+1):=q9 _ s k hlt hp
    go_wp2_with (go_at_call 73;refine (sC _ _).mono ?_;rintro e w' ⟨rfl,rfl⟩)
    go_round
    case rel=>exact ⟨k+1,by omega,by go_num,by have a:=HR.out;have b:=H0.out;show _=_;omega⟩
    case measure=>simp [intOf];omega
  ·have H0:Hid (many isSp (s.data.toList.drop k)=0):=tW _ s k (by omega)
   go_wp2_with fail
   go_ret
   exact ⟨aQ (by have a:=HR.out;have b:=H0.out;omega),rfl⟩
theorem wJ (s:ByteArray) (w:World) (hs:s.size<=maxLen) :
  Calls prog 72 #[.string s, .func (.func 115) #[] #[]] w λe w'=>e = .returned (.int .i64 (many eM s.data.toList:Nat))/\w'=w:=by
 unfold maxLen at hs
 go_enter func72,ntmps72
 go_wp2_with fail
 go_loop [5] (λi=>∃ k:Nat,k<=s.size/\i = .int .i64 k/\Hid (many eM s.data.toList=k+many eM (s.data.toList.drop k))) (λi=>s.size - (intOf i).toNat)
 case atStart=>exact ⟨0,eX _,rfl,by show _=_;simp⟩
 case round=>
  obtain ⟨k,hk,rfl,HR⟩:=hrel
  by_cases hlt:k<s.size
  ·cases hp:eM s[k]
   ·have H0:Hid (many eM (s.data.toList.drop k)=0):=rA _ s k hlt hp
    go_wp2_with (go_at_call 115;refine (mH _ _).mono ?_;rintro e w' ⟨rfl,rfl⟩)
    go_ret
    exact ⟨aQ (by have a:=HR.out;have b:=H0.out;omega),rfl⟩
   ·have H0:Hid (many eM (s.data.toList.drop k)=many eM (s.data.toList.drop (k+1))+1):=q9 _ s k hlt hp
    go_wp2_with (go_at_call 115;refine (mH _ _).mono ?_;rintro e w' ⟨rfl,rfl⟩)
    go_round
    case rel=>exact ⟨k+1,by omega,by go_num,by have a:=HR.out;have b:=H0.out;show _=_;omega⟩
    case measure=>simp [intOf];omega
  ·have H0:Hid (many eM (s.data.toList.drop k)=0):=tW _ s k (by omega)
   go_wp2_with fail
   go_ret
   exact ⟨aQ (by have a:=HR.out;have b:=H0.out;omega),rfl⟩
theorem mI (s:ByteArray) (w:World) (hs:s.size<=maxLen) :
  Calls prog 72 #[.string s, .func (.func 117) #[] #[]] w λe w'=>e = .returned (.int .i64 (many bU s.data.toList:Nat))/\w'=w:=by
 unfold maxLen at hs
 go_enter func72,ntmps72
 go_wp2_with fail
 go_loop [5] (λi=>∃ k:Nat,k<=s.size/\i = .int .i64 k/\Hid (many bU s.data.toList=k+many bU (s.data.toList.drop k))) (λi=>s.size - (intOf i).toNat)
 case atStart=>exact ⟨0,eX _,rfl,by show _=_;simp⟩
 case round=>
  obtain ⟨k,hk,rfl,HR⟩:=hrel
  by_cases hlt:k<s.size
  ·cases hp:bU s[k]
   ·have H0:Hid (many bU (s.data.toList.drop k)=0):=rA _ s k hlt hp
    go_wp2_with (go_at_call 117;refine (dE _ _).mono ?_;rintro e w' ⟨rfl,rfl⟩)
    go_ret
    exact ⟨aQ (by have a:=HR.out;have b:=H0.out;omega),rfl⟩
   ·have H0:Hid (many bU (s.data.toList.drop k)=many bU (s.data.toList.drop (k+1))+1):=q9 _ s k hlt hp
    go_wp2_with (go_at_call 117;refine (dE _ _).mono ?_;rintro e w' ⟨rfl,rfl⟩)
    go_round
    case rel=>exact ⟨k+1,by omega,by go_num,by have a:=HR.out;have b:=H0.out;show _=_;omega⟩
    case measure=>simp [intOf];omega
  ·have H0:Hid (many bU (s.data.toList.drop k)=0):=tW _ s k (by omega)
   go_wp2_with fail
   go_ret
   exact ⟨aQ (by have a:=HR.out;have b:=H0.out;omega),rfl⟩
def kn:Cl->Int | .fin=>0 | .bad=>1 | .key=>2 | .name=>3 | .num=>4 | .txt=>5
theorem mJ (k:Int) (s:ByteArray) (w:World) (h:s.toList.isEmpty=true) :
  Calls prog 119 #[.int .i64 k, .string s] w λe w'=>e = .returned (.agg #[.int .i64 1, .int .i64 0, .string ⟨#[]⟩])/\Below w.heap.size w w':=by
 go_enter func119,ntmps119
 go_wp2
 exact cV (v := .agg #[.int .i64 1, .int .i64 0, .string ⟨#[]⟩]) (by simp [results,results119,go_sem]) rfl ⟨rfl,(Below.refl _ _).alloc (aF _) _⟩
theorem oP (k:Int) (s:ByteArray) (w:World) (h:s.toList.isEmpty=false) :
  Calls prog 119 #[.int .i64 k, .string s] w λe w'=>e = .returned (.agg #[.int .i64 k, .int .i64 0, .string s])/\Below w.heap.size w w':=by
 go_enter func119,ntmps119
 go_wp2
 exact cV (v := .agg #[.int .i64 k, .int .i64 0, .string s]) (by simp [results,results119,go_sem]) rfl ⟨rfl,(Below.refl _ _).alloc (aF _) _⟩
def Jr (l:Sp.Bs):Bool:=keys.contains l
theorem kc {l k:Sp.Bs} (h:(l == k)=true) (hk:keys.contains k=true):keys.contains l=true:=by rw [eq_of_beq h];exact hk
theorem cc {l k:Sp.Bs} (h:(l == k)=true) (h' : (l == k)=false):False:=by rw [h] at h';cases h'
theorem jM (s:ByteArray) (w:World) :
  Calls prog 171 #[.string s] w λe w'=>e = .returned (.bool (Jr s.toList))/\w'=w:=by
 go_enter func171,ntmps171
 go_wp2
 all_goals go_ret
 all_goals refine ⟨dC ?_,rfl⟩
 all_goals unfold Jr
 all_goals first | exact (kc (by assumption) (by decide)).symm | (exfalso;exact cc (by assumption) (by assumption)) | (simp only [keys,List.contains_cons,List.contains_nil,Bool.or_self, *];done)
theorem zI (s:ByteArray) (w:World) (c:Cl) (H:Hid (c=if Jr s.toList then .key else if s.size<=12 then .name else .bad)) :
  Calls prog 116 #[.string s] w λe w'=>e = .returned (.int .i64 (kn c))/\w'=w:=by
 cases hk:Jr s.toList
 ·by_cases h12:s.size<=12
  ·have E:Hid (c = .name):=by have:=H.out;rw [hk,if_neg (by simp),if_pos h12] at this;exact this
   clear H
   go_enter func116,ntmps116
   go_wp2_with (go_at_call 171;refine (jM _ _).mono ?_;rintro e w' ⟨rfl,rfl⟩)
   go_ret
   exact ⟨aQ (by rw [E.out];rfl),rfl⟩
  ·have E:Hid (c = .bad):=by have:=H.out;rw [hk,if_neg (by simp),if_neg h12] at this;exact this
   clear H
   go_enter func116,ntmps116
   go_wp2_with (go_at_call 171;refine (jM _ _).mono ?_;rintro e w' ⟨rfl,rfl⟩)
   go_ret
   exact ⟨aQ (by rw [E.out];rfl),rfl⟩
 ·have E:Hid (c = .key):=by have:=H.out;rw [hk,if_pos rfl] at this;exact this
  clear H
  go_enter func116,ntmps116
  go_wp2_with (go_at_call 171;refine (jM _ _).mono ?_;rintro e w' ⟨rfl,rfl⟩)
  go_ret
  exact ⟨aQ (by rw [E.out];rfl),rfl⟩
theorem jS (s:ByteArray) (h0:0<s.size):s.data.toList=s[0]::s.data.toList.drop 1:=by
 have hk:0<s.data.toList.length:=by simpa using h0
 have:=lJ hk
 rw [List.drop_zero] at this
 exact this
theorem oT (s:ByteArray) (h0:1<s.size):s.data.toList=s[0]::s[1]::s.data.toList.drop 2:=by
 have hk:0<s.data.toList.length:=by simp;omega
 have hk1:1<s.data.toList.length:=by simpa using h0
 have e:=lJ hk
 have e1:=lJ hk1
 rw [List.drop_zero] at e
 rw [e,e1];rfl
theorem RF (s:ByteArray) (h0:1<s.size):(s.extract 0 2).toList = [s[0],s[1]]:=by
 rw [pV,Lib.extract_data]
 conv=>lhs;rw [oT s h0]
 rfl
theorem xO (s:ByteArray) (h0:0<s.size):(lZ s[0]=true/\((s[0].toNat:Int)=40\/(s[0].toNat:Int)=41\/(s[0].toNat:Int)=44\/(s[0].toNat:Int)=46\/(s[0].toNat:Int)=42\/(s[0].toNat:Int)=43\/(s[0].toNat:Int)=45\/(s[0].toNat:Int)=47\/(s[0].toNat:Int)=61\/(s[0].toNat:Int)=60\/(s[0].toNat:Int)=62))\/(lZ s[0]=false/\((((s[0].toNat:Int) == 40)=false)/\(((s[0].toNat:Int) == 41)=false)/\(((s[0].toNat:Int) == 44)=false)/\(((s[0].toNat:Int) == 46)=false)/\(((s[0].toNat:Int) == 42)=false)/\(((s[0].toNat:Int) == 43)=false)/\(((s[0].toNat:Int) == 45)=false)/\(((s[0].toNat:Int) == 47)=false)/\(((s[0].toNat:Int) == 61)=false)/\(((s[0].toNat:Int) == 60)=false)/\(((s[0].toNat:Int) == 62)=false))):=by
 have e:∀ k:UInt8,((s[0].toNat:Int) == (k.toNat:Int))=(s[0] == k):=λk=>sB _ k
 cases h:lZ s[0]
 ·right
  refine ⟨rfl,?_⟩
  simp only [lZ,Bool.or_eq_false_iff] at h
  obtain ⟨⟨⟨⟨⟨⟨⟨⟨⟨⟨a1,a2⟩,a3⟩,a4⟩,a5⟩,a6⟩,a7⟩,a8⟩,a9⟩,a10⟩,a11⟩:=h
  exact ⟨(e 40).trans a1,(e 41).trans a2,(e 44).trans a3,(e 46).trans a4,(e 42).trans a5,(e 43).trans a6,(e 45).trans a7,(e 47).trans a8,(e 61).trans a9,(e 60).trans a10,(e 62).trans a11⟩
 ·left
  refine ⟨rfl,?_⟩
  simp only [lZ,Bool.or_eq_true,beq_iff_eq] at h
  rcases h with ((((((((((h | h) | h) | h) | h) | h) | h) | h) | h) | h) | h) <;> rw [h] <;> decide
theorem DO (s:ByteArray) (h1:1<s.size) {a b:UInt8} (h:((s.extract 0 2).toList == [a,b])=true) (hab:FJ a b=true):aV s.data.toList=2:=by
 rw [RF s h1] at h
 have:=eq_of_beq h
 simp only [List.cons.injEq,and_true] at this
 rw [oT s h1,this.1,this.2,aV,hab];rfl
theorem Js (s:ByteArray) (h1:1<s.size) (t1:((s.extract 0 2).toList == [60,62])=false) (t2:((s.extract 0 2).toList == [60,61])=false) (t3:((s.extract 0 2).toList == [62,61])=false) :
  aV s.data.toList=if lZ s[0] then 1 else 0:=by
 rw [RF s h1] at t1 t2 t3
 have:FJ s[0] s[1]=false:=by
  simp only [FJ]
  have z:(([]:List UInt8) == [])=true:=rfl
  simp only [List.cons_beq_cons,z,Bool.and_true] at t1 t2 t3
  rw [t1,t2,t3];rfl
 rw [oT s h1,aV,this];rfl
theorem Jt (s:ByteArray) (h0:0<s.size) (h1:¬ 1<s.size):aV s.data.toList=if lZ s[0] then 1 else 0:=by
 have e:=jS s h0
 have:s.data.toList.drop 1 = []:=Bn (by simp;omega)
 rw [this] at e
 rw [e,aV]
theorem mK (s:ByteArray) (w:World) (h0:0<s.size) (hs:s.size<=maxLen) :
  Calls prog 121 #[.string s] w λe w'=>e = .returned (.int .i64 (aV s.data.toList:Nat))/\w'=w:=by
 unfold maxLen at hs
 by_cases h1:1<s.size
 ·cases t1:((s.extract 0 2).toList == [60,62])
  ·cases t2:((s.extract 0 2).toList == [60,61])
   ·cases t3:((s.extract 0 2).toList == [62,61])
    ·have HL:Hid (aV s.data.toList=if lZ s[0] then 1 else 0):=Js s h1 t1 t2 t3
     rcases xO s h0 with ⟨h,hd⟩ | ⟨h,g1,g2,g3,g4,g5,g6,g7,g8,g9,g10,g11⟩
     ·have HV:Hid (aV s.data.toList=1):=by show _=_;rw [HL.out,h];rfl
      clear HL h
      rcases hd with hd | hd | hd | hd | hd | hd | hd | hd | hd | hd | hd
      all_goals
       go_enter func121,ntmps121
       go_wp2
       go_ret
       exact ⟨aQ (by rw [HV.out];rfl),rfl⟩
     ·have HV:Hid (aV s.data.toList=0):=by show _=_;rw [HL.out,h];rfl
      clear HL h
      go_enter func121,ntmps121
      go_wp2
      go_ret
      exact ⟨aQ (by rw [HV.out];rfl),rfl⟩
    ·have HV:Hid (aV s.data.toList=2):=DO s h1 t3 rfl
     go_enter func121,ntmps121
     go_wp2
     go_ret
     exact ⟨aQ (by rw [HV.out];rfl),rfl⟩
   ·have HV:Hid (aV s.data.toList=2):=DO s h1 t2 rfl
    go_enter func121,ntmps121
    go_wp2
    go_ret
    exact ⟨aQ (by rw [HV.out];rfl),rfl⟩
  ·have HV:Hid (aV s.data.toList=2):=DO s h1 t1 rfl
   go_enter func121,ntmps121
   go_wp2
   go_ret
   exact ⟨aQ (by rw [HV.out];rfl),rfl⟩
 ·have HL:Hid (aV s.data.toList=if lZ s[0] then 1 else 0):=Jt s h0 h1
  rcases xO s h0 with ⟨h,hd⟩ | ⟨h,g1,g2,g3,g4,g5,g6,g7,g8,g9,g10,g11⟩
  ·have HV:Hid (aV s.data.toList=1):=by show _=_;rw [HL.out,h];rfl
   clear HL h
   rcases hd with hd | hd | hd | hd | hd | hd | hd | hd | hd | hd | hd
   all_goals
    go_enter func121,ntmps121
    go_wp2
    go_ret
    exact ⟨aQ (by rw [HV.out];rfl),rfl⟩
  ·have HV:Hid (aV s.data.toList=0):=by show _=_;rw [HL.out,h];rfl
   clear HL h
   go_enter func121,ntmps121
   go_wp2
   go_ret
   exact ⟨aQ (by rw [HV.out];rfl),rfl⟩
def lV (s:ByteArray) (k:Nat):Nat:=match bJ (s.data.toList.drop k) with | some n=>k+n | none=>0
theorem drop_cons (s:ByteArray) (k:Nat) (h:k<s.size):s.data.toList.drop k=s[k]::s.data.toList.drop (k+1):=lJ (by simpa using h)
theorem Pk (c k:UInt8):((c.toNat:Int) != (k.toNat:Int))=(c != k):=by simp only [bne,sB]
theorem pX (c:UInt8) (r:Sp.Bs) (h:(c == 39)=false):bJ (c::r)=(bJ r).map (·+1):=by cases r <;> simp [bJ,h]
theorem GN (s:ByteArray) (k:Nat) (h:k<s.size) (hne:((s[k].toNat:Int) != 39)=true):lV s k=lV s (k+1):=by
 have e:(s[k] == 39)=false:=by
  have:=Pk s[k] 39
  rw [show ((39:UInt8).toNat:Int)=39 from rfl] at this
  rw [hne] at this;simpa [bne] using this.symm
 unfold lV
 rw [drop_cons s k h,pX _ _ e]
 cases bJ (s.data.toList.drop (k+1)) <;> simp;omega
theorem Mm (s:ByteArray) (k:Nat) (h:k<s.size) (hne:((s[k].toNat:Int) != 39)=false):(s[k] == 39)=true:=by
 have:=Pk s[k] 39
 rw [show ((39:UInt8).toNat:Int)=39 from rfl] at this
 rw [hne] at this;simpa [bne] using this.symm
theorem U1 (s:ByteArray) (k:Nat) (h:k<s.size) (hne:((s[k].toNat:Int) != 39)=true):(s[k] == 39)=false:=by
 have:=Pk s[k] 39
 rw [show ((39:UInt8).toNat:Int)=39 from rfl] at this
 rw [hne] at this;simpa [bne] using this.symm
theorem Ju (s:ByteArray) (k:Nat) (h:k+1=s.size) (hne:((s[k].toNat:Int) != 39)=false):lV s k=k+1:=by
 unfold lV
 rw [drop_cons s k (by omega),Bn (by simp;omega),bJ,Mm s k (by omega) hne];rfl
theorem GO (s:ByteArray) (k:Nat) (h:k+1<s.size) (hne:((s[k].toNat:Int) != 39)=false) (hn:((s[k+1].toNat:Int) != 39)=true):lV s k=k+1:=by
 unfold lV
 rw [drop_cons s k (by omega),drop_cons s (k+1) h,bJ,Mm s k (by omega) hne]
 simp [U1 s (k+1) h hn]
theorem Jv (s:ByteArray) (k:Nat) (h:k+1<s.size) (hne:((s[k].toNat:Int) != 39)=false) (hn:((s[k+1].toNat:Int) != 39)=false):lV s k=lV s (k+2):=by
 unfold lV
 rw [drop_cons s k (by omega),drop_cons s (k+1) h,bJ,Mm s k (by omega) hne]
 simp only [Mm s (k+1) h hn,if_true]
 cases bJ (s.data.toList.drop (k+1+1)) <;> simp;omega
theorem Mn (s:ByteArray) (k:Nat) (h:s.size<=k):lV s k=0:=by
 unfold lV;rw [Bn (by simpa using h)];rfl
theorem jT:∀ (l:Sp.Bs) (n:Nat),bJ l=some n->n<=l.length
 | [],n,h=>by simp [bJ] at h
 | c :: [],n,h=>by
  simp only [bJ] at h
  split at h
  ·simp at h;simp;omega
  ·simp at h
 | c::c'::r,n,h=>by
  by_cases hc:(c == 39)=true
  ·by_cases hc' : (c' == 39)=true
   ·simp only [bJ,hc,hc',if_true] at h
    cases hr:bJ r with
    | none=>rw [hr] at h;simp at h
    | some m=>
     rw [hr] at h
     have:=jT r m hr
     simp at h;simp;omega
   ·simp only [bJ,hc,hc',if_true] at h
    simp at h;simp;omega
  ·have hc'' : (c == 39)=false:=by simpa using hc
   rw [pX c _ hc''] at h
   cases hr:bJ (c'::r) with
   | none=>rw [hr] at h;simp at h
   | some m=>
    rw [hr] at h
    have:=jT (c'::r) m hr
    simp at h;simp at this ⊢;omega
theorem Pm (s:ByteArray) (k:Nat) (hk:k<=s.size):lV s k<=s.size:=by
 unfold lV
 cases h:bJ (s.data.toList.drop k) with
 | none=>simp
 | some n=>
  have:=jT _ _ h
  simp at this ⊢;omega
theorem mL (s:ByteArray) (w:World) (h0:0<s.size) (hs:s.size<=maxLen) :
  Calls prog 120 #[.string s] w λe w'=>e = .returned (.int .i64 (lV s 1:Nat))/\w'=w:=by
 unfold maxLen at hs
 go_enter func120,ntmps120
 go_wp2
 go_loop [3] (λi=>∃ k:Nat,1<=k/\k<=s.size+1/\i = .int .i64 k/\Hid (lV s k=lV s 1)) (λi=>s.size+2 - (intOf i).toNat)
 case atStart=>exact ⟨1,aF _,by omega,rfl,rfl⟩
 case round=>
  obtain ⟨k,hk1,hk,rfl,HR⟩:=hrel
  by_cases hlt:k<s.size
  ·cases hq:((s[k].toNat:Int) != 39)
   ·by_cases hl:k+1=s.size
    ·have HV:Hid (lV s k=k+1):=Ju s k hl hq
     have hb:((k:Int)+1 == (s.size:Int))=true:=by simp;omega
     go_wp2
     go_ret
     exact ⟨aQ (by rw [<- HR.out,HV.out];rfl),rfl⟩
    ·have hl2:k+1<s.size:=by omega
     have hb:((k:Int)+1 == (s.size:Int))=false:=by simp;omega
     cases hq2:((s[k+1].toNat:Int) != 39)
     ·have HV:Hid (lV s k=lV s (k+2)):=Jv s k hl2 hq hq2
      go_wp2
      go_round
      case rel=>exact ⟨k+2,by omega,by omega,by go_num,by show _=_;rw [<- HV.out,HR.out]⟩
      case measure=>simp [intOf];omega
     ·have HV:Hid (lV s k=k+1):=GO s k hl2 hq hq2
      go_wp2
      go_ret
      exact ⟨aQ (by rw [<- HR.out,HV.out];rfl),rfl⟩
   ·have HV:Hid (lV s k=lV s (k+1)):=GN s k hlt hq
    go_wp2
    go_round
    case rel=>exact ⟨k+1,by omega,by omega,by go_num,by show _=_;rw [<- HV.out,HR.out]⟩
    case measure=>simp [intOf];omega
  ·have HV:Hid (lV s k=0):=Mn s k (by omega)
   go_wp2
   go_ret
   exact ⟨aQ (by rw [<- HR.out,HV.out];rfl),rfl⟩
def DP (a:Nat) (l:Sp.Bs):Nat:=l.foldl (λa c=>a*10+(c.toNat - 48)) a
theorem FL:∀ (l:Sp.Bs) (a:Nat),a<=DP a l
 | [],a=>aF _
 | c::r,a=>by
  have:=FL r (a*10+(c.toNat - 48))
  simp only [DP,List.foldl_cons] at this ⊢
  omega
theorem DQ (c:UInt8):bU c=true↔48<=c.toNat/\c.toNat<=57:=by
 simp [bU,UInt8.le_iff_toNat_le]
theorem N9 (M:Nat) (hM:M=18446744073709551615):∀ (l:Sp.Bs) (a:Nat),l.all bU=true->a<=M->Lib.parseUintM M a l=if DP a l<=M then .ok (DP a l) else .range
 | [],a,_,ha=>by simp [Lib.parseUintM,DP,ha]
 | c::r,a,hd,ha=>by
  simp only [List.all_cons,Bool.and_eq_true] at hd
  have hc:=(DQ c).1 hd.1
  have hg:=FL r (a*10+(c.toNat - 48))
  have he:DP a (c::r)=DP (a*10+(c.toNat - 48)) r:=rfl
  rw [Lib.parseUintM,if_pos hc,he]
  by_cases h1:1844674407370955162<=a
  ·rw [if_pos h1,if_neg (by omega)]
  ·rw [if_neg h1]
   by_cases h2:M<a*10+(c.toNat - 48)
   ·rw [if_pos h2,if_neg (by omega)]
   ·rw [if_neg h2,N9 M hM r _ hd.2 (by omega)]
theorem Oa {l:Sp.Bs} (h:l ≠ []) (hd:l.all bU=true):Lib.parseUintB 64 l=if dK l<=18446744073709551615 then .ok (dK l) else .range:=by
 rw [Lib.parseUintB,if_neg h,N9 _ rfl l 0 hd (by omega)];rfl
theorem FM {l:Sp.Bs} (h:l ≠ []) (hd:l.all bU=true) (hv:dK l<9223372036854775808):Lib.parseIntB 64 l = .ok (dK l:Int):=by
 cases l with
 | nil=>exact absurd rfl h
 | cons c r=>
  have hc:=(DQ c).1 (by simp only [List.all_cons,Bool.and_eq_true] at hd;exact hd.1)
  rw [Lib.parseIntB]
  simp only [show ¬ (c.toNat=43) from by omega,show ¬ (c.toNat=45) from by omega,or_self,if_false]
  rw [Oa h hd,if_pos (by omega)]
  simp only [not_false_eq_true,true_and,false_and,if_false]
  rw [if_neg (by omega)]
theorem DR {l:Sp.Bs} (h:l ≠ []) (hd:l.all bU=true) (hv:¬ dK l<9223372036854775808):Lib.parseIntB 64 l = .range:=by
 cases l with
 | nil=>exact absurd rfl h
 | cons c r=>
  have hc:=(DQ c).1 (by simp only [List.all_cons,Bool.and_eq_true] at hd;exact hd.1)
  rw [Lib.parseIntB]
  simp only [show ¬ (c.toNat=43) from by omega,show ¬ (c.toNat=45) from by omega,or_self,if_false]
  rw [Oa h hd]
  by_cases hu:dK (c::r)<=18446744073709551615
  ·rw [if_pos hu]
   simp only [not_false_eq_true,true_and,false_and,if_false]
   rw [if_pos (by omega)]
  ·rw [if_neg hu]
def VR (w:World):Prop:=∃ te pe,w.cell? ⟨1,0,none⟩=some (.iface te pe)/\1<w.heap.size
theorem wK (s:ByteArray) (w:World) (hne:s.data.toList ≠ []) (hd:s.data.toList.all bU=true) (hs:s.size<=100000) (hv:dK s.data.toList<9223372036854775808) :
  Calls prog 118 #[.string s] w λe w'=>e = .returned (.int .i64 (kn .num))/\Below w.heap.size w w':=by
 have H:Hid (Lib.parseIntB 64 s.data.toList = .ok (dK s.data.toList:Int)):=FM hne hd hv
 clear hne hd hv
 go_enter func118,ntmps118
 go_wp2_with fail
 refine (strconv_ParseInt_10_at64_ok s (by omega) _ H.out _).mono ?_
 rintro e w' ⟨rfl,hw⟩
 have HW:Hid (Below w.heap.size w w'):=by
  rcases hw with rfl | ⟨t,rfl⟩
  ·exact Below.refl _ _
  ·exact Lib.bytesWorld_below _ _ _
 clear hw
 go_wp2_with fail
 go_ret
 exact ⟨rfl,HW.out⟩
theorem tY (s:ByteArray) (w:World) (hne:s.data.toList ≠ []) (hd:s.data.toList.all bU=true) (hs:s.size<=100000) (hv:¬ dK s.data.toList<9223372036854775808) (hr:VR w) :
  Calls prog 118 #[.string s] w λe w'=>e = .returned (.int .i64 (kn .bad))/\Below w.heap.size w w':=by
 have H:Hid (Lib.parseIntB 64 s.data.toList = .range):=DR hne hd hv
 clear hne hd hv
 obtain ⟨te,pe,hc,_⟩:=hr
 have HC:=hid hc
 clear hc
 go_enter func118,ntmps118
 go_wp2_with fail
 refine (strconv_ParseInt_10_at64_range s (by omega) H.out (.iface te pe) _ HC.out (Or.inr ⟨te,pe,rfl⟩)).mono ?_
 rintro e w' ⟨N,rfl,_,_,hb⟩
 have HW:=hid hb
 clear hb
 go_wp2_with fail
 go_ret
 exact ⟨rfl,HW.out⟩
end Go.Proofs.YtgnncnhkgmhngaaGreatDoor
