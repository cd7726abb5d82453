import Derived.Test.YtgnncnhkgmhngaaGreatDoorProg
import Derived.WalkKit
import Derived.Test.YtgnncnhkgmhngaaGreatDoorJ01
import Derived.WalkSpells
import Derived.WalkLawsBesides
import Derived.Deep.QuietTactic
import Derived.BigQuiet
import Derived.Deep.RegionWith
set_option maxHeartbeats 1000000
namespace Go.Proofs.YtgnncnhkgmhngaaGreatDoor
open Go.RowKit
theorem hid {p:Prop} (h:p):Hid p:=h
theorem hidc {P:Program} {f:FuncId} {a:Array Value} {w:World} {Q:Ending→World→Prop} (h:Calls P f a w Q):Hid (∀ w',w'=w→Calls P f a w' Q):=fun _ e=>e ▸ h
theorem mkFn:∀ (fn:Fn) (first cap:Array Value) (w:World),(Instr.makeFunc fn first cap).run Tryz.prog w = .ok (.func fn first cap) w:=fun _ _ _ _=>rfl
theorem u8_eq (c:UInt8) (k:UInt8):((c.toNat:Int) == (k.toNat:Int))=(c == k):=by
 rw [Bool.eq_iff_iff];simp only [beq_iff_eq]
 constructor
 ·intro h;exact UInt8.toNat_inj.1 (by omega)
 ·intro h;rw [h]
theorem ret_bool {a b:Bool} (h:a=b):Ending.returned (.bool a) = .returned (.bool b):=by rw [h]
theorem ret_int {k:IntKind} {a b:Int} (h:a=b):Ending.returned (.int k a) = .returned (.int k b):=by rw [h]
theorem isSpace_any (c:UInt8) (w:World) :
  Calls Tryz.prog 73 #[.int .u8 (c.toNat:Int)] w fun e w'=>e = .returned (.bool (Sp.isSp c))∧w'=w:=by
 have e1:=u8_eq c 32
 have e2:=u8_eq c 10
 have E:Hid (Sp.isSp c=(((c.toNat:Int) == 32)||((c.toNat:Int) == 10))):=by
  show Sp.isSp c=_
  rw [Sp.isSp,← e1,← e2];rfl
 clear e1 e2
 go_enter Tryz.func73,Tryz.ntmps73
 go_wp2
 all_goals go_ret
 all_goals exact ⟨ret_bool (by rw [E.out];first | done | (simp [*];done)),rfl⟩
theorem isLetter_any (c:UInt8) (w:World) :
  Calls Tryz.prog 114 #[.int .u8 (c.toNat:Int)] w fun e w'=>e = .returned (.bool (Sp.isLo c))∧w'=w:=by
 have E:Hid (Sp.isLo c=(decide (97≤(c.toNat:Int))&&decide ((c.toNat:Int)≤122))):=by
  show Sp.isLo c=_
  rw [Sp.isLo,Bool.eq_iff_iff];simp [UInt8.le_iff_toNat_le];omega
 go_enter Tryz.func114,Tryz.ntmps114
 go_wp2
 all_goals go_ret
 all_goals exact ⟨ret_bool (by rw [E.out];first | (simp [*];done) | (simp;omega)),rfl⟩
theorem isDigit_any (c:UInt8) (w:World) :
  Calls Tryz.prog 117 #[.int .u8 (c.toNat:Int)] w fun e w'=>e = .returned (.bool (Sp.isDg c))∧w'=w:=by
 have E:Hid (Sp.isDg c=(decide (48≤(c.toNat:Int))&&decide ((c.toNat:Int)≤57))):=by
  show Sp.isDg c=_
  rw [Sp.isDg,Bool.eq_iff_iff];simp [UInt8.le_iff_toNat_le];omega
 go_enter Tryz.func117,Tryz.ntmps117
 go_wp2
 all_goals go_ret
 all_goals exact ⟨ret_bool (by rw [E.out];first | (simp [*];done) | (simp;omega)),rfl⟩
theorem isWordByte_any (c:UInt8) (w:World) :
  Calls Tryz.prog 115 #[.int .u8 (c.toNat:Int)] w fun e w'=>e = .returned (.bool (Sp.isWd c))∧w'=w:=by
 have e1:=u8_eq c 95
 have E:Hid (Sp.isWd c=(Sp.isLo c||Sp.isDg c||((c.toNat:Int) == 95))):=by
  show Sp.isWd c=_
  rw [Sp.isWd,← e1];rfl
 clear e1
 go_enter Tryz.func115,Tryz.ntmps115
 go_wp2_with (first | (go_at_call 114;refine (isLetter_any _ _).mono ?_;rintro e w' ⟨rfl,rfl⟩) | (go_at_call 117;refine (isDigit_any _ _).mono ?_;rintro e w' ⟨rfl,rfl⟩))
 all_goals go_ret
 all_goals exact ⟨ret_bool (by rw [E.out];first | done | (simp [*];done)),rfl⟩
theorem many_le (p:UInt8→Bool):∀ l:Sp.Bs,Sp.many p l≤l.length
 | []=>by simp [Sp.many]
 | c::r=>by have:=many_le p r;simp only [Sp.many,List.length_cons];split <;> omega
theorem many_step (p:UInt8→Bool) (s:ByteArray) (k:Nat) (h:k<s.size) (hp:p s[k]=true):Sp.many p (s.data.toList.drop k)=Sp.many p (s.data.toList.drop (k+1))+1:=by
 have hk:k<s.data.toList.length:=by simpa using h
 rw [List.drop_eq_getElem_cons hk,Sp.many]
 have:s.data.toList[k]=s[k]:=rfl
 rw [this,hp];rfl
theorem many_stop (p:UInt8→Bool) (s:ByteArray) (k:Nat) (h:k<s.size) (hp:p s[k]=false):Sp.many p (s.data.toList.drop k)=0:=by
 have hk:k<s.data.toList.length:=by simpa using h
 rw [List.drop_eq_getElem_cons hk,Sp.many]
 have:s.data.toList[k]=s[k]:=rfl
 rw [this,hp];rfl
theorem many_end (p:UInt8→Bool) (s:ByteArray) (k:Nat) (h:s.size≤k):Sp.many p (s.data.toList.drop k)=0:=by
 rw [List.drop_of_length_le (by simpa using h)];rfl
theorem countSpace_any (s:ByteArray) (w:World) (hs:s.size≤maxLen) :
  Calls Tryz.prog 72 #[.string s, .func (.func 73) #[] #[]] w fun e w'=>e = .returned (.int .i64 (Sp.many Sp.isSp s.data.toList:Nat))∧w'=w:=by
 unfold maxLen at hs
 go_enter Tryz.func72,Tryz.ntmps72
 go_wp2_with fail
 go_loop [5] (fun i=>∃ k:Nat,k≤s.size∧i = .int .i64 k∧Hid (Sp.many Sp.isSp s.data.toList=k+Sp.many Sp.isSp (s.data.toList.drop k))) (fun i=>s.size - (intOf i).toNat)
 case atStart=>exact ⟨0,Nat.zero_le _,rfl,by show _=_;simp⟩
 case round=>
  obtain ⟨k,hk,rfl,HR⟩:=hrel
  by_cases hlt:k<s.size
  ·cases hp:Sp.isSp s[k]
   ·have H0:Hid (Sp.many Sp.isSp (s.data.toList.drop k)=0):=many_stop _ s k hlt hp
    go_wp2_with (go_at_call 73;refine (isSpace_any _ _).mono ?_;rintro e w' ⟨rfl,rfl⟩)
    go_ret
    exact ⟨ret_int (by have a:=HR.out;have b:=H0.out;omega),rfl⟩
   ·have H0:Hid (Sp.many Sp.isSp (s.data.toList.drop k)=Sp.many Sp.isSp (s.data.toList.drop (k+1))+1):=many_step _ s k hlt hp
    go_wp2_with (go_at_call 73;refine (isSpace_any _ _).mono ?_;rintro e w' ⟨rfl,rfl⟩)
    go_round
    case rel=>exact ⟨k+1,by omega,by go_num,by have a:=HR.out;have b:=H0.out;show _=_;omega⟩
    case measure=>simp [intOf];omega
  ·have H0:Hid (Sp.many Sp.isSp (s.data.toList.drop k)=0):=many_end _ s k (by omega)
   go_wp2_with fail
   go_ret
   exact ⟨ret_int (by have a:=HR.out;have b:=H0.out;omega),rfl⟩
theorem countWord_any (s:ByteArray) (w:World) (hs:s.size≤maxLen) :
  Calls Tryz.prog 72 #[.string s, .func (.func 115) #[] #[]] w fun e w'=>e = .returned (.int .i64 (Sp.many Sp.isWd s.data.toList:Nat))∧w'=w:=by
 unfold maxLen at hs
 go_enter Tryz.func72,Tryz.ntmps72
 go_wp2_with fail
 go_loop [5] (fun i=>∃ k:Nat,k≤s.size∧i = .int .i64 k∧Hid (Sp.many Sp.isWd s.data.toList=k+Sp.many Sp.isWd (s.data.toList.drop k))) (fun i=>s.size - (intOf i).toNat)
 case atStart=>exact ⟨0,Nat.zero_le _,rfl,by show _=_;simp⟩
 case round=>
  obtain ⟨k,hk,rfl,HR⟩:=hrel
  by_cases hlt:k<s.size
  ·cases hp:Sp.isWd s[k]
   ·have H0:Hid (Sp.many Sp.isWd (s.data.toList.drop k)=0):=many_stop _ s k hlt hp
    go_wp2_with (go_at_call 115;refine (isWordByte_any _ _).mono ?_;rintro e w' ⟨rfl,rfl⟩)
    go_ret
    exact ⟨ret_int (by have a:=HR.out;have b:=H0.out;omega),rfl⟩
   ·have H0:Hid (Sp.many Sp.isWd (s.data.toList.drop k)=Sp.many Sp.isWd (s.data.toList.drop (k+1))+1):=many_step _ s k hlt hp
    go_wp2_with (go_at_call 115;refine (isWordByte_any _ _).mono ?_;rintro e w' ⟨rfl,rfl⟩)
    go_round
    case rel=>exact ⟨k+1,by omega,by go_num,by have a:=HR.out;have b:=H0.out;show _=_;omega⟩
    case measure=>simp [intOf];omega
  ·have H0:Hid (Sp.many Sp.isWd (s.data.toList.drop k)=0):=many_end _ s k (by omega)
   go_wp2_with fail
   go_ret
   exact ⟨ret_int (by have a:=HR.out;have b:=H0.out;omega),rfl⟩
theorem countDigit_any (s:ByteArray) (w:World) (hs:s.size≤maxLen) :
  Calls Tryz.prog 72 #[.string s, .func (.func 117) #[] #[]] w fun e w'=>e = .returned (.int .i64 (Sp.many Sp.isDg s.data.toList:Nat))∧w'=w:=by
 unfold maxLen at hs
 go_enter Tryz.func72,Tryz.ntmps72
 go_wp2_with fail
 go_loop [5] (fun i=>∃ k:Nat,k≤s.size∧i = .int .i64 k∧Hid (Sp.many Sp.isDg s.data.toList=k+Sp.many Sp.isDg (s.data.toList.drop k))) (fun i=>s.size - (intOf i).toNat)
 case atStart=>exact ⟨0,Nat.zero_le _,rfl,by show _=_;simp⟩
 case round=>
  obtain ⟨k,hk,rfl,HR⟩:=hrel
  by_cases hlt:k<s.size
  ·cases hp:Sp.isDg s[k]
   ·have H0:Hid (Sp.many Sp.isDg (s.data.toList.drop k)=0):=many_stop _ s k hlt hp
    go_wp2_with (go_at_call 117;refine (isDigit_any _ _).mono ?_;rintro e w' ⟨rfl,rfl⟩)
    go_ret
    exact ⟨ret_int (by have a:=HR.out;have b:=H0.out;omega),rfl⟩
   ·have H0:Hid (Sp.many Sp.isDg (s.data.toList.drop k)=Sp.many Sp.isDg (s.data.toList.drop (k+1))+1):=many_step _ s k hlt hp
    go_wp2_with (go_at_call 117;refine (isDigit_any _ _).mono ?_;rintro e w' ⟨rfl,rfl⟩)
    go_round
    case rel=>exact ⟨k+1,by omega,by go_num,by have a:=HR.out;have b:=H0.out;show _=_;omega⟩
    case measure=>simp [intOf];omega
  ·have H0:Hid (Sp.many Sp.isDg (s.data.toList.drop k)=0):=many_end _ s k (by omega)
   go_wp2_with fail
   go_ret
   exact ⟨ret_int (by have a:=HR.out;have b:=H0.out;omega),rfl⟩
def kn:Sp.Cl→Int | .fin=>0 | .bad=>1 | .key=>2 | .name=>3 | .num=>4 | .txt=>5
theorem tokenEmpty_any (k:Int) (s:ByteArray) (w:World) (h:s.toList.isEmpty=true) :
  Calls Tryz.prog 119 #[.int .i64 k, .string s] w fun e w'=>e = .returned (.agg #[.int .i64 1, .int .i64 0, .string ⟨#[]⟩])∧Below w.heap.size w w':=by
 go_enter Tryz.func119,Tryz.ntmps119
 go_wp2
 exact bodyPost_ret (v := .agg #[.int .i64 1, .int .i64 0, .string ⟨#[]⟩]) (by simp [results,Tryz.results119,go_sem]) rfl ⟨rfl,(Below.refl _ _).alloc (Nat.le_refl _) _⟩
theorem tokenFull_any (k:Int) (s:ByteArray) (w:World) (h:s.toList.isEmpty=false) :
  Calls Tryz.prog 119 #[.int .i64 k, .string s] w fun e w'=>e = .returned (.agg #[.int .i64 k, .int .i64 0, .string s])∧Below w.heap.size w w':=by
 go_enter Tryz.func119,Tryz.ntmps119
 go_wp2
 exact bodyPost_ret (v := .agg #[.int .i64 k, .int .i64 0, .string s]) (by simp [results,Tryz.results119,go_sem]) rfl ⟨rfl,(Below.refl _ _).alloc (Nat.le_refl _) _⟩
abbrev enV (v:Sv.Val):Value := .agg #[.int .i64 v.k, .int .i64 v.n, .string v.s]
structure Kept (b:Nat) (w w' : World):Prop where
 os:w'.os=w.os
 tape:w'.tape=w.tape
 output:w'.output=w.output
 size:w.heap.size≤w'.heap.size
 block:∀ k,k<w.heap.size→k≠b→w'.heap[k]?=w.heap[k]?
theorem Kept.refl (b:Nat) (w:World):Kept b w w:=⟨rfl,rfl,rfl,Nat.le_refl _,fun _ _ _=>rfl⟩
theorem Kept.trans {b:Nat} {x y z:World} (h:Kept b x y) (k:Kept b y z):Kept b x z:=
 ⟨k.os.trans h.os,k.tape.trans h.tape,k.output.trans h.output,Nat.le_trans h.size k.size,fun i hi hb=>(k.block i (Nat.lt_of_lt_of_le hi h.size) hb).trans (h.block i hi hb)⟩
theorem Kept.below {b:Nat} {w w' : World} (h:Below w.heap.size w w'):Kept b w w':=⟨h.os,h.tape,h.output,h.size,fun k hk _=>h.block k hk⟩
theorem Kept.drew {b:Nat} {a w:World} (h:Kept b a w):Kept b a w.drew:=⟨h.os,h.tape,h.output,h.size,h.block⟩
theorem Kept.drewN {b:Nat} {a w:World} (h:Kept b a w) (n:Nat):Kept b a (w.drewN n):=h.trans ⟨rfl,rfl,rfl,Nat.le_refl _,fun _ _ _=>rfl⟩
theorem Kept.alloc {b:Nat} {a w:World} (h:Kept b a w) (o:Obj):Kept b a (w.alloc o):=
 h.trans ⟨rfl,rfl,rfl,by simp,fun k hk _=>Below.heap_alloc _ _ _ hk⟩
theorem Kept.setCell {b:Nat} {a w:World} (h:Kept b a w) (o:Nat) (u:Value):Kept b a (w.setCell ⟨b,o,none⟩ u):=
 h.trans ⟨rfl,rfl,rfl,by simp [World.setCell],fun k _ hb=>Below.heap_setCell _ _ _ _ hb⟩
theorem Kept.cell {b:Nat} {w w' : World} (h:Kept b w w') {p:Addr} (hp:p.block<w.heap.size) (hb:p.block≠b):w'.cell? p=w.cell? p:=World.cell?_of_block (w:=w) (h.block p.block hp hb)
theorem Kept.frozen {b:Nat} {w w' : World} (h:Kept b w w') {p:Addr} (hp:p.block<w.heap.size) (hb:p.block≠b):w'.frozen? p=w.frozen? p:=World.frozen?_of_block (w:=w) (h.block p.block hp hb)
theorem Kept.setNew {b:Nat} {a w:World} (h:Kept b a w) {p:Addr} (hp:a.heap.size≤p.block) (u:Value):Kept b a (w.setCell p u):=
 ⟨h.os,h.tape,h.output,by simpa [World.setCell] using h.size,fun k hk hb=>(Below.heap_setCell _ _ _ _ (by omega)).trans (h.block k hk hb)⟩
theorem any_hit (zs:List ByteArray) (x:ByteArray) (k:Nat) (h:k<zs.length) (e:(x.toList == zs[k].toList)=true):zs.any (fun z=>x.toList == z.toList)=true:=
 List.any_eq_true.2 ⟨zs[k],List.getElem_mem h,e⟩
theorem any_miss (zs:List ByteArray) (x:ByteArray) (h:∀ j,(hj:j<zs.length)→(x.toList == zs[j].toList)=false):zs.any (fun z=>x.toList == z.toList)=false:=by
 rw [List.any_eq_false]
 intro z hz
 obtain ⟨j,hj,rfl⟩:=List.getElem_of_mem hz
 simp [h j hj]
def oneOf (zs:List ByteArray) (x:ByteArray):Bool:=zs.any (fun z=>x.toList == z.toList)
theorem index_any (b off n c:Nat) (zs:List ByteArray) (x:ByteArray) (w:World) (hz:n=zs.length) (hbig:n≤1000) (hc:∀ j,(h:j<zs.length)→w.cell? ⟨b,off+j,none⟩=some (.string zs[j])) :
  Calls Tryz.prog 251 #[.slice (some ⟨b,off,none⟩) n c, .string x] w fun e w'=>(∃ q:Int,e = .returned (.int .i64 q)∧(decide (0≤q))=oneOf zs x)∧w'=w:=by
 have HC:=hid hc
 clear hc
 have HZ:=hid hz
 clear hz
 go_enter Tryz.func251,Tryz.ntmps251
 go_wp2
 go_loop [8] (fun i=>∃ k:Nat,k≤n∧i = .int .i64 k∧Hid (∀ j,j<k→(hj:j<zs.length)→(x.toList == zs[j].toList)=false)) (fun i=>n - (intOf i).toNat)
 case atStart=>exact ⟨0,Nat.zero_le _,rfl,fun j hj=>absurd hj (Nat.not_lt_zero _)⟩
 case round=>
  obtain ⟨k,hk,rfl,HR⟩:=hrel
  by_cases hlt:k<n
  ·have hkz:k<zs.length:=by have:=HZ.out;omega
   have hcell:=HC.out k hkz
   cases he:(x.toList == zs[k].toList)
   ·go_wp2
    go_round
    case rel=>exact ⟨k+1,by omega,by go_num,fun j hj hj'=>by
     by_cases e:j=k
     ·subst e;exact he
     ·exact HR.out j (by omega) hj'⟩
    case measure=>simp [intOf];omega
   ·have HV:Hid (oneOf zs x=true):=any_hit zs x k hkz he
    go_wp2
    go_ret
    exact ⟨⟨_,rfl,by rw [HV.out];simp⟩,rfl⟩
  ·have HV:Hid (oneOf zs x=false):=any_miss zs x fun j hj=>HR.out j (by have:=HZ.out;omega) hj
   go_wp2
   go_ret
   exact ⟨⟨_,rfl,by rw [HV.out];simp⟩,rfl⟩
theorem contains_any (b off n c:Nat) (zs:List ByteArray) (x:ByteArray) (w:World) (hz:n=zs.length) (hbig:n≤1000) (hc:∀ j,(h:j<zs.length)→w.cell? ⟨b,off+j,none⟩=some (.string zs[j])) :
  Calls Tryz.prog 211 #[.slice (some ⟨b,off,none⟩) n c, .string x] w fun e w'=>e = .returned (.bool (oneOf zs x))∧w'=w:=by
 have H:Hid (∀ w',w'=w→Calls Tryz.prog 251 #[.slice (some ⟨b,off,none⟩) n c, .string x] w' fun e w''=>(∃ q:Int,e = .returned (.int .i64 q)∧(decide (0≤q))=oneOf zs x)∧w''=w'):=fun w' e=>by subst e;exact index_any b off n c zs x w' hz hbig hc
 clear hz hc
 go_enter Tryz.func211,Tryz.ntmps211
 go_wp2_with fail
 refine (H.out _ rfl).mono ?_
 rintro e w' ⟨⟨q,rfl,hq⟩,rfl⟩
 have HQ:=hid hq
 clear hq
 go_wp2_with fail
 go_ret
 exact ⟨ret_bool HQ.out,rfl⟩
theorem is_prog (b off n c:Nat) (zs:List ByteArray) (x:ByteArray) (k a:Int) (w:World) (hz:n=zs.length) (hbig:n≤1000) (hb:b<w.heap.size) (hc:∀ j,(h:j<zs.length)→w.cell? ⟨b,off+j,none⟩=some (.string zs[j])) :
  Calls Tryz.prog 173 #[.agg #[.int .i64 k, .int .i64 a, .string x], .slice (some ⟨b,off,none⟩) n c] w fun e w'=>e = .returned (.bool (oneOf zs x))∧w'=w.alloc (.cells #[.int .i64 k, .int .i64 a, .string x] 155):=by
 have H:Hid (∀ o,Calls Tryz.prog 211 #[.slice (some ⟨b,off,none⟩) n c, .string x] (w.alloc o) fun e w''=>e = .returned (.bool (oneOf zs x))∧w''=w.alloc o):=fun o=>contains_any b off n c zs x (w.alloc o) hz hbig (fun j h=>(World.cell?_alloc_lt _ _ _ hb).trans (hc j h))
 clear hz hc
 go_enter Tryz.func173,Tryz.ntmps173
 go_wp2_with fail
 refine (H.out _).mono ?_
 rintro e w' ⟨rfl,rfl⟩
 go_wp2_with fail
 go_ret
 exact ⟨rfl,rfl⟩
def pos (s:Sp.Bs):Nat→Nat
 | 0=>0
 | i+1=>Sp.tokEnd s (pos s i)
def fixd:List Sp.Bs:=Sp.keys ++ [[40], [41], [44], [46], [42], [43], [45], [47], [61], [60,62], [60], [60,61], [62], [62,61]]
def WordOK (s:Sp.Bs) (e:Nat) (wd:Sp.Bs):Prop:=∀ x∈fixd,(wd == x)=(Sp.tokCl s e == .key&&Sp.tokWord s e == x)
structure TK (s:Sp.Bs) (len:Nat):Prop where
 one:1≤len
 top:len≤100000
 mid:∀ j,j+1<len→Sp.tokCl s (pos s j) ≠ .fin∧Sp.tokCl s (pos s j) ≠ .bad
 last:∀ j,j+1=len→Sp.tokCl s (pos s j) = .fin∨Sp.tokCl s (pos s j) = .bad
def er:Sp.St→Nat | .live _=>0 | .dead x _=>x
def ea:Sp.St→Nat | .live _=>0 | .dead _ a=>a
def IX (s:Sp.Bs) (len i:Nat):Sp.St→Prop
 | .live e=>i<len∧pos s i=e
 | .dead x _=>i+1=len∧x≠0
theorem IX.lt {s:Sp.Bs} {len i:Nat} {σ:Sp.St} (h:IX s len i σ):i<len:=by
 cases σ with
 | live e=>exact h.1
 | dead x a=>have:=h.1;omega
structure TC (c:Nat) (s:Sp.Bs) (w:World) (j:Nat) (wd:ByteArray):Prop where
 k:w.cell? ⟨c,j*3,none⟩=some (.int .i64 (kn (Sp.tokCl s (pos s j))))
 a:w.cell? ⟨c,j*3+1,none⟩=some (.int .i64 (Sp.tokAt s (pos s j):Nat))
 t:w.cell? ⟨c,j*3+2,none⟩=some (.string wd)
 ok:WordOK s (pos s j) wd.toList
 wq:Sp.tokCl s (pos s j) ≠ .bad→wd.toList=Sp.tokWord s (pos s j)
structure PS (b c cap len:Nat) (s:Sp.Bs) (d:Nat) (σ:Sp.St) (w:World):Prop where
 lb:b<w.heap.size
 lc:c<w.heap.size
 ne:c≠b
 tk:TK s len
 h0:w.cell? ⟨b,0,none⟩=some (.slice (some ⟨c,0,none⟩) len cap)
 h1:∃ i:Nat,IX s len i σ∧w.cell? ⟨b,1,none⟩=some (.int .i64 i)
 h2:w.cell? ⟨b,2,none⟩=some (.int .i64 d)
 h3:w.cell? ⟨b,3,none⟩=some (.int .i64 (er σ))
 h4:w.cell? ⟨b,4,none⟩=some (.int .i64 (ea σ))
 fz:∀ o,w.frozen? ⟨b,o,none⟩=false
 tc:∀ j,j<len→∃ wd,TC c s w j wd
 h5:5<c∧c<b
 vm:∃ m:Int,w.cell? ⟨5,0,none⟩=some (.int .i64 m)
theorem TC.kept {b c:Nat} {s:Sp.Bs} {w w' : World} {j:Nat} {wd:ByteArray} (h:TC c s w j wd) (k:Kept b w w') (lc:c<w.heap.size) (ne:c≠b):TC c s w' j wd:=
 ⟨(k.cell (p:=⟨c,_,none⟩) lc ne).trans h.k,(k.cell (p:=⟨c,_,none⟩) lc ne).trans h.a,(k.cell (p:=⟨c,_,none⟩) lc ne).trans h.t,h.ok,h.wq⟩
theorem PS.next {b c cap len:Nat} {s:Sp.Bs} {d d' : Nat} {σ σ' : Sp.St} {w w' : World} (h:PS b c cap len s d σ w) (k:Kept b w w')
  (h0:w'.cell? ⟨b,0,none⟩=some (.slice (some ⟨c,0,none⟩) len cap)) (i:Nat) (hi:IX s len i σ') (h1:w'.cell? ⟨b,1,none⟩=some (.int .i64 i)) (h2:w'.cell? ⟨b,2,none⟩=some (.int .i64 d'))
  (h3:w'.cell? ⟨b,3,none⟩=some (.int .i64 (er σ'))) (h4:w'.cell? ⟨b,4,none⟩=some (.int .i64 (ea σ'))) (fz:∀ o,w'.frozen? ⟨b,o,none⟩=false):PS b c cap len s d' σ' w':=
 ⟨Nat.lt_of_lt_of_le h.lb k.size,Nat.lt_of_lt_of_le h.lc k.size,h.ne,h.tk,h0,⟨i,hi,h1⟩,h2,h3,h4,fz,fun j hj=>(by obtain ⟨wd,t⟩:=h.tc j hj;exact ⟨wd,t.kept k h.lc h.ne⟩),h.h5,(by obtain ⟨m,hm⟩:=h.vm;have:=h.h5;have:=h.lc;exact ⟨m,(k.cell (p:=⟨5,0,none⟩) (by show 5<_;omega) (by show 5≠b;omega)).trans hm⟩)⟩
theorem PS.same {b c cap len:Nat} {s:Sp.Bs} {d:Nat} {σ:Sp.St} {w w' : World} (h:PS b c cap len s d σ w) (k:Kept b w w') (hb:w'.heap[b]?=w.heap[b]?):PS b c cap len s d σ w':=by
 have hc:∀ o,w'.cell? ⟨b,o,none⟩=w.cell? ⟨b,o,none⟩:=fun o=>World.cell?_of_block (w:=w) (a:=⟨b,o,none⟩) hb
 have hf:∀ o,w'.frozen? ⟨b,o,none⟩=w.frozen? ⟨b,o,none⟩:=fun o=>World.frozen?_of_block (w:=w) (a:=⟨b,o,none⟩) hb
 obtain ⟨i,hi,h1⟩:=h.h1
 exact h.next k ((hc 0).trans h.h0) i hi ((hc 1).trans h1) ((hc 2).trans h.h2) ((hc 3).trans h.h3) ((hc 4).trans h.h4) (fun o=>(hf o).trans (h.fz o))
theorem PS.alloc {b c cap len:Nat} {s:Sp.Bs} {d:Nat} {σ:Sp.St} {w:World} (h:PS b c cap len s d σ w) (o:Obj):PS b c cap len s d σ (w.alloc o):=
 h.same ((Kept.refl b w).alloc o) (Below.heap_alloc _ _ _ h.lb)
theorem PS.drew {b c cap len:Nat} {s:Sp.Bs} {d:Nat} {σ:Sp.St} {w:World} (h:PS b c cap len s d σ w):PS b c cap len s d σ w.drew:=
 h.same (Kept.refl b w).drew rfl
theorem PS.drewN {b c cap len:Nat} {s:Sp.Bs} {d:Nat} {σ:Sp.St} {w:World} (h:PS b c cap len s d σ w) (n:Nat):PS b c cap len s d σ (w.drewN n):=
 h.same ((Kept.refl b w).drewN n) rfl
theorem PS.below {b c cap len:Nat} {s:Sp.Bs} {d:Nat} {σ:Sp.St} {w w' : World} (h:PS b c cap len s d σ w) (k:Below w.heap.size w w'):PS b c cap len s d σ w':=
 h.same (Kept.below k) (k.block b h.lb)
def failAt (x a:Nat):Sp.St→Sp.St
 | .live _ => .dead x a
 | .dead y z => .dead y z
def Post (b c cap len:Nat) (s:Sp.Bs) (d:Nat) (σ:Sp.St) (w:World) (r:Ending) (w' : World):Prop:=
 r = .returned (.tuple #[])∧PS b c cap len s d σ w'∧Kept b w w'
theorem pfail_any {b c cap len:Nat} {s:Sp.Bs} {d:Nat} {σ:Sp.St} {w:World} (h:PS b c cap len s d σ w) (x a:Nat) (hx:x≠0) :
  Calls Tryz.prog 134 #[.pointer (some ⟨b,0,none⟩), .int .i64 x, .int .i64 a] w (Post b c cap len s d (failAt x a σ) w):=by
 have H:=h
 obtain ⟨lb,lc,ne,tk,h0,⟨i,hi,h1⟩,h2,h3,h4,fz,tc,h5,vm⟩:=h
 have f1:=fz 1
 have f3:=fz 3
 have f4:=fz 4
 have hl:=tk.one
 have hl2:=tk.top
 have HH:=hid H
 clear H tk tc h5 vm
 cases σ with
 | live e=>
  have h3' : w.cell? ⟨b,3,none⟩=some (.int .i64 0):=h3
  have h4' : w.cell? ⟨b,4,none⟩=some (.int .i64 0):=h4
  clear h3 h4 hi
  have FZ:=hid fz
  clear fz
  go_enter Tryz.func134,Tryz.ntmps134
  go_wp2
  go_end0
  have hlen:((len:Int) - 1)=((len - 1:Nat):Int):=by omega
  rw [hlen]
  refine ⟨rfl,HH.out.next (σ' := .dead x a) ((((Kept.refl b w).setCell 3 _).setCell 4 _).setCell 1 _) (by go_simp) (len - 1) ⟨by omega,hx⟩ ?_ (by go_simp) ?_ ?_ (fun o=>by have:=FZ.out o;go_simp),(((Kept.refl b w).setCell 3 _).setCell 4 _).setCell 1 _⟩
  all_goals show _=some _
  all_goals go_simp
  all_goals rfl
 | dead y z=>
  have hn:(((er (.dead y z):Nat):Int) != 0)=true:=by have:=hi.2;simp [er];omega
  clear hi
  go_enter Tryz.func134,Tryz.ntmps134
  go_wp2
  exact bodyPost_ret (v := .tuple #[]) (by simp [results,Tryz.results134,go_sem]) rfl ⟨rfl,HH.out,Kept.refl b w⟩
theorem fail_eq (s:Sp.Bs) (x:Nat) (σ:Sp.St) (len i:Nat) (h:IX s len i σ):failAt x (Sp.tokAt s (pos s i)) σ=σ.fail s x:=by
 cases σ with
 | live e=>simp only [failAt,Sp.St.fail];rw [h.2]
 | dead y z=>rfl
abbrev tkv (s:Sp.Bs) (i:Nat) (wd:ByteArray):Value := .agg #[.int .i64 (kn (Sp.tokCl s (pos s i))), .int .i64 (Sp.tokAt s (pos s i):Nat), .string wd]
theorem peek_any {b c cap len:Nat} {s:Sp.Bs} {d:Nat} {σ:Sp.St} {w:World} (h:PS b c cap len s d σ w) :
  ∃ i wd,IX s len i σ∧TC c s w i wd∧Calls Tryz.prog 75 #[.pointer (some ⟨b,0,none⟩)] w fun r w'=>r = .returned (.agg #[.int .i64 (kn (Sp.tokCl s (pos s i))), .int .i64 (Sp.tokAt s (pos s i):Nat), .string wd])∧Below w.heap.size w w':=by
 obtain ⟨i,hi,h1⟩:=h.h1
 obtain ⟨wd,tc⟩:=h.tc i hi.lt
 have hil:=hi.lt
 have lt:=h.tk.top
 refine ⟨i,wd,hi,tc,?_⟩
 have A0:=(World.cell?_alloc_lt w (.cells #[.int .i64 0, .int .i64 0, .string ⟨#[]⟩] 155) ⟨b,0,none⟩ h.lb).trans h.h0
 have A1:=(World.cell?_alloc_lt w (.cells #[.int .i64 0, .int .i64 0, .string ⟨#[]⟩] 155) ⟨b,1,none⟩ h.lb).trans h1
 have Ak:=(World.cell?_alloc_lt w (.cells #[.int .i64 0, .int .i64 0, .string ⟨#[]⟩] 155) ⟨c,i*3,none⟩ h.lc).trans tc.k
 have Aa:=(World.cell?_alloc_lt w (.cells #[.int .i64 0, .int .i64 0, .string ⟨#[]⟩] 155) ⟨c,i*3+1,none⟩ h.lc).trans tc.a
 have At_:=(World.cell?_alloc_lt w (.cells #[.int .i64 0, .int .i64 0, .string ⟨#[]⟩] 155) ⟨c,i*3+2,none⟩ h.lc).trans tc.t
 have Af:∀ o,(w.alloc (.cells #[.int .i64 0, .int .i64 0, .string ⟨#[]⟩] 155)).frozen? ⟨w.heap.size,o,none⟩=false:=fun o=>by go_simp
 have AB:Hid (Below w.heap.size w (w.alloc (.cells #[.int .i64 0, .int .i64 0, .string ⟨#[]⟩] 155))):=(Below.refl _ _).alloc (Nat.le_refl _) _
 have AN:∀ o,(w.alloc (.cells #[.int .i64 0, .int .i64 0, .string ⟨#[]⟩] 155)).cell? ⟨w.heap.size,o,none⟩=#[Value.int .i64 0, .int .i64 0, .string ⟨#[]⟩][o]?:=fun o=>World.cell?_alloc_new _ _ _ _
 have N0:=AN 0
 have N1:=AN 1
 have N2:=AN 2
 simp only [List.getElem?_toArray,List.getElem?_cons_zero,List.getElem?_cons_succ] at N0 N1 N2
 have F0:=Af 0
 have F1:=Af 1
 have F2:=Af 2
 clear h tc hi h1 AN Af
 go_enter Tryz.func75,Tryz.ntmps75
 go_wp2_with fail
 generalize w.alloc (.cells #[.int .i64 0, .int .i64 0, .string ⟨#[]⟩] 155)=w1 at *
 go_region_with fail
 all_goals go_wp2_with fail
 all_goals exact bodyPost_ret (v:=tkv s i wd) (by simp [results,Tryz.results75,go_sem, *]) rfl ⟨rfl,(((AB.out.setCell (Nat.le_refl _) _).setCell (Nat.le_refl _) _).setCell (Nat.le_refl _) _).drew⟩
theorem tokF0 (k a:Int) (x:ByteArray) (w:World):(Instr.field 155 (.agg #[.int .i64 k, .int .i64 a, .string x]) 0).run Tryz.prog w = .ok (.int .i64 k) w:=by kernel_rfl
theorem tokF1 (k a:Int) (x:ByteArray) (w:World):(Instr.field 155 (.agg #[.int .i64 k, .int .i64 a, .string x]) 1).run Tryz.prog w = .ok (.int .i64 a) w:=by kernel_rfl
theorem tokF2 (k a:Int) (x:ByteArray) (w:World):(Instr.field 155 (.agg #[.int .i64 k, .int .i64 a, .string x]) 2).run Tryz.prog w = .ok (.string x) w:=by kernel_rfl
theorem refuse_any {b c cap len:Nat} {s:Sp.Bs} {d:Nat} {σ:Sp.St} {w:World} (h:PS b c cap len s d σ w) :
  Calls Tryz.prog 84 #[.pointer (some ⟨b,0,none⟩)] w (Post b c cap len s d (σ.fail s 2) w):=by
 obtain ⟨i,wd,hi,tc,P⟩:=peek_any h
 rw [← fail_eq s 2 σ len i hi]
 have HH:=hid h
 have HP:=hidc P
 clear h tc hi P
 generalize kn (Sp.tokCl s (pos s i))=kk at HP
 generalize Sp.tokAt s (pos s i)=aa at *
 go_enter Tryz.func84,Tryz.ntmps84
 go_wp2_with fail
 refine (HP.out _ rfl).mono ?_
 rintro r w1 ⟨rfl,hb⟩
 have HP1:=hid (HH.out.below hb)
 have HK1:Hid (Kept b w w1):=Kept.below hb
 clear hb
 have hfd:=tokF1
 go_wp2_with fail
 refine (pfail_any HP1.out 2 _ (by decide)).mono ?_
 rintro e w' ⟨rfl,hp,hk⟩
 go_wp2_with fail
 go_end0
 exact ⟨rfl,hp,HK1.out.trans hk⟩
def isAny (s:Sp.Bs) (zs:List ByteArray) (σ:Sp.St):Bool:=zs.any (fun z=>σ.is s z.toList)
theorem any_congr {α:Type} {f g:α→Bool} : ∀ {l:List α},(∀ x∈l,f x=g x)→l.any f=l.any g
 | [],_=>rfl
 | a::r,h=>by simp only [List.any_cons];rw [h a (by simp),any_congr (fun x hx=>h x (by simp [hx]))]
theorem sees_eq {s:Sp.Bs} {len i:Nat} {σ:Sp.St} (tk:TK s len) (hi:IX s len i σ) {wd:ByteArray} (ok:WordOK s (pos s i) wd.toList) {zs:List ByteArray} (hz:∀ z∈zs,z.toList∈fixd):oneOf zs wd=isAny s zs σ:=by
 unfold oneOf isAny
 refine any_congr fun z h=>?_
 rw [ok z.toList (hz z h)]
 cases σ with
 | live e=>simp only [Sp.St.is];rw [hi.2]
 | dead x a=>
  have:=tk.last i hi.1
  rcases this with h | h <;> simp [Sp.St.is,h]
def Words (q:Nat) (zs:List ByteArray) (w:World):Prop:=q<w.heap.size∧zs.length≤1000∧(∀ z∈zs,z.toList∈fixd)∧∀ j,(h:j<zs.length)→w.cell? ⟨q,j,none⟩=some (.string zs[j])
theorem Words.drew {q:Nat} {zs:List ByteArray} {w:World} (h:Words q zs w):Words q zs w.drew:=h
theorem sees_any {b c cap len:Nat} {s:Sp.Bs} {d:Nat} {σ:Sp.St} {w:World} (h:PS b c cap len s d σ w) (q n:Nat) (zs:List ByteArray) (hw:Words q zs w) (hn:n=zs.length) :
  Calls Tryz.prog 122 #[.pointer (some ⟨b,0,none⟩), .slice (some ⟨q,0,none⟩) n n] w fun r w'=>r = .returned (.bool (isAny s zs σ))∧PS b c cap len s d σ w'∧Kept b w w'∧Below w.heap.size w w':=by
 obtain ⟨i,wd,hi,tc,P⟩:=peek_any h
 rw [← sees_eq h.tk hi tc.ok hw.2.2.1]
 have HH:=hid h
 have HW:=hid hw
 have HN:=hid hn
 have HP:=hidc P
 clear h tc hi P hw hn
 generalize kn (Sp.tokCl s (pos s i))=kk at HP
 generalize Sp.tokAt s (pos s i)=aa at HP
 go_enter Tryz.func122,Tryz.ntmps122
 go_wp2_with fail
 refine (HP.out _ rfl).mono ?_
 rintro r w1 ⟨rfl,hb⟩
 have HP1:=hid (HH.out.below hb)
 have HK1:Hid (Kept b w w1):=Kept.below hb
 have HB:=hid hb
 have HC:Hid (q<w1.heap.size∧∀ j,(hj:j<zs.length)→w1.cell? ⟨q,0+j,none⟩=some (.string zs[j])):=⟨Nat.lt_of_lt_of_le HW.out.1 hb.size,fun j hj=>(hb.cell (p:=⟨q,0+j,none⟩) HW.out.1).trans (by have:=HW.out.2.2.2 j hj;simpa using this)⟩
 clear hb
 go_wp2_with fail
 refine (is_prog q 0 n n zs wd _ _ w1 HN.out (by rw [HN.out];exact HW.out.2.1) HC.out.1 HC.out.2).mono ?_
 rintro e w' ⟨rfl,rfl⟩
 go_wp2_with fail
 go_ret
 exact ⟨rfl,HP1.out.alloc _,HK1.out.alloc _,HB.out.alloc (HB.out.size) _⟩
end Go.Proofs.YtgnncnhkgmhngaaGreatDoor
