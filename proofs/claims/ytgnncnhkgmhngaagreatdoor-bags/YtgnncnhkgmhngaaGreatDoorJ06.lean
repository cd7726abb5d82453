import Derived.Test.YtgnncnhkgmhngaaGreatDoorJ05
import Derived.Sort.Grow
import Derived.Shelf.SlicesQ.Load
import Derived.Laws.StructEq
import Derived.Shelf.SlSortCmp.QuietGrown
import Derived.StillTailTactics
set_option maxHeartbeats 1000000
set_option maxRecDepth 100000
namespace Go.Proofs.YtgnncnhkgmhngaaGreatDoor
open Go.RowKit Go.Sort
def Gr (w w' : World):Prop:=∃ (q:Nat) (os:Array Obj),w'=grow (w.drewN q) os
theorem Gr.refl (w:World):Gr w w:=⟨0,#[],by rw [grow_empty];rfl⟩
theorem Gr.trans {x y z:World} (h:Gr x y) (k:Gr y z):Gr x z:=by
 obtain ⟨q,os,rfl⟩:=h
 obtain ⟨q',os',rfl⟩:=k
 exact ⟨q+q',os++os',by show grow (grow ((x.drewN q).drewN q') os) os'=_;rw [grow_grow,World.drewN_drewN]⟩
theorem Gr.alloc {a w:World} (h:Gr a w) (o:Obj):Gr a (w.alloc o):=h.trans ⟨0,#[o],rfl⟩
theorem Gr.drew {a w:World} (h:Gr a w):Gr a w.drew:=h.trans ⟨1,#[],by rw [grow_empty];rfl⟩
theorem Gr.drewN {a w:World} (h:Gr a w) (n:Nat):Gr a (w.drewN n):=h.trans ⟨n,#[],by rw [grow_empty]⟩
theorem Gr.below {w w' : World} (h:Gr w w'):Below w.heap.size w w':=by
 obtain ⟨q,os,rfl⟩:=h
 refine ⟨rfl,rfl,rfl,?_,?_⟩
 ·show w.heap.size<=(w.heap++os).size;simp
 ·intro k hk;show (w.heap++os)[k]?=w.heap[k]?;rw [Array.getElem?_append_left hk]
theorem Gr.of {w w' : World} (h:Below w.heap.size w w') (hd:w.drawn<=w'.drawn):Gr w w':=by
 refine ⟨w'.drawn - w.drawn,w'.heap.extract w.heap.size w'.heap.size,?_⟩
 have e1:w'.heap=w.heap++w'.heap.extract w.heap.size w'.heap.size:=by
  apply Array.ext_getElem?
  intro i
  by_cases hi:i<w.heap.size
  ·rw [Array.getElem?_append_left hi];exact h.block i hi
  ·rw [Array.getElem?_append_right (by omega),Array.getElem?_extract]
   have:=h.size
   by_cases h2:i<w'.heap.size
   ·rw [if_pos (by omega),Nat.add_sub_cancel' (by omega)]
   ·rw [if_neg (by omega),Array.getElem?_eq_none (by omega)]
 have h1:=h.os
 have h2:=h.tape
 have h3:=h.output
 cases w' with | mk hp tp dr o ou=>
 cases w with | mk hp' tp' ZJ o' ZK=>
 simp only [] at e1 h1 h2 h3 hd
 subst h1 h2 h3
 simp only [grow,World.drewN,World.mk.injEq,true_and,and_true]
 refine ⟨e1,by omega⟩
theorem pG (w:World):Calls Tryz.prog 236 #[] w λe w'=>e = .returned (dI Sv.null)/\Gr w w':=by
 go_enter Tryz.func236,Tryz.ntmps236
 go_wp2
 exact cL (v:=dI Sv.null) (by simp [results,Tryz.results236,go_sem];exact ⟨rfl,rfl,rfl⟩) rfl ⟨rfl,(Gr.refl _).alloc _⟩
theorem lV (n:Int) (w:World):Calls Tryz.prog 290 #[.int .i64 n] w λe w'=>e = .returned (dI (Sv.int n))/\Gr w w':=by
 go_enter Tryz.func290,Tryz.ntmps290
 go_wp2
 exact cL (v:=dI (Sv.int n)) (by simp [results,Tryz.results290,go_sem];exact ⟨rfl,rfl,rfl⟩) rfl ⟨rfl,(Gr.refl _).alloc _⟩
theorem fW (b:Bool) (w:World):Calls Tryz.prog 231 #[.bool b] w λe w'=>e = .returned (dI (Sv.bool b))/\Gr w w':=by
 cases b
 all_goals go_enter Tryz.func231,Tryz.ntmps231
 all_goals go_wp2
 ·exact cL (v:=dI (Sv.bool false)) (by simp [results,Tryz.results231,go_sem];exact ⟨rfl,rfl,rfl⟩) rfl ⟨rfl,(Gr.refl _).alloc _⟩
 ·exact cL (v:=dI (Sv.bool true)) (by simp [results,Tryz.results231,go_sem];exact ⟨rfl,rfl,rfl⟩) rfl ⟨rfl,(Gr.refl _).alloc _⟩
theorem lW (v:Sv.Val) (w:World):Calls Tryz.prog 265 #[dI v] w λe w'=>e = .returned (.bool (Sv.isNull v))/\Gr w w':=by
 obtain ⟨k,n,s⟩:=v
 have E:Hid (Sv.isNull ⟨k,n,s⟩=(k == 0)):=by show _=_;simp only [Sv.isNull];rw [Bool.eq_iff_iff];simp
 go_enter Tryz.func265,Tryz.ntmps265
 go_wp2
 go_ret
 exact ⟨dN E.out.symm,(Gr.refl _).alloc _⟩
theorem Da (a b:Int) (w:World):Calls Tryz.prog 292 #[.int .i64 a, .int .i64 b] w λe w'=>e = .returned (.int .i64 (Sv.dY a b))/\w'=w:=by
 by_cases h1:a<b
 ·have E:Hid (Sv.dY a b=-1):=by show _=_;simp [Sv.dY,h1]
  go_enter Tryz.func292,Tryz.ntmps292
  go_wp2
  go_ret
  exact ⟨aP E.out.symm,rfl⟩
 ·by_cases h2:b<a
  ·have E:Hid (Sv.dY a b=1):=by show _=_;simp [Sv.dY,h1,h2]
   go_enter Tryz.func292,Tryz.ntmps292
   go_wp2
   go_ret
   exact ⟨aP E.out.symm,rfl⟩
  ·have E:Hid (Sv.dY a b=0):=by show _=_;simp [Sv.dY,h1,h2]
   go_enter Tryz.func292,Tryz.ntmps292
   go_wp2
   go_ret
   exact ⟨aP E.out.symm,rfl⟩
theorem yN (a b:Int) (w:World):Calls Tryz.prog 293 #[.int .i64 a, .int .i64 b] w λe w'=>e = .returned (.int .i64 (Sv.dY a b))/\w'=w:=by
 by_cases h1:a<b
 ·have E:Hid (Sv.dY a b=-1):=by show _=_;simp [Sv.dY,h1]
  go_enter Tryz.func293,Tryz.ntmps293
  go_wp2
  go_ret
  exact ⟨aP E.out.symm,rfl⟩
 ·by_cases h2:b<a
  ·have E:Hid (Sv.dY a b=1):=by show _=_;simp [Sv.dY,h1,h2]
   go_enter Tryz.func293,Tryz.ntmps293
   go_wp2
   go_ret
   exact ⟨aP E.out.symm,rfl⟩
  ·have E:Hid (Sv.dY a b=0):=by show _=_;simp [Sv.dY,h1,h2]
   go_enter Tryz.func293,Tryz.ntmps293
   go_wp2
   go_ret
   exact ⟨aP E.out.symm,rfl⟩
theorem AO:∀ a b:List UInt8,Sv.nD a b=Op.bytesLess a b
 | _, []=>by simp [Sv.nD,Op.bytesLess]
 | [],_::_=>by simp [Sv.nD,Op.bytesLess]
 | x::a,y::b=>by
  simp only [Sv.nD,Op.bytesLess]
  rw [AO a b]
  by_cases h:x<y
  ·simp [h]
  ·by_cases h2:y<x
   ·have:(x == y)=false:=by simp;intro e;subst e;exact h h2
    simp [h,h2,this]
   ·have:x=y:=by
     rw [UInt8.lt_iff_toNat_lt] at h h2
     exact UInt8.toNat_inj.1 (by omega)
    subst this
    simp [h]
theorem Vb:∀ a b:List UInt8,(!(Op.bytesLess a b||a == b))=Op.bytesLess b a
 | a, []=>by cases a <;> simp [Op.bytesLess]
 | [],y::b=>by simp [Op.bytesLess]
 | x::a,y::b=>by
  have ih:=Vb a b
  simp only [Op.bytesLess,List.cons_beq_cons]
  rw [<- ih]
  by_cases h:x=y
  ·subst h;simp [UInt8.lt_irrefl]
  ·have h1:(x == y)=false:=by simp [h]
   have h2:(y == x)=false:=by simp;exact λe=>h e.symm
   simp only [h1,h2,Bool.false_and,Bool.or_false]
   have:x.toNat≠y.toNat:=λe=>h (UInt8.toNat_inj.1 e)
   rw [Bool.eq_iff_iff];simp [UInt8.lt_iff_toNat_lt];omega
theorem FQ (a b:List UInt8):Sv.nR a b=if Op.bytesLess a b then -1 else if Op.bytesLess b a then 1 else 0:=by
 simp only [Sv.nR,AO]
theorem Db (a b:ByteArray) (w:World):Calls Tryz.prog 294 #[.string a, .string b] w λe w'=>e = .returned (.int .i64 (Sv.nR a.toList b.toList))/\w'=w:=by
 have E:Hid (Sv.nR a.toList b.toList=if Op.bytesLess a.toList b.toList then -1 else if !(Op.bytesLess a.toList b.toList||a.toList == b.toList) then 1 else 0):=by
  show _=_;rw [FQ,Vb]
 cases h1:Op.bytesLess a.toList b.toList
 ·cases h2:(a.toList == b.toList)
  all_goals go_enter Tryz.func294,Tryz.ntmps294
  all_goals go_wp2
  all_goals go_ret
  all_goals exact ⟨aP (by rw [E.out];simp [h1,h2]),rfl⟩
 ·go_enter Tryz.func294,Tryz.ntmps294
  go_wp2
  go_ret
  exact ⟨aP (by rw [E.out];simp [h1]),rfl⟩
theorem Ip (zs:List Int) (k:Nat) (h:k<zs.length) (e:zs[k]=0):Sv.Au (zs.drop k)=Sv.Au (zs.drop (k+1)):=by
 rw [nS h,Sv.Au,if_pos e]
theorem KP (zs:List Int) (k:Nat) (h:k<zs.length) (e:zs[k]≠0):Sv.Au (zs.drop k)=zs[k]:=by
 rw [nS h,Sv.Au,if_neg e]
theorem FS (b off n c:Nat) (zs:List Int) (w:World) (hz:n=zs.length) (hbig:n<=1000) (hc:∀ j,(h:j<zs.length)->w.cell? ⟨b,off+j,none⟩=some (.int .i64 zs[j])) :
  Calls Tryz.prog 291 #[.slice (some ⟨b,off,none⟩) n c] w λe w'=>e = .returned (.int .i64 (Sv.Au zs))/\w'=w:=by
 have HC:=hid hc
 clear hc
 have HZ:=hid hz
 clear hz
 go_enter Tryz.func291,Tryz.ntmps291
 go_wp2
 go_loop [8] (λi=>∃ k:Nat,k<=n/\i = .int .i64 k/\Hid (Sv.Au zs=Sv.Au (zs.drop k))) (λi=>n - (intOf i).toNat)
 case atStart=>exact ⟨0,fO _,rfl,by show _=_;simp⟩
 case round=>
  obtain ⟨k,hk,rfl,HR⟩:=hrel
  by_cases hlt:k<n
  ·have hkz:k<zs.length:=by have:=HZ.out;omega
   have hcell:=HC.out k hkz
   generalize hg:zs[k]=z at hcell
   have HG:=hid hg
   clear hg
   by_cases he:z=0
   ·have H0:Hid (Sv.Au (zs.drop k)=Sv.Au (zs.drop (k+1))):=Ip zs k hkz (HG.out.trans he)
    go_wp2
    go_round
    case rel=>exact ⟨k+1,by omega,by go_num,HR.out.trans H0.out⟩
    case measure=>simp [intOf];omega
   ·have H0:Hid (Sv.Au zs=z):=by show _=_;rw [HR.out,KP zs k hkz (by rw [HG.out];exact he)];exact HG.out
    go_wp2
    go_ret
    exact ⟨aP H0.out.symm,rfl⟩
  ·have H0:Hid (Sv.Au zs=0):=by show _=_;rw [HR.out,Aw (by have:=HZ.out;omega)];rfl
   go_wp2
   go_ret
   exact ⟨aP H0.out.symm,rfl⟩
def eqF (k n:Int) (s:ByteArray) (k' n' : Int) (s' : ByteArray):Bool:=k == k'&&n == n'&&s.toList == s'.toList
theorem bytes_inj {a b:ByteArray} (h:a.toList=b.toList):a=b:=by
 apply ByteArray.ext
 rw [pD,pD] at h
 exact Array.toList_inj.1 h
theorem yO (a b:Sv.Val):eqF a.k a.n a.s b.k b.n b.s=decide (a=b):=by
 obtain ⟨k,n,s⟩:=a
 obtain ⟨k',n',s'⟩:=b
 rw [Bool.eq_iff_iff]
 simp only [eqF,Bool.and_eq_true,beq_iff_eq,decide_eq_true_eq,Sv.Val.mk.injEq]
 constructor
 ·rintro ⟨⟨h1,h2⟩,h3⟩;exact ⟨h1,h2,bytes_inj h3⟩
 ·rintro ⟨h1,h2,h3⟩;exact ⟨⟨h1,h2⟩,by rw [h3]⟩
theorem S6 (k n:Int) (s:ByteArray) (k' n' : Int) (s' : ByteArray) (w:World) :
  (Op.equalIn 10000 40 (.agg #[.int .i64 k, .int .i64 n, .string s]) (.agg #[.int .i64 k', .int .i64 n', .string s'])).run Tryz.prog w = .ok (eqF k n s k' n' s') w:=by
 have u3:=Tryz.underlying3
 have a3:=Tryz.isAgg3
 have z3:=Tryz.sizeOf3
 have u2:=Tryz.underlying2
 have a2:=Tryz.isAgg2
 have z2:=Tryz.sizeOf2
 have u9:=Tryz.underlying9
 have a9:=Tryz.isAgg9
 have z9:=Tryz.sizeOf9
 have hS:Tryz.prog.underlying 40=some (.struct (Tryz.prog.fieldsOf 40)):=by kernel_rfl
 have hp:Tryz.prog.stoodInHeld 40=false:=by kernel_rfl
 rw [show (10000:Nat)=9999+1 from rfl,run_equalIn_agg w 9999 40 _ _ hS hp]
 simp only [Program.fieldsOf,Tryz.underlying40]
 go_simp
 unfold eqF
 by_cases h1:k=k' <;> by_cases h2:n=n' <;> by_cases h3:s.toList=s'.toList <;> simp [h1,h2,h3]
theorem mixed:Tryz.prog.follows .mixedOrders=true:=by kernel_rfl
theorem S7 (w:World) (x y z:Value) (t:TypeId) :
  (∀ m os,(grow ((w.alloc (.cells #[x,y,z] t)).drewN m) os).cell? ⟨w.heap.size,0,none⟩=some x)/\(∀ m os,(grow ((w.alloc (.cells #[x,y,z] t)).drewN m) os).cell? ⟨w.heap.size,1,none⟩=some y)/\(∀ m os,(grow ((w.alloc (.cells #[x,y,z] t)).drewN m) os).cell? ⟨w.heap.size,2,none⟩=some z):=
 ⟨λm os=>cell_grown (by simp) (by simp) m os,λm os=>cell_grown (by simp) (by simp) m os,λm os=>cell_grown (by simp) (by simp) m os⟩
theorem oC (v:Sv.Val) (w:World):Calls Tryz.prog 193 #[dI v] w λe w'=>e = .returned (.bool (Sv.isTrue v))/\Gr w w':=by
 have E:Hid (Sv.isTrue v=eqF v.k v.n v.s 1 1 ⟨#[]⟩):=by show _=_;rw [Sv.isTrue,<- yO];rfl
 obtain ⟨k,n,s⟩:=v
 have hq:=S6
 have hm:=mixed
 go_enter Tryz.func193,Tryz.ntmps193
 go_wp2_with fail
 obtain ⟨hc0,hc1,hc2⟩:=S7 w (.int .i64 k) (.int .i64 n) (.string s) 40
 go_quiet_grown (first | (go_at_call 231;refine Calls.grown_of (fW true _)))
 go_wp2_with fail
 go_ret
 exact ⟨dN E.out.symm,((Gr.refl w).alloc _).trans ⟨_,_,rfl⟩⟩
theorem Nw (b:Nat) (x y z:Int) (w:World) (h0:w.cell? ⟨b,0,none⟩=some (.int .i64 x)) (h1:w.cell? ⟨b,1,none⟩=some (.int .i64 y)) (h2:w.cell? ⟨b,2,none⟩=some (.int .i64 z)) :
  Calls Tryz.prog 291 #[.slice (some ⟨b,0,none⟩) 3 3] w λe w'=>e = .returned (.int .i64 (Sv.Au [x,y,z]))/\w'=w:=
 FS b 0 3 3 [x,y,z] w rfl (by decide) (by
  intro j hj
  match j,hj with
  | 0,_=>exact h0
  | 1,_=>exact h1
  | 2,_=>exact h2)
theorem Dc {P:Program} {id:Nat} {Q:Exit->Act->World->Prop} {a:Act} {w:World} {l:List Oper} (n:Nat) (hm:P.follows .mixedOrders=true) (hB:Region.lexTailB .any l.toArray n=true)
  (h:wpStill P l.toArray w.drew (λa'=>wpList P l.toArray Q (l.drop n) a' w.drew) (l.take n) a):(Code.region id l.toArray true).wp P Q a w:=
 wp_region_still_tail n hm hB h
theorem FU (w:World) (t1 t2 t3:TypeId) (a b:Array Value) (x y z:Int) :
  Calls Tryz.prog 291 #[.slice (some ⟨w.heap.size+1+1,0,none⟩) 3 3] (((w.alloc (.cells a t1)).alloc (.cells b t2)).alloc (.cells #[.int .i64 x, .int .i64 y, .int .i64 z] t3)).drew
   λe w'=>e = .returned (.int .i64 (Sv.Au [x,y,z]))/\w'=(((w.alloc (.cells a t1)).alloc (.cells b t2)).alloc (.cells #[.int .i64 x, .int .i64 y, .int .i64 z] t3)).drew:=
 by
 have e:((w.alloc (.cells a t1)).alloc (.cells b t2)).heap.size=w.heap.size+1+1:=by simp
 generalize ((w.alloc (.cells a t1)).alloc (.cells b t2))=W at e
 rw [<- e]
 exact Nw _ x y z _ (by simp) (by simp) (by simp)
theorem AP (a b:Sv.Val) (w:World):Calls Tryz.prog 270 #[dI a,dI b] w λe w'=>e = .returned (.int .i64 (Sv.cmp a b))/\Gr w w':=by
 obtain ⟨k,n,s⟩:=a
 obtain ⟨k',n',s'⟩:=b
 have E:Hid (Sv.cmp ⟨k,n,s⟩ ⟨k',n',s'⟩=Sv.Au [Sv.dY k k',Sv.dY n n',Sv.nR s.toList s'.toList]):=rfl
 generalize Sv.cmp ⟨k,n,s⟩ ⟨k',n',s'⟩=cv at E
 have C1:Hid (∀ w,Calls Tryz.prog 292 #[.int .i64 k, .int .i64 k'] w λe w'=>e = .returned (.int .i64 (Sv.dY k k'))/\w'=w):=λw=>Da _ _ _
 have C2:Hid (∀ w,Calls Tryz.prog 293 #[.int .i64 n, .int .i64 n'] w λe w'=>e = .returned (.int .i64 (Sv.dY n n'))/\w'=w):=λw=>yN _ _ _
 have C3:Hid (∀ w,Calls Tryz.prog 294 #[.string s, .string s'] w λe w'=>e = .returned (.int .i64 (Sv.nR s.toList s'.toList))/\w'=w):=λw=>Db _ _ _
 generalize Sv.dY k k'=x at E C1
 generalize Sv.dY n n'=y at E C2
 generalize Sv.nR s.toList s'.toList=z at E C3
 have C4:=FU w 40 40 3 #[.int .i64 k, .int .i64 n, .string s] #[.int .i64 k', .int .i64 n', .string s'] x y z
 go_enter Tryz.func270,Tryz.ntmps270
 go_wp2_with fail
 refine Dc 15 mixed (by kernel_rfl) ?_
 simp only [List.take_succ_cons,List.take_zero,List.drop_succ_cons,List.drop_zero]
 repeat (first | still_step | still_call (C1.out _) | still_call (C2.out _) | still_call (C3.out _))
 refine wpStill_nil ?_
 go_wp2_with (go_at_call 291;refine C4.mono ?_;rintro e w' ⟨rfl,rfl⟩)
 go_ret
 exact ⟨aP E.out.symm,((((Gr.refl w).alloc _).alloc _).alloc _).drew⟩
theorem Gr.cell {w w' : World} (h:Gr w w') {p:Addr} (hp:p.block<w.heap.size):w'.cell? p=w.cell? p:=fB (w:=w) (h.below.block p.block hp)
theorem Gr.frozen {w w' : World} (h:Gr w w') {p:Addr} (hp:p.block<w.heap.size):w'.frozen? p=w.frozen? p:=wF (w:=w) (h.below.block p.block hp)
theorem Gr.size {w w' : World} (h:Gr w w'):w.heap.size<=w'.heap.size:=h.below.size
structure Hv (w:World) (b off:Nat) (vs:List Sv.Val):Prop where
 lb:b<w.heap.size
 k:∀ j,(h:j<vs.length)->w.cell? ⟨b,off+j*3,none⟩=some (.int .i64 vs[j].k)
 n:∀ j,(h:j<vs.length)->w.cell? ⟨b,off+j*3+1,none⟩=some (.int .i64 vs[j].n)
 s:∀ j,(h:j<vs.length)->w.cell? ⟨b,off+j*3+2,none⟩=some (.string vs[j].s)
theorem Hv.gr {w w' : World} {b off:Nat} {vs:List Sv.Val} (h:Hv w b off vs) (g:Gr w w'):Hv w' b off vs:=
 ⟨bY h.lb g.size,λj hj=>(g.cell (p:=⟨b,_,none⟩) h.lb).trans (h.k j hj),λj hj=>(g.cell (p:=⟨b,_,none⟩) h.lb).trans (h.n j hj),λj hj=>(g.cell (p:=⟨b,_,none⟩) h.lb).trans (h.s j hj)⟩
theorem KQ (vs:List Sv.Val) (v:Sv.Val) (k:Nat) (h:k<vs.length) (e:decide (v=vs[k])=true):vs.contains v=true:=by
 rw [List.contains_iff_mem];have:=of_decide_eq_true e;rw [this];exact jD h
theorem Iq (vs:List Sv.Val) (v:Sv.Val) (h:∀ j,(hj:j<vs.length)->decide (v=vs[j])=false):vs.contains v=false:=by
 rw [Bool.eq_false_iff];intro hc
 obtain ⟨j,hj,e⟩:=List.getElem_of_mem (List.contains_iff_mem.1 hc)
 have:=h j hj
 rw [e] at this
 simp at this
theorem Dd (b off n c:Nat) (vs:List Sv.Val) (x:Sv.Val) (w:World) (hz:n=vs.length) (hbig:n<=100000) (hv:Hv w b off vs) :
  Calls Tryz.prog 313 #[.slice (some ⟨b,off,none⟩) n c,dI x] w λe w'=>(∃ q:Int,e = .returned (.int .i64 q)/\(decide (0<=q))=vs.contains x)/\Gr w w':=by
 have HV:=hid hv
 clear hv
 have HZ:=hid hz
 clear hz
 have HX:Hid (∀ j,(hj:j<vs.length)->decide (x=vs[j])=eqF x.k x.n x.s vs[j].k vs[j].n vs[j].s):=λj hj=>(yO x vs[j]).symm
 have HM:Hid ((∀ j,(hj:j<vs.length)->decide (x=vs[j])=false)->vs.contains x=false):=Iq vs x
 have HT:Hid (∀ k,(h:k<vs.length)->decide (x=vs[k])=true->vs.contains x=true):=λk h=>KQ vs x k h
 generalize hcx:vs.contains x=cx at HM HT
 clear hcx
 obtain ⟨xk,xn,xs⟩:=x
 have hq:=S6
 have hm:=mixed
 go_enter Tryz.func313,Tryz.ntmps313
 go_wp2
 have G0:Hid (Gr w (w.alloc (.cells #[.int .i64 xk, .int .i64 xn, .string xs] 40))):=(Gr.refl w).alloc _
 have N0:(w.alloc (.cells #[.int .i64 xk, .int .i64 xn, .string xs] 40)).cell? ⟨w.heap.size,0,none⟩=some (.int .i64 xk):=by simp
 have N1:(w.alloc (.cells #[.int .i64 xk, .int .i64 xn, .string xs] 40)).cell? ⟨w.heap.size,1,none⟩=some (.int .i64 xn):=by simp
 have N2:(w.alloc (.cells #[.int .i64 xk, .int .i64 xn, .string xs] 40)).cell? ⟨w.heap.size,2,none⟩=some (.string xs):=by simp
 have NL:w.heap.size<(w.alloc (.cells #[.int .i64 xk, .int .i64 xn, .string xs] 40)).heap.size:=by simp
 generalize (w.alloc (.cells #[.int .i64 xk, .int .i64 xn, .string xs] 40))=w1 at *
 have H0:=hid N0
 have H1:=hid N1
 have H2:=hid N2
 clear N0 N1 N2
 go_loopw [8] (λi wr=>∃ k:Nat,k<=n/\i = .int .i64 k/\Hid (Gr w1 wr)/\Hid (∀ j,j<k->(hj:j<vs.length)->decide ((⟨xk,xn,xs⟩:Sv.Val)=vs[j])=false)) (λi _=>n - (intOf i).toNat)
 case atStart=>exact ⟨0,fO _,rfl,Gr.refl _,λj hj=>absurd hj (Nat.not_lt_zero _)⟩
 case round=>
  obtain ⟨k,hk,rfl,HG,HR⟩:=hrel
  have S8:Hid (Gr w wr):=G0.out.trans HG.out
  by_cases hlt:k<n
  ·have hkz:k<vs.length:=by have:=HZ.out;omega
   have fQ:=HV.out.gr S8.out
   have c0:=fQ.k k hkz
   have c1:=fQ.n k hkz
   have c2:=fQ.s k hkz
   have d0:=(HG.out.cell (p:=⟨w.heap.size,0,none⟩) NL).trans H0.out
   have d1:=(HG.out.cell (p:=⟨w.heap.size,1,none⟩) NL).trans H1.out
   have d2:=(HG.out.cell (p:=⟨w.heap.size,2,none⟩) NL).trans H2.out
   have HE:=HX.out k hkz
   clear fQ
   generalize vs[k].k=yk at c0 HE
   generalize vs[k].n=yn at c1 HE
   generalize vs[k].s=ys at c2 HE
   cases he:eqF xk xn xs yk yn ys
   ·have HF:Hid (decide ((⟨xk,xn,xs⟩:Sv.Val)=vs[k])=false):=HE.trans he
    clear HE
    go_wp2_with fail
    go_quiet (fail)
    go_wp2_with fail
    go_roundw
    case rel=>exact ⟨k+1,by omega,by go_num,HG.out.drewN _,λj hj hj'=>by
     by_cases e:j=k
     ·subst e;exact HF.out
     ·exact HR.out j (by omega) hj'⟩
    case measure=>simp [intOf];omega
   ·have HF:Hid (cx=true):=HT.out k hkz (HE.trans he)
    clear HE
    go_wp2_with fail
    go_quiet (fail)
    go_wp2_with fail
    go_ret
    exact ⟨⟨_,rfl,by rw [HF.out];simp⟩,S8.out.drewN _⟩
  ·have HF:Hid (cx=false):=HM.out λj hj=>HR.out j (by have:=HZ.out;omega) hj
   go_wp2_with fail
   go_ret
   exact ⟨⟨_,rfl,by rw [HF.out];simp⟩,S8.out⟩
theorem vC (b off n c:Nat) (vs:List Sv.Val) (x:Sv.Val) (w:World) (hz:n=vs.length) (hbig:n<=100000) (hv:Hv w b off vs) :
  Calls Tryz.prog 288 #[.slice (some ⟨b,off,none⟩) n c,dI x] w λe w'=>e = .returned (.bool (vs.contains x))/\Gr w w':=by
 have H:Hid (∀ w1,Gr w w1->Calls Tryz.prog 313 #[.slice (some ⟨b,off,none⟩) n c,dI x] w1 λe w'=>(∃ q:Int,e = .returned (.int .i64 q)/\(decide (0<=q))=vs.contains x)/\Gr w1 w'):=λw1 g=>Dd b off n c vs x w1 hz hbig (hv.gr g)
 clear hz hv
 generalize vs.contains x=cx at *
 obtain ⟨xk,xn,xs⟩:=x
 have hm:=mixed
 go_enter Tryz.func288,Tryz.ntmps288
 go_wp2_with (go_at_call 313;refine (H.out _ ((Gr.refl w).alloc _)).mono ?_;rintro e w' ⟨⟨q,rfl,hq⟩,hg⟩)
 go_ret
 exact ⟨rfl,((Gr.refl w).alloc _).trans hg⟩
theorem Ir (vs:List Sv.Val) (k:Nat) (h:k<vs.length) (e:Sv.isNull vs[k]=true):vs.any Sv.isNull=true:=
 List.any_eq_true.2 ⟨vs[k],jD h,e⟩
theorem FV (vs:List Sv.Val) (h:∀ j,(hj:j<vs.length)->Sv.isNull vs[j]=false):vs.any Sv.isNull=false:=by
 rw [List.any_eq_false]
 intro z hz
 obtain ⟨j,hj,rfl⟩:=List.getElem_of_mem hz
 simp [h j hj]
theorem vD (b off n c:Nat) (vs:List Sv.Val) (w:World) (hz:n=vs.length) (hbig:n<=100000) (hv:Hv w b off vs) :
  Calls Tryz.prog 289 #[.slice (some ⟨b,off,none⟩) n c, .func (.func 265) #[] #[]] w λe w'=>(∃ q:Int,e = .returned (.int .i64 q)/\(decide (0<=q))=vs.any Sv.isNull)/\Gr w w':=by
 have HV:=hid hv
 clear hv
 have HZ:=hid hz
 clear hz
 have HM:Hid ((∀ j,(hj:j<vs.length)->Sv.isNull vs[j]=false)->vs.any Sv.isNull=false):=FV vs
 have HT:Hid (∀ k,(h:k<vs.length)->Sv.isNull vs[k]=true->vs.any Sv.isNull=true):=λk h=>Ir vs k h
 generalize vs.any Sv.isNull=cx at *
 go_enter Tryz.func289,Tryz.ntmps289
 go_wp2
 go_loopw [8] (λi wr=>∃ k:Nat,k<=n/\i = .int .i64 k/\Hid (Gr w wr)/\Hid (∀ j,j<k->(hj:j<vs.length)->Sv.isNull vs[j]=false)) (λi _=>n - (intOf i).toNat)
 case atStart=>exact ⟨0,fO _,rfl,Gr.refl _,λj hj=>absurd hj (Nat.not_lt_zero _)⟩
 case round=>
  obtain ⟨k,hk,rfl,HG,HR⟩:=hrel
  by_cases hlt:k<n
  ·have hkz:k<vs.length:=by have:=HZ.out;omega
   have fQ:=HV.out.gr HG.out
   have c0:=fQ.k k hkz
   have c1:=fQ.n k hkz
   have c2:=fQ.s k hkz
   have HC:Hid (∀ w,Calls Tryz.prog 265 #[.agg #[.int .i64 vs[k].k, .int .i64 vs[k].n, .string vs[k].s]] w λe w'=>e = .returned (.bool (Sv.isNull vs[k]))/\Gr w w'):=λw=>lW vs[k] w
   clear fQ
   generalize vs[k].k=yk at c0 HC
   generalize vs[k].n=yn at c1 HC
   generalize vs[k].s=ys at c2 HC
   have HB:Hid (Sv.isNull vs[k]=Sv.isNull vs[k]):=rfl
   generalize hb:Sv.isNull vs[k]=bb at HC
   have HB:=hid hb
   clear hb
   cases bb
   ·go_wp2_with (go_at_call 265;refine (HC.out _).mono ?_;rintro e w' ⟨rfl,hg⟩)
    have uW:=hid (HG.out.trans hg)
    clear hg
    go_wp2_with fail
    go_roundw
    case rel=>exact ⟨k+1,by omega,by go_num,uW,λj hj hj'=>by
     by_cases e:j=k
     ·subst e;exact HB.out
     ·exact HR.out j (by omega) hj'⟩
    case measure=>simp [intOf];omega
   ·have HF:Hid (cx=true):=HT.out k hkz HB.out
    go_wp2_with (go_at_call 265;refine (HC.out _).mono ?_;rintro e w' ⟨rfl,hg⟩)
    have uW:=hid (HG.out.trans hg)
    clear hg
    go_wp2_with fail
    go_ret
    exact ⟨⟨_,rfl,by rw [HF.out];simp⟩,uW.out⟩
  ·have HF:Hid (cx=false):=HM.out λj hj=>HR.out j (by have:=HZ.out;omega) hj
   go_wp2_with fail
   go_ret
   exact ⟨⟨_,rfl,by rw [HF.out];simp⟩,HG.out⟩
theorem s8 (b off n c:Nat) (vs:List Sv.Val) (w:World) (hz:n=vs.length) (hbig:n<=100000) (hv:Hv w b off vs) :
  Calls Tryz.prog 267 #[.slice (some ⟨b,off,none⟩) n c, .func (.func 265) #[] #[]] w λe w'=>e = .returned (.bool (vs.any Sv.isNull))/\Gr w w':=by
 have H:Hid (∀ w1,Gr w w1->Calls Tryz.prog 289 #[.slice (some ⟨b,off,none⟩) n c, .func (.func 265) #[] #[]] w1 λe w'=>(∃ q:Int,e = .returned (.int .i64 q)/\(decide (0<=q))=vs.any Sv.isNull)/\Gr w1 w'):=λw1 g=>vD b off n c vs w1 hz hbig (hv.gr g)
 clear hz hv
 generalize vs.any Sv.isNull=cx at *
 go_enter Tryz.func267,Tryz.ntmps267
 go_wp2_with (go_at_call 289;refine (H.out _ (Gr.refl w)).mono ?_;rintro e w' ⟨⟨q,rfl,hq⟩,hg⟩)
 go_ret
 exact ⟨rfl,hg⟩
theorem drawn_setCell (w:World) (p:Addr) (u:Value):(w.setCell p u).drawn=w.drawn:=rfl
theorem Gr.drawn {w w' : World} (h:Gr w w'):w.drawn<=w'.drawn:=by
 obtain ⟨q,os,rfl⟩:=h
 show w.drawn<=w.drawn+q
 omega
theorem Gr.aJ {a w:World} (h:Gr a w) {p:Addr} (hp:a.heap.size<=p.block) (u:Value):Gr a (w.setCell p u):=
 Gr.of (h.below.setCell hp u) (by rw [drawn_setCell];exact h.drawn)
structure B3 (w:World) (b:Nat) (x y z:Value):Prop where
 lt:b<w.heap.size
 c0:w.cell? ⟨b,0,none⟩=some x
 c1:w.cell? ⟨b,1,none⟩=some y
 c2:w.cell? ⟨b,2,none⟩=some z
 f0:w.frozen? ⟨b,0,none⟩=false
 f1:w.frozen? ⟨b,1,none⟩=false
 f2:w.frozen? ⟨b,2,none⟩=false
theorem B3.new (w:World) (x y z:Value) (t:TypeId):B3 (w.alloc (.cells #[x,y,z] t)) w.heap.size x y z:=⟨by simp,by simp,by simp,by simp,by simp,by simp,by simp⟩
theorem B3.gr {w w' : World} {b:Nat} {x y z:Value} (h:B3 w b x y z) (g:Gr w w'):B3 w' b x y z:=
 ⟨bY h.lt g.size,(g.cell (p:=⟨b,_,none⟩) h.lt).trans h.c0,(g.cell (p:=⟨b,_,none⟩) h.lt).trans h.c1,(g.cell (p:=⟨b,_,none⟩) h.lt).trans h.c2,(g.frozen (p:=⟨b,_,none⟩) h.lt).trans h.f0,(g.frozen (p:=⟨b,_,none⟩) h.lt).trans h.f1,(g.frozen (p:=⟨b,_,none⟩) h.lt).trans h.f2⟩
theorem B3.alloc {w:World} {b:Nat} {x y z:Value} (h:B3 w b x y z) (o:Obj):B3 (w.alloc o) b x y z:=h.gr ((Gr.refl w).alloc o)
theorem Gr.fG {a w:World} (h:Gr a w) {b:Nat} (hp:a.heap.size<=b) (x y z:Value):Gr a (((w.setCell ⟨b,0,none⟩ x).setCell ⟨b,1,none⟩ y).setCell ⟨b,2,none⟩ z):=
 ((h.aJ (p:=⟨b,0,none⟩) hp x).aJ (p:=⟨b,1,none⟩) hp y).aJ (p:=⟨b,2,none⟩) hp z
theorem KR (vs:List Sv.Val) (k:Nat) (h:k<vs.length) (e:Sv.isNull vs[k]=true):Sv.bL (vs.drop k)=Sv.bL (vs.drop (k+1)):=by
 rw [nS h,Sv.bL,if_pos e]
theorem Nx (vs:List Sv.Val) (k:Nat) (h:k<vs.length) (e:Sv.isNull vs[k]=false):Sv.bL (vs.drop k)=vs[k]:=by
 rw [nS h,Sv.bL,if_neg (by rw [e];decide)]
theorem s9 (b off n c:Nat) (vs:List Sv.Val) (w:World) (hz:n=vs.length) (hbig:n<=100000) (hv:Hv w b off vs) :
  Calls Tryz.prog 266 #[.slice (some ⟨b,off,none⟩) n c] w λe w'=>e = .returned (dI (Sv.bL vs))/\Gr w w':=by
 have HV:=hid hv
 clear hv
 have HZ:=hid hz
 clear hz
 have R0:Hid (B3 (w.alloc (.cells #[.int .i64 0, .int .i64 0, .string ⟨#[]⟩] 40)) w.heap.size (.int .i64 0) (.int .i64 0) (.string ⟨#[]⟩)):=B3.new w _ _ _ _
 have G0:Hid (Gr w (w.alloc (.cells #[.int .i64 0, .int .i64 0, .string ⟨#[]⟩] 40))):=(Gr.refl w).alloc _
 have HD:Hid (Sv.bL vs=Sv.bL (vs.drop 0)):=rfl
 generalize Sv.bL vs=dv at *
 go_enter Tryz.func266,Tryz.ntmps266
 go_wp2
 generalize w.alloc (.cells #[.int .i64 0, .int .i64 0, .string ⟨#[]⟩] 40)=w1 at *
 go_loopw [7] (λi wr=>∃ k:Nat,k<=n/\i = .int .i64 k/\Hid (Gr w wr)/\Hid (B3 wr w.heap.size (.int .i64 0) (.int .i64 0) (.string ⟨#[]⟩))/\Hid (dv=Sv.bL (vs.drop k))) (λi _=>n - (intOf i).toNat)
 case atStart=>exact ⟨0,fO _,rfl,G0,R0,HD⟩
 case round=>
  obtain ⟨k,hk,rfl,HG,HB,HR⟩:=hrel
  by_cases hlt:k<n
  ·have hkz:k<vs.length:=by have:=HZ.out;omega
   have fQ:=HV.out.gr HG.out
   have c0:=fQ.k k hkz
   have c1:=fQ.n k hkz
   have c2:=fQ.s k hkz
   have HC:Hid (∀ w,Calls Tryz.prog 265 #[.agg #[.int .i64 vs[k].k, .int .i64 vs[k].n, .string vs[k].s]] w λe w'=>e = .returned (.bool (Sv.isNull vs[k]))/\Gr w w'):=λw=>lW vs[k] w
   clear fQ
   have HS:Hid (Sv.isNull vs[k]=true->dv=Sv.bL (vs.drop (k+1))):=λh=>HR.out.trans (KR vs k hkz h)
   have HT:Hid (Sv.isNull vs[k]=false->dv=⟨vs[k].k,vs[k].n,vs[k].s⟩):=λh=>HR.out.trans (Nx vs k hkz h)
   generalize Sv.isNull vs[k]=bb at HC HS HT
   generalize vs[k].k=yk at c0 HC HT
   generalize vs[k].n=yn at c1 HC HT
   generalize vs[k].s=ys at c2 HC HT
   clear HR
   go_wp2_with fail
   refine (HC.out _).mono ?_
   rintro e w2 ⟨rfl,g2⟩
   have B1:Hid (B3 w2 wr.heap.size (.int .i64 yk) (.int .i64 yn) (.string ys)):=(B3.new wr _ _ _ _).gr g2
   have HB' : Hid (B3 w2 w.heap.size (.int .i64 0) (.int .i64 0) (.string ⟨#[]⟩)):=(HB.out.alloc _).gr g2
   have uW : Hid (Gr w w2):=(HG.out.alloc _).trans g2
   clear g2 HB HG
   cases bb
   ·obtain ⟨rl,r0,r1,r2,r3,r4,r5⟩:=HB'.out
    obtain ⟨tl,t0,t1,t2,t3,t4,t5⟩:=B1.out
    go_wp2_with fail
    exact cL (v:=dI ⟨yk,yn,ys⟩) (by simp [results,Tryz.results266,go_sem, *]) rfl ⟨by rw [HT.out (by trivial)],uW.out.fG (aF _) _ _ _⟩
   ·go_wp2_with fail
    go_roundw
    case rel=>exact ⟨k+1,by omega,by go_num,uW,HB',HS.out (by trivial)⟩
    case measure=>simp [intOf];omega
  ·have HF:Hid (dv=Sv.null):=by show _=_;rw [HR.out,Aw (by have:=HZ.out;omega)];rfl
   go_wp2_with fail
   refine (pG _).mono ?_
   rintro e w3 ⟨rfl,g3⟩
   obtain ⟨rl,r0,r1,r2,r3,r4,r5⟩:=HB.out.gr g3
   go_wp2_with fail
   exact cL (v:=dI Sv.null) (by simp [results,Tryz.results266,go_sem, *]) rfl ⟨by rw [HF.out],(HG.out.trans g3).fG (aF _) _ _ _⟩
theorem yP (x:ByteArray) (o:Int) (w:World) :
  Calls Tryz.prog 269 #[.string x, .int .i64 o] w λe w'=>e = .returned (.bool (Sv.compared x.toList o))/\w'=w:=by
 go_enter Tryz.func269,Tryz.ntmps269
 go_wp2
 all_goals go_ret
 all_goals refine ⟨dN ?_,rfl⟩
 all_goals simp_all [Sv.compared]
 all_goals (rw [Bool.eq_iff_iff];simp)
theorem AQ (b off n c:Nat) (vs:List Sv.Val) (t:Sv.Val) (w:World) (hz:n=vs.length) (hbig:n<=100000) (hv:Hv w b off vs) :
  Calls Tryz.prog 264 #[dI t, .slice (some ⟨b,off,none⟩) n c] w λe w'=>e = .returned (dI (Sv.decided t vs))/\Gr w w':=by
 have H1:Hid (∀ w1,Gr w w1->Calls Tryz.prog 288 #[.slice (some ⟨b,off,none⟩) n c,dI t] w1 λe w'=>e = .returned (.bool (vs.contains t))/\Gr w1 w'):=λw1 g=>vC b off n c vs t w1 hz hbig (hv.gr g)
 have H2:Hid (∀ w1,Gr w w1->Calls Tryz.prog 267 #[.slice (some ⟨b,off,none⟩) n c, .func (.func 265) #[] #[]] w1 λe w'=>e = .returned (.bool (vs.any Sv.isNull))/\Gr w1 w'):=λw1 g=>s8 b off n c vs w1 hz hbig (hv.gr g)
 have H3:Hid (∀ w1,Calls Tryz.prog 193 #[dI t] w1 λe w'=>e = .returned (.bool (Sv.isTrue t))/\Gr w1 w'):=λw1=>oC t w1
 clear hz hv
 have HD:Hid (Sv.decided t vs=if vs.contains t then t else if vs.any Sv.isNull then Sv.null else Sv.bool (!Sv.isTrue t)):=rfl
 generalize Sv.decided t vs=dv at *
 generalize vs.contains t=c1 at *
 generalize vs.any Sv.isNull=c2 at *
 generalize Sv.isTrue t=c3 at *
 obtain ⟨xk,xn,xs⟩:=t
 have T0:Hid (B3 ((w.alloc (.cells #[.int .i64 xk, .int .i64 xn, .string xs] 40)).alloc (.cells #[.int .i64 0, .int .i64 0, .string ⟨#[]⟩] 40)) w.heap.size (.int .i64 xk) (.int .i64 xn) (.string xs)):=(B3.new w _ _ _ _).alloc _
 have R0:Hid (B3 ((w.alloc (.cells #[.int .i64 xk, .int .i64 xn, .string xs] 40)).alloc (.cells #[.int .i64 0, .int .i64 0, .string ⟨#[]⟩] 40)) (w.heap.size+1) (.int .i64 0) (.int .i64 0) (.string ⟨#[]⟩)):=by
  have:=B3.new (w.alloc (.cells #[.int .i64 xk, .int .i64 xn, .string xs] 40)) (.int .i64 0) (.int .i64 0) (.string ⟨#[]⟩) 40
  rwa [World.size_alloc] at this
 have G0:Hid (Gr w ((w.alloc (.cells #[.int .i64 xk, .int .i64 xn, .string xs] 40)).alloc (.cells #[.int .i64 0, .int .i64 0, .string ⟨#[]⟩] 40))):=((Gr.refl w).alloc _).alloc _
 go_enter Tryz.func264,Tryz.ntmps264
 go_wp2_with fail
 refine (H1.out _ G0.out).mono ?_
 rintro e w1 ⟨rfl,g1⟩
 have T1:Hid (B3 w1 w.heap.size (.int .i64 xk) (.int .i64 xn) (.string xs)):=T0.out.gr g1
 have R1:Hid (B3 w1 (w.heap.size+1) (.int .i64 0) (.int .i64 0) (.string ⟨#[]⟩)):=R0.out.gr g1
 have G1:Hid (Gr w w1):=G0.out.trans g1
 clear g1 T0 R0 G0
 cases c1
 ·go_wp2_with fail
  refine (H2.out _ G1.out).mono ?_
  rintro e w2 ⟨rfl,g2⟩
  have T2:Hid (B3 w2 w.heap.size (.int .i64 xk) (.int .i64 xn) (.string xs)):=T1.out.gr g2
  have R2:Hid (B3 w2 (w.heap.size+1) (.int .i64 0) (.int .i64 0) (.string ⟨#[]⟩)):=R1.out.gr g2
  have G2:Hid (Gr w w2):=G1.out.trans g2
  clear g2 T1 R1 G1
  cases c2
  ·obtain ⟨tl,t0,t1,t2,t3,t4,t5⟩:=T2.out
   go_wp2_with fail
   refine (H3.out _).mono ?_
   rintro e w3 ⟨rfl,g3⟩
   have R3:Hid (B3 w3 (w.heap.size+1) (.int .i64 0) (.int .i64 0) (.string ⟨#[]⟩)):=R2.out.gr g3
   have G3:Hid (Gr w w3):=G2.out.trans g3
   clear g3 T2 R2 G2 tl t0 t1 t2 t3 t4 t5
   go_wp2_with fail
   refine (fW _ _).mono ?_
   rintro e w4 ⟨rfl,g4⟩
   have G4:Hid (Gr w w4):=G3.out.trans g4
   obtain ⟨rl,r0,r1,r2,r3,r4,r5⟩:=R3.out.gr g4
   clear g4 R3 G3
   go_wp2_with fail
   exact cL (v:=dI (Sv.bool (!c3))) (by simp [results,Tryz.results264,go_sem, *]) rfl ⟨by rw [HD.out];rfl,G4.out.fG (Nat.le_succ _) _ _ _⟩
  ·go_wp2_with fail
   refine (pG _).mono ?_
   rintro e w3 ⟨rfl,g3⟩
   have G3:Hid (Gr w w3):=G2.out.trans g3
   obtain ⟨rl,r0,r1,r2,r3,r4,r5⟩:=R2.out.gr g3
   clear g3 R2 G2
   go_wp2_with fail
   exact cL (v:=dI Sv.null) (by simp [results,Tryz.results264,go_sem, *]) rfl ⟨by rw [HD.out];rfl,G3.out.fG (Nat.le_succ _) _ _ _⟩
 ·obtain ⟨tl,t0,t1,t2,t3,t4,t5⟩:=T1.out
  obtain ⟨rl,r0,r1,r2,r3,r4,r5⟩:=R1.out
  go_wp2_with fail
  exact cL (v:=dI ⟨xk,xn,xs⟩) (by simp [results,Tryz.results264,go_sem, *]) rfl ⟨by rw [HD.out];rfl,G1.out.fG (Nat.le_succ _) _ _ _⟩
end Go.Proofs.YtgnncnhkgmhngaaGreatDoor
