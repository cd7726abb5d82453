import Derived.Test.YtgnncnhkgmhngaaGreatDoorJ32
import Derived.Shelf.SlSortCmp.NoneTotal
import Derived.Shelf.SlGeneric
import Derived.Ground.SlsfProg
set_option maxHeartbeats 4000000
set_option maxRecDepth 100000
namespace Go.Proofs.YtgnncnhkgmhngaaGreatDoor
structure Cm {α:Type} (c:α→α→Int):Prop where
 refl:∀ a,c a a=0
 anti:∀ a b,c b a=- c a b
 tr:∀ a b d,c a b<0→c b d<0→c a d<0
 eq:∀ a b,c a b=0→a=b
theorem cm_int:Cm Sv.cmpI where
 refl a:=by simp [Sv.cmpI]
 anti a b:=by unfold Sv.cmpI;repeat' split;all_goals omega
 tr a b d:=by unfold Sv.cmpI;repeat' split;all_goals omega
 eq a b:=by unfold Sv.cmpI;repeat' split;all_goals omega
theorem lex_cm {α β γ:Type} {c:β→β→Int} {d:γ→γ→Int} (f:α→β) (g:α→γ) (hc:Cm c) (hd:Cm d) (hi:∀ a b,f a=f b→g a=g b→a=b):Cm (fun a b=>if c (f a) (f b)=0 then d (g a) (g b) else c (f a) (f b)) where
 refl a:=by simp [hc.refl,hd.refl]
 anti a b:=by
  have h1:=hc.anti (f a) (f b)
  have h2:=hd.anti (g a) (g b)
  by_cases h:c (f a) (f b)=0
  ·rw [if_pos h,if_pos (by omega),h2]
  ·rw [if_neg h,if_neg (by omega),h1]
 tr a b e:=by
  intro h1 h2
  by_cases p:c (f a) (f b)=0
  ·rw [if_pos p] at h1
   have e1:=hc.eq _ _ p
   by_cases q:c (f b) (f e)=0
   ·rw [if_pos q] at h2
    rw [e1,if_pos q]
    exact hd.tr _ _ _ h1 h2
   ·rw [if_neg q] at h2
    rw [e1,if_neg q]
    exact h2
  ·rw [if_neg p] at h1
   by_cases q:c (f b) (f e)=0
   ·have e2:=hc.eq _ _ q
    rw [← e2,if_neg p]
    exact h1
   ·rw [if_neg q] at h2
    have h3:=hc.tr _ _ _ h1 h2
    rw [if_neg (by omega)]
    exact h3
 eq a b:=by
  intro h
  by_cases p:c (f a) (f b)=0
  ·rw [if_pos p] at h
   exact hi a b (hc.eq _ _ p) (hd.eq _ _ h)
  ·rw [if_neg p] at h
   exact absurd h p
theorem ltB_irr:∀ a:List UInt8,Sv.ltB a a=false
 | []=>rfl
 | x::a=>by simp [Sv.ltB,ltB_irr a]
theorem ltB_asym:∀ a b:List UInt8,Sv.ltB a b=true→Sv.ltB b a=false
 | _, [],h=>by cases ‹List UInt8› <;> simp [Sv.ltB] at h
 | [],_::_,_=>by simp [Sv.ltB]
 | x::a,y::b,h=>by
  simp only [Sv.ltB] at h ⊢
  by_cases h1:x<y
  ·have:¬ y<x:=by simp only [UInt8.lt_iff_toNat_lt] at *;omega
   simp [this,h1]
  ·by_cases h2:y<x
   ·simp [h1,h2] at h
   ·simp [h1,h2] at h ⊢
    exact ltB_asym a b h
theorem ltB_tr:∀ a b d:List UInt8,Sv.ltB a b=true→Sv.ltB b d=true→Sv.ltB a d=true
 | a, [],_,h,_=>by cases a <;> simp [Sv.ltB] at h
 | _,_::_, [],_,h=>by simp [Sv.ltB] at h
 | [],_::_,_::_,_,_=>by simp [Sv.ltB]
 | x::a,y::b,z::d,h1,h2=>by
  simp only [Sv.ltB,UInt8.lt_iff_toNat_lt] at h1 h2 ⊢
  have ih:=ltB_tr a b d
  repeat' split at h1
  all_goals repeat' split at h2
  all_goals repeat' split
  all_goals first | rfl | omega | (simp at h1;done) | (simp at h2;done) | exact ih h1 h2
theorem ltB_tot:∀ a b:List UInt8,Sv.ltB a b=false→Sv.ltB b a=false→a=b
 | [], [],_,_=>rfl
 | [],_::_,h,_=>by simp [Sv.ltB] at h
 | _::_, [],_,h=>by simp [Sv.ltB] at h
 | x::a,y::b,h1,h2=>by
  simp only [Sv.ltB] at h1 h2
  by_cases p:x<y
  ·simp [p] at h1
  ·by_cases q:y<x
   ·simp [q] at h2
   ·simp [p,q] at h1 h2
    have:x=y:=by
     rw [UInt8.lt_iff_toNat_lt] at p q
     exact UInt8.toNat_inj.1 (by omega)
    rw [this,ltB_tot a b h1 h2]
theorem cm_bytes:Cm Sv.cmpB where
 refl a:=by simp [Sv.cmpB,ltB_irr]
 anti a b:=by
  unfold Sv.cmpB
  cases p:Sv.ltB a b
  ·cases q:Sv.ltB b a <;> simp
  ·simp [ltB_asym a b p]
 tr a b d:=by
  unfold Sv.cmpB
  intro h1 h2
  have k1:Sv.ltB a b=true:=by cases p:Sv.ltB a b <;> simp [p] at h1 ⊢ <;> (split at h1 <;> omega)
  have k2:Sv.ltB b d=true:=by cases p:Sv.ltB b d <;> simp [p] at h2 ⊢ <;> (split at h2 <;> omega)
  simp [ltB_tr a b d k1 k2]
 eq a b:=by
  unfold Sv.cmpB
  intro h
  cases p:Sv.ltB a b
  ·cases q:Sv.ltB b a
   ·exact ltB_tot a b p q
   ·simp [p,q] at h
  ·simp [p] at h
theorem cm_val:Cm Sv.cmp:=by
 have e:Sv.cmp=fun a b:Sv.Val=>if Sv.cmpI a.k b.k=0 then (fun x y:Int×ByteArray=>if Sv.cmpI x.1 y.1=0 then Sv.cmpB x.2.toList y.2.toList else Sv.cmpI x.1 y.1) (a.n,a.s) (b.n,b.s) else Sv.cmpI a.k b.k:=by
  funext a b
  simp only [Sv.cmp,Sv.orI]
  by_cases p:Sv.cmpI a.k b.k=0
  ·by_cases q:Sv.cmpI a.n b.n=0
   ·by_cases r:Sv.cmpB a.s.toList b.s.toList=0 <;> simp [p,q,r]
   ·simp [p,q]
  ·simp [p]
 rw [e]
 have hb:Cm (fun x y:Int×ByteArray=>if Sv.cmpI x.1 y.1=0 then Sv.cmpB x.2.toList y.2.toList else Sv.cmpI x.1 y.1):=
  lex_cm (fun x:Int×ByteArray=>x.1) (fun x:Int×ByteArray=>x.2.toList) cm_int cm_bytes (fun a b h1 h2=>Prod.ext h1 (bytes_inj h2))
 exact lex_cm (fun a:Sv.Val=>a.k) (fun a:Sv.Val=>(a.n,a.s)) cm_int hb (fun a b h1 h2=>by
  cases a;cases b;simp only [Prod.mk.injEq] at h1 h2;simp only [Sv.Val.mk.injEq];exact ⟨h1,h2⟩)
theorem cmpR_refl:∀ l:List Sv.Val,cmpR l l=0
 | []=>rfl
 | a::l=>by simp [cmpR,cm_val.refl,cmpR_refl l]
theorem cmpR_anti:∀ l m:List Sv.Val,cmpR m l=- cmpR l m
 | [], []=>rfl
 | [],_::_=>rfl
 | _::_, []=>rfl
 | a::l,b::m=>by
  have h1:=cm_val.anti a b
  have ih:=cmpR_anti l m
  simp only [cmpR]
  by_cases h:Sv.cmp a b=0
  ·rw [if_pos h,if_pos (by omega),ih]
  ·rw [if_neg h,if_neg (by omega),h1]
theorem cmpR_eq:∀ l m:List Sv.Val,cmpR l m=0→l=m
 | [], [],_=>rfl
 | [],_::_,h=>by simp [cmpR] at h
 | _::_, [],h=>by simp [cmpR] at h
 | a::l,b::m,h2=>by
  simp only [cmpR] at h2
  by_cases p:Sv.cmp a b=0
  ·rw [if_pos p] at h2
   rw [cm_val.eq _ _ p,cmpR_eq l m h2]
  ·rw [if_neg p] at h2
   exact absurd h2 p
theorem cmpR_tr:∀ l m k:List Sv.Val,cmpR l m<0→cmpR m k<0→cmpR l k<0
 | [], [],_,h,_=>by simp [cmpR] at h
 | [],_::_, [],_,h=>by simp [cmpR] at h
 | [],_::_,_::_,_,_=>by simp [cmpR]
 | _::_, [],_,h,_=>by simp [cmpR] at h
 | _::_,_::_, [],_,h=>by simp [cmpR] at h
 | a::l,b::m,d::k,h1,h2=>by
  have ih:=cmpR_tr l m k
  simp only [cmpR] at h1 h2 ⊢
  by_cases p:Sv.cmp a b=0
  ·rw [if_pos p] at h1
   have e1:=cm_val.eq _ _ p
   by_cases q:Sv.cmp b d=0
   ·rw [if_pos q] at h2
    rw [e1,if_pos q]
    exact ih h1 h2
   ·rw [if_neg q] at h2
    rw [e1,if_neg q]
    exact h2
  ·rw [if_neg p] at h1
   by_cases q:Sv.cmp b d=0
   ·have e2:=cm_val.eq _ _ q
    rw [← e2,if_neg p]
    exact h1
   ·rw [if_neg q] at h2
    have h3:=cm_val.tr _ _ _ h1 h2
    rw [if_neg (by omega)]
    exact h3
theorem cm_row:Cm cmpR:=⟨cmpR_refl,cmpR_anti,cmpR_tr,cmpR_eq⟩
theorem Cm.le_tr {α:Type} {c:α→α→Int} (h:Cm c) (x y z:α) (h1:c x y≤0) (h2:c y z≤0):c x z≤0:=by
 by_cases p:c x y=0
 ·rw [h.eq _ _ p];exact h2
 ·by_cases q:c y z=0
  ·rw [← h.eq _ _ q];exact h1
  ·have:=h.tr x y z (by omega) (by omega);omega
def sortR (l:List (List Sv.Val)):List (List Sv.Val):=l.mergeSort (fun x y=>decide (cmpR x y≤0))
theorem sortR_perm (l:List (List Sv.Val)):(sortR l).Perm l:=List.mergeSort_perm l _
theorem sortR_sorted (l:List (List Sv.Val)):(sortR l).Pairwise (fun x y=>cmpR x y≤0):=by
 have h:=List.pairwise_mergeSort (le:=fun x y=>decide (cmpR x y≤0)) (fun a b c h1 h2=>by
  simp only [decide_eq_true_eq] at *;exact cm_row.le_tr a b c h1 h2) (fun a b=>by
  have:=cmpR_anti a b;simp only [Bool.or_eq_true,decide_eq_true_eq];omega) l
 exact h.imp (fun h=>by simpa using h)
theorem sortR_unique (l m:List (List Sv.Val)) (hp:m.Perm l) (hs:m.Pairwise (fun x y=>cmpR x y≤0)):m=sortR l:=
 List.Perm.eq_of_pairwise (le:=fun x y=>cmpR x y≤0) (fun a b _ _ h1 h2=>cmpR_eq a b (by have:=cmpR_anti a b;omega)) hs (sortR_sorted l) (hp.trans (sortR_perm l).symm)
end Go.Proofs.YtgnncnhkgmhngaaGreatDoor
namespace Go.Proofs
open Go.Shelf
def Tryz.sortRows_ren:Go.Shelf.Ren:=⟨fun | 6=>238 | 15=>275 | 14=>274 | 28=>304 | 29=>305 | 20=>296 | 21=>297 | 22=>298 | 23=>299 | 24=>300 | 25=>301 | 26=>302 | 27=>303 | 46=>317 | 47=>318 | 48=>319 | 49=>320 | 50=>321 | 57=>325 | n=>n,fun | 22=>32 | 24=>41 | 25=>384 | 3=>3 | 39=>391 | 0=>0 | 53=>448 | 55=>388 | 4=>4 | 46=>442 | 45=>441 | 50=>356 | 5=>5 | 9=>9 | 66=>461 | 70=>465 | 76=>468 | 77=>149 | n=>n,fun | n=>n⟩
theorem Tryz.sortRows:Go.Proofs.SlLaysF.n6 Tryz.prog Tryz.sortRows_ren:={
 mixed:=by kernel_rfl
 f6:=⟨Tryz.f238.name,by decide,Tryz.func238.trans (congrArg some (by kernel_rfl))⟩
 f14:=⟨Tryz.f274.name,by decide,Tryz.func274.trans (congrArg some (by kernel_rfl))⟩
 f15:=Tryz.func275.trans (congrArg some (by kernel_rfl))
 f20:=⟨Tryz.f296.name,by decide,Tryz.func296.trans (congrArg some (by kernel_rfl))⟩
 f21:=⟨Tryz.f297.name,by decide,Tryz.func297.trans (congrArg some (by kernel_rfl))⟩
 f22:=⟨Tryz.f298.name,by decide,Tryz.func298.trans (congrArg some (by kernel_rfl))⟩
 f23:=⟨Tryz.f299.name,by decide,Tryz.func299.trans (congrArg some (by kernel_rfl))⟩
 f24:=⟨Tryz.f300.name,by decide,Tryz.func300.trans (congrArg some (by kernel_rfl))⟩
 f25:=⟨Tryz.f301.name,by decide,Tryz.func301.trans (congrArg some (by kernel_rfl))⟩
 f26:=⟨Tryz.f302.name,by decide,Tryz.func302.trans (congrArg some (by kernel_rfl))⟩
 f27:=⟨Tryz.f303.name,by decide,Tryz.func303.trans (congrArg some (by kernel_rfl))⟩
 f28:=Tryz.func304.trans (congrArg some (by kernel_rfl))
 f29:=Tryz.func305.trans (congrArg some (by kernel_rfl))
 f46:=⟨Tryz.f317.name,by decide,Tryz.func317.trans (congrArg some (by kernel_rfl))⟩
 f47:=Tryz.func318.trans (congrArg some (by kernel_rfl))
 f48:=Tryz.func319.trans (congrArg some (by kernel_rfl))
 f49:=⟨Tryz.f320.name,by decide,Tryz.func320.trans (congrArg some (by kernel_rfl))⟩
 f50:=⟨Tryz.f321.name,by decide,Tryz.func321.trans (congrArg some (by kernel_rfl))⟩
 f57:=⟨Tryz.f325.name,by decide,Tryz.func325.trans (congrArg some (by kernel_rfl))⟩
 t0:=Tryz.underlying0
 a0:=Tryz.isAgg0
 z0:=Tryz.sizeOf0
 v0:=Tryz.zeroValue0
 t3:=Tryz.underlying3
 a3:=Tryz.isAgg3
 z3:=Tryz.sizeOf3
 v3:=Tryz.zeroValue3
 t4:=Tryz.underlying4
 a4:=Tryz.isAgg4
 z4:=Tryz.sizeOf4
 v4:=Tryz.zeroValue4
 t5:=Tryz.underlying5
 a5:=Tryz.isAgg5
 z5:=Tryz.sizeOf5
 v5:=Tryz.zeroValue5
 t9:=Tryz.underlying9
 a9:=Tryz.isAgg9
 z9:=Tryz.sizeOf9
 v9:=Tryz.zeroValue9
 t22:=Tryz.underlying32
 a22:=Tryz.isAgg32
 z22:=Tryz.sizeOf32
 v22:=Tryz.zeroValue32
 a24:=Tryz.isAgg41
 z24:=Tryz.sizeOf41
 t25:=Tryz.underlying384
 a25:=Tryz.isAgg384
 z25:=Tryz.sizeOf384
 v25:=Tryz.zeroValue384
 t39:=Tryz.underlying391
 a39:=Tryz.isAgg391
 z39:=Tryz.sizeOf391
 v39:=Tryz.zeroValue391
 t45:=Tryz.underlying441
 a45:=Tryz.isAgg441
 z45:=Tryz.sizeOf441
 v45:=Tryz.zeroValue441
 t46:=Tryz.underlying442
 a46:=Tryz.isAgg442
 z46:=Tryz.sizeOf442
 v46:=Tryz.zeroValue442
 t50:=Tryz.underlying356
 a50:=Tryz.isAgg356
 z50:=Tryz.sizeOf356
 v50:=Tryz.zeroValue356
 t53:=Tryz.underlying448
 a53:=Tryz.isAgg448
 z53:=Tryz.sizeOf448
 v53:=Tryz.zeroValue448
 t55:=Tryz.underlying388
 a55:=Tryz.isAgg388
 z55:=Tryz.sizeOf388
 v55:=Tryz.zeroValue388
 t66:=Tryz.underlying461
 a66:=Tryz.isAgg461
 z66:=Tryz.sizeOf461
 v66:=Tryz.zeroValue461
 t70:=Tryz.underlying465
 a70:=Tryz.isAgg465
 z70:=Tryz.sizeOf465
 v70:=Tryz.zeroValue465
 t76:=Tryz.underlying468
 a76:=Tryz.isAgg468
 z76:=Tryz.sizeOf468
 v76:=Tryz.zeroValue468
 t77:=Tryz.underlying149
 a77:=Tryz.isAgg149
 z77:=Tryz.sizeOf149
 v77:=Tryz.zeroValue149 }
end Go.Proofs
namespace Go.Proofs.YtgnncnhkgmhngaaGreatDoor
open Go.RowKit Go.Shelf Go.Sort Go.Lib
def RwN (blk:Nat) (w:World) (v:Value) (vs:List Sv.Val):Prop:=
 (v = .slice none 0 0∧vs = [])∨∃ b off c,v = .slice (some ⟨b,off,none⟩) vs.length c∧b≠blk∧Hv w b off vs
theorem RwN.rw {blk:Nat} {w:World} {v:Value} {vs:List Sv.Val} (h:RwN blk w v vs):Rw w.heap.size w v vs:=by
 rcases h with h | ⟨b,o,c,h1,h2,h3⟩
 ·exact .inl h
 ·exact .inr ⟨b,o,c,h1,h3.lb,h3⟩
theorem Hv.kept {blk:Nat} {w w' : World} {b off:Nat} {vs:List Sv.Val} (h:Hv w b off vs) (k:Kept blk w w') (hb:b≠blk):Hv w' b off vs:=
 ⟨Nat.lt_of_lt_of_le h.lb k.size,fun j hj=>(k.cell (p:=⟨b,_,none⟩) h.lb hb).trans (h.k j hj),fun j hj=>(k.cell (p:=⟨b,_,none⟩) h.lb hb).trans (h.n j hj),fun j hj=>(k.cell (p:=⟨b,_,none⟩) h.lb hb).trans (h.s j hj)⟩
theorem RwN.kept {blk:Nat} {w w' : World} {v:Value} {vs:List Sv.Val} (h:RwN blk w v vs) (k:Kept blk w w'):RwN blk w' v vs:=by
 rcases h with h | ⟨b,o,c,h1,h2,h3⟩
 ·exact .inl h
 ·exact .inr ⟨b,o,c,h1,h2,h3.kept k h2⟩
structure RowAt (blk k:Nat) (w:World) where
 v:Value
 vs:List Sv.Val
 ok:RwN blk w v vs
 len:vs.length=k
theorem kept_sortWorld {α:Type} [Inhabited α] (enc:α→Value) (w:World) (blk off n:Nat) (d:Array α) (os:Array Obj):Kept blk w (sortWorld enc w blk off n d os):=by
 refine ⟨rfl,rfl,rfl,?_,?_⟩
 ·show w.heap.size≤(w.heap.modify blk _++os).size
  simp
 ·intro k hk hb
  show (w.heap.modify blk _++os)[k]?=_
  rw [Array.getElem?_append_left (by simpa using hk),Array.getElem?_modify,if_neg (Ne.symm hb)]
theorem row_oneCell {blk k:Nat} {w:World} : OneCell (fun r:RowAt blk k w=>r.v):=fun r=>by
 show r.v.oneCell'=true
 rcases r.ok with ⟨h,_⟩ | ⟨b,o,c,h,_⟩ <;> rw [h] <;> rfl
theorem swo_rows {blk k:Nat} {w:World} : SWO (ltOf fun x y:RowAt blk k w=>cmpR x.vs y.vs) where
 irrefl x:=by simp [ltOf,cmpR_refl]
 trans x y z h1 h2:=by simp only [ltOf,decide_eq_true_eq] at *;exact cmpR_tr _ _ _ h1 h2
 ntrans x y z h1 h2:=by
  simp only [ltOf,decide_eq_false_iff_not,Int.not_lt] at *
  have a1:=cmpR_anti x.vs y.vs
  have a2:=cmpR_anti y.vs z.vs
  have a3:=cmpR_anti x.vs z.vs
  have:=cm_row.le_tr z.vs y.vs x.vs (by omega) (by omega)
  omega
theorem sortFunc_any (blk off cap k:Nat) (w:World) (d:Array (RowAt blk k w)) (hk:k≤100000) (hd:0<d.size) (hsz:d.size≤100000) (hblk:blk<w.heap.size)
  (hc:∀ j,(h:j<d.size)→w.cell? ⟨blk,off+j,none⟩=some d[j].v∧w.frozen? ⟨blk,off+j,none⟩=false) :
  Calls Tryz.prog 238 #[.slice (some ⟨blk,off,none⟩) d.size cap, .func (.func 239) #[] #[]] w fun e w'=>
   e = .returned (.tuple #[])∧Kept blk w w'∧∃ d' : Array (RowAt blk k w),d'.toList.map (·.vs)=sortR (d.toList.map (·.vs))∧d'.size=d.size∧
    ∀ j,(h:j<d'.size)→w'.cell? ⟨blk,off+j,none⟩=some d'[j].v∧w'.frozen? ⟨blk,off+j,none⟩=false:=by
 letI:Inhabited (RowAt blk k w):=⟨d[0]⟩
 have hH:Holds (fun r:RowAt blk k w=>r.v) w blk off d:=fun j hj=>by
  rw [getElem!_pos d j hj];exact hc j hj
 have hcmp:CmpLays1 Tryz.prog 239 #[] (fun r:RowAt blk k w=>r.v) (fun x y=>cmpR x.vs y.vs) blk off d.size w:=by
  intro m os dk hdk x y
  have kp:=kept_sortWorld (fun r:RowAt blk k w=>r.v) w blk off m dk os
  exact compareRows_any x.vs y.vs x.v y.v (by rw [x.len,y.len]) (by rw [x.len];exact hk) _ (x.ok.kept kp).rw (y.ok.kept kp).rw
 have eg:∀ args w,(callFunc 239 args).run Tryz.prog w = .ok (.enter 239 args) w:=enters_of Tryz.func239 (by kernel_rfl) rfl
 have h:=Any.slices_SortFunc Tryz.sortRows (fun r:RowAt blk k w=>r.v) row_oneCell (fun x y=>cmpR x.vs y.vs) swo_rows 239 #[] blk off cap d w eg hcmp hH hblk (by omega)
 change Calls Tryz.prog 238 _ _ _ at h
 refine h.mono ?_
 rintro e w' ⟨rfl,d',n,os,hp,hs,rfl⟩
 have hsz':=hp.1
 refine ⟨rfl,kept_sortWorld _ w blk off n d' os,d',?_,hsz',fun j hj=>?_⟩
 ·apply sortR_unique
  ·have:=hp.2.2
   simp only [← hsz',Array.extract_size] at this
   rw [hsz',Array.extract_size] at this
   exact this.map _
  ·rw [List.pairwise_iff_getElem]
   intro i j hi hj hij
   simp only [List.length_map,Array.length_toList] at hi hj
   have h1:=hs i j (Nat.zero_le _) hij (by omega)
   rw [getElem!_pos d' j hj,getElem!_pos d' i hi] at h1
   simp only [ltOf,decide_eq_false_iff_not,Int.not_lt] at h1
   simp only [List.getElem_map,Array.getElem_toList]
   have:=cmpR_anti d'[j].vs d'[i].vs
   omega
 ·have:=holds_sortWorld (fun r:RowAt blk k w=>r.v) w blk off n d d' os hblk hH hsz' j hj
  rw [getElem!_pos d' j hj] at this
  exact this
def RL (blk off k:Nat) (w:World) (rows:List (List Sv.Val)):Prop:=
 ∀ j,(h:j<rows.length)→∃ v,w.cell? ⟨blk,off+j,none⟩=some v∧w.frozen? ⟨blk,off+j,none⟩=false∧RwN blk w v rows[j]∧rows[j].length=k
theorem RL.array {blk off k:Nat} {w:World} {rows:List (List Sv.Val)} (h:RL blk off k w rows) :
  ∃ d:Array (RowAt blk k w),d.toList.map (·.vs)=rows∧∀ j,(hj:j<d.size)→w.cell? ⟨blk,off+j,none⟩=some d[j].v∧w.frozen? ⟨blk,off+j,none⟩=false:=by
 refine ⟨Array.ofFn (n:=rows.length) fun j=>⟨Classical.choose (h j.1 j.2),rows[j.1],(Classical.choose_spec (h j.1 j.2)).2.2.1,(Classical.choose_spec (h j.1 j.2)).2.2.2⟩,?_,?_⟩
 ·apply List.ext_getElem
  ·simp
  ·intro i h1 h2;simp
 ·intro j hj
  have hj' : j<rows.length:=by simpa using hj
  have:=Classical.choose_spec (h j hj')
  simp only [Array.getElem_ofFn]
  exact ⟨this.1,this.2.1⟩
theorem sort_any (blk off n cap k:Nat) (w:World) (rows:List (List Sv.Val)) (hk:k≤100000) (hn:n=rows.length) (h1:0<n) (hsz:n≤100000) (hblk:blk<w.heap.size) (h:RL blk off k w rows) :
  Calls Tryz.prog 238 #[.slice (some ⟨blk,off,none⟩) n cap, .func (.func 239) #[] #[]] w fun e w'=>e = .returned (.tuple #[])∧Kept blk w w'∧RL blk off k w' (sortR rows):=by
 obtain ⟨d,hd,hc⟩:=h.array
 have hds:d.size=n:=by rw [hn,← hd];simp
 have H:=sortFunc_any blk off cap k w d hk (by omega) (by omega) hblk hc
 rw [hds] at H
 refine Calls.mono H ?_
 rintro e w' ⟨rfl,hk',d',h1',h2',h3'⟩
 refine ⟨rfl,hk',fun j hj=>?_⟩
 have e1:(sortR rows).length=d'.size:=by rw [← hd,← h1'];simp
 have hj' : j<d'.size:=by omega
 have e2:(sortR rows)[j]=d'[j].vs:=by
  have:sortR rows=d'.toList.map (·.vs):=by rw [← hd,← h1']
  simp only [this,List.getElem_map,Array.getElem_toList]
 exact ⟨d'[j].v,(h3' j hj').1,(h3' j hj').2,by rw [e2];exact d'[j].ok.kept hk',by rw [e2];exact d'[j].len⟩
open Go.RowKit Go.Shelf
structure Fr (C:Nat→Prop) (A B:World):Prop where
 os:B.os=A.os
 tape:B.tape=A.tape
 output:B.output=A.output
 size:A.heap.size≤B.heap.size
 block:∀ k,k<A.heap.size→C k→B.heap[k]?=A.heap[k]?
theorem Fr.refl (C:Nat→Prop) (A:World):Fr C A A:=⟨rfl,rfl,rfl,Nat.le_refl _,fun _ _ _=>rfl⟩
theorem Fr.trans {C:Nat→Prop} {X Y Z:World} (h:Fr C X Y) (k:Fr C Y Z):Fr C X Z:=
 ⟨k.os.trans h.os,k.tape.trans h.tape,k.output.trans h.output,Nat.le_trans h.size k.size,fun i hi hc=>(k.block i (Nat.lt_of_lt_of_le hi h.size) hc).trans (h.block i hi hc)⟩
theorem Fr.of_gr {C:Nat→Prop} {A B:World} (g:Gr A B):Fr C A B:=⟨g.below.os,g.below.tape,g.below.output,g.size,fun k hk _=>g.below.block k hk⟩
theorem Fr.cell {C:Nat→Prop} {A B:World} (h:Fr C A B) {p:Addr} (hp:p.block<A.heap.size) (hc:C p.block):B.cell? p=A.cell? p:=World.cell?_of_block (h.block p.block hp hc)
theorem Fr.frozen {C:Nat→Prop} {A B:World} (h:Fr C A B) {p:Addr} (hp:p.block<A.heap.size) (hc:C p.block):B.frozen? p=A.frozen? p:=World.frozen?_of_block (h.block p.block hp hc)
theorem range_all {α:Type} {F:Fence} {n:Nat} {P:Program} {g:Operand} {ps:Array Tmp} {assign body:Code} {Q:Exit→Act→World→Prop} {a:Act} {w:World}
  (hro:F.round=none) (h1:1≤n) {gf:Nat} {lb:Array Value} (hg:a.eval g = .func (.func gf) #[] lb) (hFg:F.fn gf) (eg:∀ args w,(callFunc gf args).run P w = .ok (.enter gf args) w)
  (encs:α→Array Value) (hps:∀ x,(encs x).size=ps.size)
  (C:Nat→Prop) (hC0:C w.heap.size) (hC1:C (w.heap.size+1))
  (B:List α→Prop) (M:α→World→Prop) (hM:∀ x A o,M x A→M x (A.putObj (w.heap.size+1) o))
  (S:List α→Prop) (Tn:World→World→Prop) (hT:∀ A B,Tn A B→B.heap[w.heap.size]?=A.heap[w.heap.size]?∧B.heap[w.heap.size+1]?=A.heap[w.heap.size+1]?)
  (hseq:∀ (J:List α→World→Prop),(∀ s A B,J s A→Tn A B→J s B)→
   (∀ pre x W,J pre W→M x W→B (pre ++ [x])→YieldAt F (n - 1 - 1) P (w.heap.size+1) (encs x) W fun e W'=>e = .returned (.bool true)∧J (pre ++ [x]) W'∧Fr C W W')→
   ∀ W1,W1.heap.size=w.heap.size+2→RowKit.Below w.heap.size w W1→J [] W1→CallsIn F (n - 1) P gf (#[.func (.yield (w.heap.size+1)) #[] #[]]++lb) W1 fun e W'=>(∃ v,e = .returned v)∧∃ xs,S xs∧J xs W')
  (I:List α→World→Prop) (hI:∀ s A B,I s A→Tn A B→I s B) (hIp:∀ s A k o,(k=w.heap.size∨k=w.heap.size+1)→I s A→I s (A.putObj k o))
  (h0:∀ W1,W1.heap.size=w.heap.size+2→RowKit.Below w.heap.size w W1→I [] W1)
  (a₁:α→Act)
  (hassign:∀ (l:Nat) (x:α) (W:World) (K:Act→World→Prop),K (a₁ x) W→
   assign.wpIn (F.inRound l) (n - 1 - 1) P (Exit.then K (fun _ _ _=>False)) { tmps:=(ps.zip (encs x)).foldl (fun t (p,v)=>t.setIfInBounds p v) a.tmps,defers := [] } W)
  (hbody:∀ (l:Nat) (pre:List α) (x:α) (W:World),I pre W→M x W→B (pre ++ [x])→body.wpIn (F.inRound l) (n - 1 - 1) P (fun e _ W'=>e = .normal∧Fr C W W'∧I (pre ++ [x]) W') (a₁ x) W)
  (hdone:∀ (xs:List α) (W:World),S xs→I xs W→W.heap[w.heap.size]?=some (.deferred (some []))→Q .normal { a with defers:={ target := .collected w.heap.size,args:=#[] }::a.defers } W) :
  (Code.rangeFunc g ps assign body).wpIn F n P Q a w:=by
 refine wpIn_rangeFunc fun fn hfn=>?_
 rw [hro]
 -- the loop's record,ready and busy
 obtain ⟨rd,hrd⟩:∃ r:Loop,r={ state := .ready,pending:=none,fn,tmps:=a.tmps,params:=ps,assign,body,defers:=w.heap.size }:=⟨_,rfl⟩
 obtain ⟨W1,hW1⟩:∃ W1,W1=(w.alloc (.deferred (some []))).alloc (.loop rd):=⟨_,rfl⟩
 have hs1:W1.heap.size=w.heap.size+2:=by rw [hW1];simp
 have hb1:RowKit.Below w.heap.size w W1:=by rw [hW1];exact ((Below.refl _ w).alloc (Nat.le_refl _) _).alloc (by simp) _
 have hL1:W1.heap[w.heap.size+1]?=some (.loop rd):=by
  rw [hW1];have:=World.alloc_heap_new (w.alloc (.deferred (some []))) (.loop rd);rwa [World.size_alloc] at this
 have hD1:W1.heap[w.heap.size]?=some (.deferred (some [])):=by
  rw [hW1];exact (Below.heap_alloc _ _ _ (by simp)).trans (World.alloc_heap_new w _)
 refine ⟨w.heap.size+1, [{ target := .collected w.heap.size,args:=#[] }],W1,{ target := .fn (.func gf) lb,args:=#[.func (.yield (w.heap.size+1)) #[] #[]] },W1,gf,
  #[.func (.yield (w.heap.size+1)) #[] #[]]++lb,W1,?_,?_,?_,?_,fun _=>h1,?_⟩
 ·rw [hW1,hrd];exact run_enterLoop_outer _ _ _ _ _
 ·simp only [resolve,hg];simp [go_sem]
 ·intro f' hf';simp [Target.leads] at hf';subst hf';exact hFg
 ·simp [invoke,go_sem,eg]
 ·refine (hseq (fun pre W=>I pre W∧W.heap[w.heap.size+1]?=some (.loop rd)∧W.heap[w.heap.size]?=some (.deferred (some [])))
   (fun s A B hs ht=>⟨hI s A B hs.1 ht,(hT A B ht).2.trans hs.2.1,(hT A B ht).1.trans hs.2.2⟩) ?_ W1 hs1 hb1 ⟨h0 W1 hs1 hb1,hL1,hD1⟩).mono ?_
  ·rintro pre x W ⟨hi,hl,hd⟩ hm hBx
   have hlt:w.heap.size+1<W.heap.size:=(Array.getElem?_eq_some_iff.1 hl).1
   have hy:=run_yield (P:=P) (args:=encs x) hl (by rw [hrd];exact hps x)
   rw [hrd] at hy
   refine ⟨fn,_,assign,body,hy,roundIn_of_wpIn hfn (hassign _ x W _ ⟨_,run_beginRound hl (by rw [hrd]),?_⟩)⟩
   refine wpIn_mono (hbody _ pre x _ (hIp _ _ _ _ (.inr rfl) hi) (hM x W _ hm) hBx) ?_
   rintro e a3 W3 ⟨rfl,hfr,hi3⟩
   have hl2:(W.putObj (w.heap.size+1) (.loop { rd with state := .busy })).heap[w.heap.size+1]?=some (.loop { rd with state := .busy }):=World.putObj_heap_same hlt
   have hsz:(W.putObj (w.heap.size+1) (.loop { rd with state := .busy })).heap.size=W.heap.size:=by simp
   have hl3:W3.heap[w.heap.size+1]?=some (.loop { rd with state := .busy }):=(hfr.block _ (by rw [hsz];exact hlt) hC1).trans hl2
   have hr3:=run_endRound (P:=P) none hl3
   have hlt3:w.heap.size+1<W3.heap.size:=(Array.getElem?_eq_some_iff.1 hl3).1
   have hback:({ { rd with state := .busy } with state:=if (none:Option Code).isNone then .ready else .done,pending:=none } : Loop)=rd:=by rw [hrd];rfl
   rw [hback] at hr3
   refine ⟨_,_,hr3,rfl,⟨hIp _ _ _ _ (.inr rfl) hi3,World.putObj_heap_same hlt3,?_⟩,?_⟩
   ·rw [World.putObj_heap_other (by omega),hfr.block _ (by rw [hsz];omega) hC0,World.putObj_heap_other (by omega)];exact hd
   ·refine ⟨?_,?_,?_,?_,?_⟩
    ·exact hfr.os
    ·exact hfr.tape
    ·exact hfr.output
    ·have:=hfr.size;rw [hsz] at this;simpa using this
    ·intro k hk hc
     by_cases e:k=w.heap.size+1
     ·rw [e,World.putObj_heap_same hlt3,hl]
     ·rw [World.putObj_heap_other e,hfr.block k (by rw [hsz];exact hk) hc,World.putObj_heap_other e]
  ·rintro e W2 ⟨⟨v,rfl⟩,xs,hS,hi,hl,hd⟩
   have hend:=run_endLoop (P:=P) hl (by rw [hrd];simp)
   rw [show rd.pending=none by rw [hrd]] at hend
   exact ⟨none,_,hend,hdone xs _ hS (hIp _ _ _ _ (.inr rfl) hi) ((World.putObj_heap_other (by omega)).trans hd)⟩
attribute [local go_sem] Oper.semAt_some
theorem yield_any {m:Nat} (m' : Nat) {P:Program} {l:Nat} {args:Array Value} {W:World} {R:Ending→World→Prop} (h:YieldAt Fence.wide m P l args W R):YieldAt Fence.wide m' P l args W R:=by
 obtain ⟨fn,tmps,assign,body,hy,h1,h2⟩:=h
 exact ⟨fn,tmps,assign,body,hy,h1,fun c cs _=>h2 c cs (fun d hd=>by cases hd)⟩
def prods {α:Type} : List (List α)→List (List α)
 | [] => [[]]
 | t::ts=>t.flatMap fun r=>(prods ts).map (r::·)
def Sl (C:Nat→Prop) (w:World) (v:Value) (rs:List Value):Prop:=
 (v = .slice none 0 0∧rs = [])∨∃ b off c,v = .slice (some ⟨b,off,none⟩) rs.length c∧b<w.heap.size∧C b∧∀ j,(h:j<rs.length)→w.cell? ⟨b,off+j,none⟩=some rs[j]
theorem Sl.fr {C:Nat→Prop} {A B:World} {v:Value} {rs:List Value} (h:Sl C A v rs) (f:Fr C A B):Sl C B v rs:=by
 rcases h with h | ⟨b,o,c,h1,h2,h3,h4⟩
 ·exact .inl h
 ·exact .inr ⟨b,o,c,h1,Nat.lt_of_lt_of_le h2 f.size,h3,fun j hj=>(f.cell (p:=⟨b,_,none⟩) h2 h3).trans (h4 j hj)⟩
structure Tabs (C:Nat→Prop) (w:World) (tb to_:Nat) (tabs:List (List Value)):Prop where
 lt:tb<w.heap.size
 own:C tb
 at_:∀ i,(h:i<tabs.length)→∃ v,w.cell? ⟨tb,to_+i,none⟩=some v∧Sl C w v tabs[i]
theorem Tabs.fr {C:Nat→Prop} {A B:World} {tb to_:Nat} {tabs:List (List Value)} (h:Tabs C A tb to_ tabs) (f:Fr C A B):Tabs C B tb to_ tabs:=
 ⟨Nat.lt_of_lt_of_le h.lt f.size,h.own,fun i hi=>by obtain ⟨v,h1,h2⟩:=h.at_ i hi;exact ⟨v,(f.cell (p:=⟨tb,_,none⟩) h.lt h.own).trans h1,h2.fr f⟩⟩
structure Tk (w:World) (T m:Nat) (x:List Value):Prop where
 lt:T<w.heap.size
 some_:∀ i,i<m→∃ v,w.cell? ⟨T,i,none⟩=some v
 un:∀ i,w.frozen? ⟨T,i,none⟩=false
 at_:∀ i,(h:i<x.length)→w.cell? ⟨T,i,none⟩=some x[i]
theorem Tk.fr {C:Nat→Prop} {A B:World} {T m:Nat} {x:List Value} (h:Tk A T m x) (f:Fr C A B) (hc:C T):Tk B T m x:=
 ⟨Nat.lt_of_lt_of_le h.lt f.size,fun i hi=>by obtain ⟨v,hv⟩:=h.some_ i hi;exact ⟨v,(f.cell (p:=⟨T,_,none⟩) h.lt hc).trans hv⟩,fun i=>(f.frozen (p:=⟨T,_,none⟩) h.lt hc).trans (h.un i),fun i hi=>(f.cell (p:=⟨T,_,none⟩) h.lt hc).trans (h.at_ i hi)⟩
theorem Tk.put {A:World} {T m:Nat} {x:List Value} (h:Tk A T m x) (hm:x.length<m) (v:Value):Tk (A.setCell ⟨T,x.length,none⟩ v) T m (x ++ [v]):=by
 obtain ⟨u,hu⟩:=h.some_ _ hm
 refine ⟨by simpa using h.lt,fun i hi=>?_,fun i=>by rw [World.frozen?_setCell];exact h.un i,fun i hi=>?_⟩
 ·by_cases e:i=x.length
  ·subst e;exact ⟨v,World.cell?_setCell_same' _ _ _ (by rw [hu];rfl)⟩
  ·obtain ⟨v',hv'⟩:=h.some_ i hi
   exact ⟨v',by rw [World.cell?_setCell_other _ _ _ _ (by intro e';apply e;injection e' with _ e2 _;exact e2.symm)];exact hv'⟩
 ·by_cases e:i=x.length
  ·subst e;rw [World.cell?_setCell_same' _ _ _ (by rw [hu];rfl)];simp
  ·have hi' : i<x.length:=by simp at hi;omega
   rw [World.cell?_setCell_other _ _ _ _ (by intro e';apply e;injection e' with _ e2 _;exact e2.symm),h.at_ i hi',List.getElem_append_left hi']
theorem Tk.cut {A:World} {T m:Nat} {x:List Value} {v:Value} (h:Tk A T m (x ++ [v])):Tk A T m x:=
 ⟨h.lt,h.some_,h.un,fun i hi=>by have:=h.at_ i (by simp;omega);rw [List.getElem_append_left hi] at this;exact this⟩
theorem Fr.mono {C C' : Nat→Prop} {A B:World} (h:Fr C A B) (hc:∀ k,C' k→C k):Fr C' A B:=⟨h.os,h.tape,h.output,h.size,fun k hk hk'=>h.block k hk (hc k hk')⟩
theorem fr_put (A:World) (T o:Nat) (v:Value):Fr (·≠T) A (A.setCell ⟨T,o,none⟩ v):=
 ⟨rfl,rfl,rfl,by simp,fun k _ hk=>Below.heap_setCell _ _ _ _ hk⟩
theorem take_flat {α:Type} (t:List α) (k:Nat) (h:k<t.length) (f:α→List (List Value)):(t.take (k+1)).flatMap f=(t.take k).flatMap f++f t[k]:=by
 rw [List.take_succ_eq_append_getElem h,List.flatMap_append]
 show _++(f t[k] ++ [])=_
 rw [List.append_nil]
theorem takeFrom_in (C:Nat→Prop) (l T tb to_ tc:Nat) (tabs:List (List Value)) (hT:C T) (hb:tabs.length≤1000) (hbb:∀ t∈tabs,t.length≤100000) (hrs:∀ t∈tabs,∀ r∈t,∃ a l c,r = .slice a l c) (J:List (List Value)→World→Prop) (B:List (List Value)→Prop) (hB:∀ p q,B (p++q)→B p)
  (hJ:∀ s A B,J s A→Fr (·≠T) A B→J s B)
  (hY:∀ m pre x W,J pre W→Tk W T tabs.length x→x.length=tabs.length→x∈prods tabs→B (pre ++ [x])→YieldAt Fence.wide m Tryz.prog l #[.slice (some ⟨T,0,none⟩) tabs.length tabs.length] W fun e W'=>e = .returned (.bool true)∧J (pre ++ [x]) W'∧Fr C W W') :
  ∀ (rest done:List (List Value)) (n num:Nat) (x:List Value) (acc:List (List Value)) (W:World),tabs=done++rest→x.length=done.length→num=x.length→(∀ y∈prods rest,x++y∈prods tabs)→B (acc++(prods rest).map (x++·))→J acc W→Tk W T tabs.length x→Tabs (fun k=>C k∧k≠T) W tb to_ tabs→
  CallsIn Fence.wide n Tryz.prog 192 #[.int .i64 (num:Int), .slice (some ⟨tb,to_,none⟩) tabs.length tc, .slice (some ⟨T,0,none⟩) tabs.length tabs.length, .func (.yield l) #[] #[]] W
   fun e W'=>e = .returned (.bool true)∧J (acc++(prods rest).map (x++·)) W'∧Tk W' T tabs.length x∧Fr (fun k=>C k∧k≠T) W W':=by
 intro rest
 induction rest with
 | nil=>
  intro done n num x acc W htabs hx hnum hmem hba hj hk ht
  have hlen:x.length=tabs.length:=by rw [htabs,hx];simp
  obtain ⟨fn,tmps,assign,body,hy,hR⟩:=hY (n - 1) acc x W hj hk hlen (by have:=hmem [] (by simp [prods]);simpa using this) (by simpa [prods] using hba)
  have hnn:num=tabs.length:=hnum.trans hlen
  clear hnum hx htabs hlen
  subst hnn
  have HT:=hid ht
  have HK:=hid hk
  clear ht hk
  refine callsIn_of_wp Tryz.func192 rfl trivial ?_ rfl
  simp only [Tryz.ntmps192,List.size_toArray,List.length_cons,List.length_nil,Nat.reduceAdd,Nat.reduceSub,Array.replicate_succ,Array.replicate_zero,List.push_toArray,List.append_toArray,List.nil_append,List.cons_append]
  gi_wp2
  refine ⟨fun h=>(by cases h),?_⟩
  refine hR.mono ?_
  rintro e W3 ⟨rfl,hJ3,hf3⟩
  gi_wp2
  go_ret
  exact ⟨rfl,by simpa [prods] using hJ3,HK.out.fr hf3 hT,hf3.mono fun k h=>h.1⟩
 | cons t rest ih=>
  intro done n num x acc W htabs hx hnum hmem hba hj hk ht
  have hlt:num<tabs.length:=by rw [htabs,hnum,hx];simp
  have hti:tabs[num]=t:=by simp only [htabs,hnum,hx];simp
  have htl:t.length≤100000:=hbb t (by rw [htabs];simp)
  have hrt:∀ r∈t,∃ a l c,r = .slice a l c:=hrs t (by rw [htabs];simp)
  have HIH:Hid (∀ (r:Value) (acc:List (List Value)) (W:World),r∈t→B (acc++(prods rest).map ((x ++ [r])++·))→J acc W→Tk W T tabs.length (x ++ [r])→Tabs (fun k=>C k∧k≠T) W tb to_ tabs→
    CallsIn Fence.wide (n - 1) Tryz.prog 192 #[.int .i64 ((num:Int)+1), .slice (some ⟨tb,to_,none⟩) tabs.length tc, .slice (some ⟨T,0,none⟩) tabs.length tabs.length, .func (.yield l) #[] #[]] W
     fun e W'=>e = .returned (.bool true)∧J (acc++(prods rest).map ((x ++ [r])++·)) W'∧Tk W' T tabs.length (x ++ [r])∧Fr (fun k=>C k∧k≠T) W W'):=fun r acc W hr hba' hj hk ht=>by
   have h:=ih (done ++ [t]) (n - 1) (num+1) (x ++ [r]) acc W (by rw [htabs];simp) (by simp [hx]) (by simp [hnum]) (fun y hy=>by
    have:=hmem (r::y) (by simp only [prods,List.mem_flatMap,List.mem_map];exact ⟨r,hr,y,hy,rfl⟩)
    simpa using this) hba' hj hk ht
   have e:((num+1:Nat):Int)=(num:Int)+1:=by omega
   rw [e] at h
   exact h
  obtain ⟨v,hv,hsl⟩:=ht.at_ num hlt
  rw [hti] at hsl
  have HT:=hid ht
  have HK:=hid hk
  have HJ:=hid hj
  have HN:=hid hnum
  have HBt:Hid (B (acc++t.flatMap fun r=>(prods rest).map ((x ++ [r])++·))):=by
   show B _
   have e:(prods (t::rest)).map (x++·)=t.flatMap fun r=>(prods rest).map ((x ++ [r])++·):=by
    simp only [prods,List.map_flatMap,List.map_map]
    congr 1
    funext r
    congr 1
    funext y
    simp
   rw [← e];exact hba
  clear ih htabs hx hmem hti ht hk hj hnum hba
  have hne1:((num:Int) == (tabs.length:Int))=false:=by simp;omega
  refine callsIn_of_wp Tryz.func192 rfl trivial ?_ rfl
  simp only [Tryz.ntmps192,List.size_toArray,List.length_cons,List.length_nil,Nat.reduceAdd,Nat.reduceSub,Array.replicate_succ,Array.replicate_zero,List.push_toArray,List.append_toArray,List.nil_append,List.cons_append]
  rcases hsl with ⟨rfl,rfl⟩ | ⟨b,off,c,rfl,hbl,hCb,hcells⟩
  ·gi_wp2
   gi_loopw [21] (fun i w2=>i = .int .i64 0∧w2=W) (fun _ _=>0)
   case atStart=>exact ⟨rfl,rfl⟩
   case round=>
    obtain ⟨rfl,rfl⟩:=hrel
    gi_wp2
    go_ret
    exact ⟨rfl,by simpa [prods] using HJ.out,HK.out,Fr.refl _ _⟩
  ·have HC:=hid hcells
   clear hcells
   gi_wp2
   gi_loopw [21] (fun i w2=>∃ k:Nat,k≤t.length∧i = .int .i64 k∧Hid (J (acc++(t.take k).flatMap fun r=>(prods rest).map ((x ++ [r])++·)) w2)∧Hid (Tk w2 T tabs.length x)∧Hid (Fr (fun k=>C k∧k≠T) W w2)) (fun i _=>t.length - (intOf i).toNat)
   case atStart=>exact ⟨0,Nat.zero_le _,rfl,by show J _ _;simpa using HJ.out,HK,Fr.refl _ _⟩
   case round=>
    obtain ⟨k,hk,rfl,HJ2,HK2,HF2⟩:=hrel
    by_cases hlt2:k<t.length
    ·have c0:=(HF2.out.cell (p:=⟨b,off+k,none⟩) hbl hCb).trans (HC.out k hlt2)
     obtain ⟨u,hu⟩:=HK2.out.some_ num hlt
     have hfz:=HK2.out.un num
     have hmem:t[k]∈t:=List.getElem_mem hlt2
     have HX:=HIH.out t[k] (acc++(t.take k).flatMap fun r=>(prods rest).map ((x ++ [r])++·)) (wr.setCell ⟨T,num,none⟩ t[k]) hmem (by
      have h1:=HBt.out
      have h2:t=t.take (k+1)++t.drop (k+1):=(List.take_append_drop _ _).symm
      rw [h2,List.flatMap_append,← List.append_assoc] at h1
      have h3:=hB _ _ h1
      rw [take_flat t k hlt2,← List.append_assoc] at h3
      exact h3) (hJ _ _ _ HJ2.out (fr_put _ _ _ _)) (by have:=HK2.out.put (by have:=HN.out;omega) t[k];rw [← HN.out] at this;exact this) ((HT.out.fr HF2.out).fr ((fr_put _ _ _ _).mono fun k h=>h.2))
     have HJ3:Hid ((acc++(t.take k).flatMap fun r=>(prods rest).map ((x ++ [r])++·))++(prods rest).map ((x ++ [t[k]])++·)=acc++(t.take (k+1)).flatMap fun r=>(prods rest).map ((x ++ [r])++·)):=by
      show _=_;rw [take_flat t k hlt2,List.append_assoc]
     obtain ⟨ra,rl,rc,hr⟩:=hrt t[k] hmem
     rw [hr] at c0 HX HJ3
     clear hr hmem
     gi_wp2
     refine ⟨trivial,fun h=>(by cases h),?_⟩
     refine HX.mono ?_
     rintro e W3 ⟨rfl,hJ3,hK3,hF3⟩
     have HJ4:Hid (J (acc++(t.take (k+1)).flatMap fun r=>(prods rest).map ((x ++ [r])++·)) W3):=by show J _ _;rw [← HJ3.out];exact hJ3
     have HF4:Hid (Fr (fun k=>C k∧k≠T) W W3):=(HF2.out.trans ((fr_put _ _ _ _).mono fun k h=>h.2)).trans hF3
     clear hJ3 HX
     gi_wp2
     go_roundw
     case rel=>exact ⟨k+1,by omega,by go_num,HJ4,hK3.cut,HF4⟩
     case measure=>simp [intOf];omega
    ·obtain rfl:k=t.length:=by omega
     gi_wp2
     go_ret
     exact ⟨rfl,by have:=HJ2.out;rw [List.take_length] at this;simp only [prods,List.map_flatMap,List.map_map];simpa [Function.comp_def] using this,HK2.out,HF2.out⟩
end Go.Proofs.YtgnncnhkgmhngaaGreatDoor
