import Derived.Test.YtgnncnhkgmhngaaGreatDoorJ04
import Derived.Test.YtgnncnhkgmhngaaGreatDoorJ02
import Derived.Deep.QuietTactic
import Derived.BigQuiet
import Derived.Deep.RegionWith
set_option maxHeartbeats 1000000
namespace Go.Proofs.YtgnncnhkgmhngaaGreatDoor
open Sp
open Go.RowKit
abbrev dI (v:Sv.Val):Value := .agg #[.int .i64 v.k, .int .i64 v.n, .string v.s]
structure Kept (b:Nat) (w w' : World):Prop where
 os:w'.os=w.os
 tape:w'.tape=w.tape
 output:w'.output=w.output
 size:w.heap.size<=w'.heap.size
 block:∀ k,k<w.heap.size->k≠b->w'.heap[k]?=w.heap[k]?
theorem Kept.refl (b:Nat) (w:World):Kept b w w:=⟨rfl,rfl,rfl,aF _,λ_ _ _=>rfl⟩
theorem Kept.trans {b:Nat} {x y z:World} (h:Kept b x y) (k:Kept b y z):Kept b x z:=
 ⟨k.os.trans h.os,k.tape.trans h.tape,k.output.trans h.output,cE h.size k.size,λi hi hb=>(k.block i (bY hi h.size) hb).trans (h.block i hi hb)⟩
theorem Kept.below {b:Nat} {w w' : World} (h:Below w.heap.size w w'):Kept b w w':=⟨h.os,h.tape,h.output,h.size,λk hk _=>h.block k hk⟩
theorem Kept.drew {b:Nat} {a w:World} (h:Kept b a w):Kept b a w.drew:=⟨h.os,h.tape,h.output,h.size,h.block⟩
theorem Kept.drewN {b:Nat} {a w:World} (h:Kept b a w) (n:Nat):Kept b a (w.drewN n):=h.trans ⟨rfl,rfl,rfl,aF _,λ_ _ _=>rfl⟩
theorem Kept.alloc {b:Nat} {a w:World} (h:Kept b a w) (o:Obj):Kept b a (w.alloc o):=
 h.trans ⟨rfl,rfl,rfl,by simp,λk hk _=>kX _ _ _ hk⟩
theorem Kept.setCell {b:Nat} {a w:World} (h:Kept b a w) (o:Nat) (u:Value):Kept b a (w.setCell ⟨b,o,none⟩ u):=
 h.trans ⟨rfl,rfl,rfl,by simp [World.setCell],λk _ hb=>dQ _ _ _ _ hb⟩
theorem Kept.cell {b:Nat} {w w' : World} (h:Kept b w w') {p:Addr} (hp:p.block<w.heap.size) (hb:p.block≠b):w'.cell? p=w.cell? p:=fB (w:=w) (h.block p.block hp hb)
theorem Kept.frozen {b:Nat} {w w' : World} (h:Kept b w w') {p:Addr} (hp:p.block<w.heap.size) (hb:p.block≠b):w'.frozen? p=w.frozen? p:=wF (w:=w) (h.block p.block hp hb)
theorem Kept.aJ {b:Nat} {a w:World} (h:Kept b a w) {p:Addr} (hp:a.heap.size<=p.block) (u:Value):Kept b a (w.setCell p u):=
 ⟨h.os,h.tape,h.output,by simpa [World.setCell] using h.size,λk hk hb=>(dQ _ _ _ _ (by omega)).trans (h.block k hk hb)⟩
theorem KM (zs:List ByteArray) (x:ByteArray) (k:Nat) (h:k<zs.length) (e:(x.toList == zs[k].toList)=true):zs.any (λz=>x.toList == z.toList)=true:=
 List.any_eq_true.2 ⟨zs[k],jD h,e⟩
theorem Im (zs:List ByteArray) (x:ByteArray) (h:∀ j,(hj:j<zs.length)->(x.toList == zs[j].toList)=false):zs.any (λz=>x.toList == z.toList)=false:=by
 rw [List.any_eq_false]
 intro z hz
 obtain ⟨j,hj,rfl⟩:=List.getElem_of_mem hz
 simp [h j hj]
def oneOf (zs:List ByteArray) (x:ByteArray):Bool:=zs.any (λz=>x.toList == z.toList)
theorem FP (b off n c:Nat) (zs:List ByteArray) (x:ByteArray) (w:World) (hz:n=zs.length) (hbig:n<=1000) (hc:∀ j,(h:j<zs.length)->w.cell? ⟨b,off+j,none⟩=some (.string zs[j])) :
  Calls Tryz.prog 251 #[.slice (some ⟨b,off,none⟩) n c, .string x] w λe w'=>(∃ q:Int,e = .returned (.int .i64 q)/\(decide (0<=q))=oneOf zs x)/\w'=w:=by
 have HC:=hid hc
 clear hc
 have HZ:=hid hz
 clear hz
 go_enter Tryz.func251,Tryz.ntmps251
 go_wp2
 go_loop [8] (λi=>∃ k:Nat,k<=n/\i = .int .i64 k/\Hid (∀ j,j<k->(hj:j<zs.length)->(x.toList == zs[j].toList)=false)) (λi=>n - (intOf i).toNat)
 case atStart=>exact ⟨0,fO _,rfl,λj hj=>absurd hj (Nat.not_lt_zero _)⟩
 case round=>
  obtain ⟨k,hk,rfl,HR⟩:=hrel
  by_cases hlt:k<n
  ·have hkz:k<zs.length:=by have:=HZ.out;omega
   have hcell:=HC.out k hkz
   cases he:(x.toList == zs[k].toList)
   ·go_wp2
    go_round
    case rel=>exact ⟨k+1,by omega,by go_num,λj hj hj'=>by
     by_cases e:j=k
     ·subst e;exact he
     ·exact HR.out j (by omega) hj'⟩
    case measure=>simp [intOf];omega
   ·have HV:Hid (oneOf zs x=true):=KM zs x k hkz he
    go_wp2
    go_ret
    exact ⟨⟨_,rfl,by rw [HV.out];simp⟩,rfl⟩
  ·have HV:Hid (oneOf zs x=false):=Im zs x λj hj=>HR.out j (by have:=HZ.out;omega) hj
   go_wp2
   go_ret
   exact ⟨⟨_,rfl,by rw [HV.out];simp⟩,rfl⟩
theorem yL (b off n c:Nat) (zs:List ByteArray) (x:ByteArray) (w:World) (hz:n=zs.length) (hbig:n<=1000) (hc:∀ j,(h:j<zs.length)->w.cell? ⟨b,off+j,none⟩=some (.string zs[j])) :
  Calls Tryz.prog 211 #[.slice (some ⟨b,off,none⟩) n c, .string x] w λe w'=>e = .returned (.bool (oneOf zs x))/\w'=w:=by
 have H:Hid (∀ w',w'=w->Calls Tryz.prog 251 #[.slice (some ⟨b,off,none⟩) n c, .string x] w' λe w''=>(∃ q:Int,e = .returned (.int .i64 q)/\(decide (0<=q))=oneOf zs x)/\w''=w'):=λw' e=>by subst e;exact FP b off n c zs x w' hz hbig hc
 clear hz hc
 go_enter Tryz.func211,Tryz.ntmps211
 go_wp2_with fail
 refine (H.out _ rfl).mono ?_
 rintro e w' ⟨⟨q,rfl,hq⟩,rfl⟩
 have HQ:=hid hq
 clear hq
 go_wp2_with fail
 go_ret
 exact ⟨dN HQ.out,rfl⟩
theorem EQ (b off n c:Nat) (zs:List ByteArray) (x:ByteArray) (k a:Int) (w:World) (hz:n=zs.length) (hbig:n<=1000) (hb:b<w.heap.size) (hc:∀ j,(h:j<zs.length)->w.cell? ⟨b,off+j,none⟩=some (.string zs[j])) :
  Calls Tryz.prog 173 #[.agg #[.int .i64 k, .int .i64 a, .string x], .slice (some ⟨b,off,none⟩) n c] w λe w'=>e = .returned (.bool (oneOf zs x))/\w'=w.alloc (.cells #[.int .i64 k, .int .i64 a, .string x] 155):=by
 have H:Hid (∀ o,Calls Tryz.prog 211 #[.slice (some ⟨b,off,none⟩) n c, .string x] (w.alloc o) λe w''=>e = .returned (.bool (oneOf zs x))/\w''=w.alloc o):=λo=>yL b off n c zs x (w.alloc o) hz hbig (λj h=>(World.cell?_alloc_lt _ _ _ hb).trans (hc j h))
 clear hz hc
 go_enter Tryz.func173,Tryz.ntmps173
 go_wp2_with fail
 refine (H.out _).mono ?_
 rintro e w' ⟨rfl,rfl⟩
 go_wp2_with fail
 go_ret
 exact ⟨rfl,rfl⟩
def pos (s:Sp.Bs):Nat->Nat
 | 0=>0
 | i+1=>fE s (pos s i)
def iS:List Sp.Bs:=keys ++ [[40], [41], [44], [46], [42], [43], [45], [47], [61], [60,62], [60], [60,61], [62], [62,61]]
def qH (s:Sp.Bs) (e:Nat) (wd:Sp.Bs):Prop:=∀ x∈iS,(wd == x)=(aD s e == .key&&bW s e == x)
structure TK (s:Sp.Bs) (len:Nat):Prop where
 one:1<=len
 top:len<=100000
 mid:∀ j,j+1<len->aD s (pos s j) ≠ .fin/\aD s (pos s j) ≠ .bad
 last:∀ j,j+1=len->aD s (pos s j) = .fin\/aD s (pos s j) = .bad
def er:St->Nat | .live _=>0 | .dead x _=>x
def ea:St->Nat | .live _=>0 | .dead _ a=>a
def IX (s:Sp.Bs) (len i:Nat):St->Prop
 | .live e=>i<len/\pos s i=e
 | .dead x _=>i+1=len/\x≠0
theorem IX.lt {s:Sp.Bs} {len i:Nat} {σ:St} (h:IX s len i σ):i<len:=by
 cases σ with
 | live e=>exact h.1
 | dead x a=>have:=h.1;omega
structure TC (c:Nat) (s:Sp.Bs) (w:World) (j:Nat) (wd:ByteArray):Prop where
 k:w.cell? ⟨c,j*3,none⟩=some (.int .i64 (kn (aD s (pos s j))))
 a:w.cell? ⟨c,j*3+1,none⟩=some (.int .i64 (aO s (pos s j):Nat))
 t:w.cell? ⟨c,j*3+2,none⟩=some (.string wd)
 ok:qH s (pos s j) wd.toList
 wq:aD s (pos s j) ≠ .bad->wd.toList=bW s (pos s j)
structure PS (b c cap len:Nat) (s:Sp.Bs) (d:Nat) (σ:St) (w:World):Prop where
 lb:b<w.heap.size
 lc:c<w.heap.size
 ne:c≠b
 tk:TK s len
 h0:w.cell? ⟨b,0,none⟩=some (.slice (some ⟨c,0,none⟩) len cap)
 h1:∃ i:Nat,IX s len i σ/\w.cell? ⟨b,1,none⟩=some (.int .i64 i)
 h2:w.cell? ⟨b,2,none⟩=some (.int .i64 d)
 h3:w.cell? ⟨b,3,none⟩=some (.int .i64 (er σ))
 h4:w.cell? ⟨b,4,none⟩=some (.int .i64 (ea σ))
 fz:∀ o,w.frozen? ⟨b,o,none⟩=false
 tc:∀ j,j<len->∃ wd,TC c s w j wd
 h5:5<c/\c<b
 vm:∃ m:Int,w.cell? ⟨5,0,none⟩=some (.int .i64 m)
theorem TC.kept {b c:Nat} {s:Sp.Bs} {w w' : World} {j:Nat} {wd:ByteArray} (h:TC c s w j wd) (k:Kept b w w') (lc:c<w.heap.size) (ne:c≠b):TC c s w' j wd:=
 ⟨(k.cell (p:=⟨c,_,none⟩) lc ne).trans h.k,(k.cell (p:=⟨c,_,none⟩) lc ne).trans h.a,(k.cell (p:=⟨c,_,none⟩) lc ne).trans h.t,h.ok,h.wq⟩
theorem PS.next {b c cap len:Nat} {s:Sp.Bs} {d d' : Nat} {σ σ' : St} {w w' : World} (h:PS b c cap len s d σ w) (k:Kept b w w')
  (h0:w'.cell? ⟨b,0,none⟩=some (.slice (some ⟨c,0,none⟩) len cap)) (i:Nat) (hi:IX s len i σ') (h1:w'.cell? ⟨b,1,none⟩=some (.int .i64 i)) (h2:w'.cell? ⟨b,2,none⟩=some (.int .i64 d'))
  (h3:w'.cell? ⟨b,3,none⟩=some (.int .i64 (er σ'))) (h4:w'.cell? ⟨b,4,none⟩=some (.int .i64 (ea σ'))) (fz:∀ o,w'.frozen? ⟨b,o,none⟩=false):PS b c cap len s d' σ' w':=
 ⟨bY h.lb k.size,bY h.lc k.size,h.ne,h.tk,h0,⟨i,hi,h1⟩,h2,h3,h4,fz,λj hj=>(by obtain ⟨wd,t⟩:=h.tc j hj;exact ⟨wd,t.kept k h.lc h.ne⟩),h.h5,(by obtain ⟨m,hm⟩:=h.vm;have:=h.h5;have:=h.lc;exact ⟨m,(k.cell (p:=⟨5,0,none⟩) (by show 5<_;omega) (by show 5≠b;omega)).trans hm⟩)⟩
theorem PS.same {b c cap len:Nat} {s:Sp.Bs} {d:Nat} {σ:St} {w w' : World} (h:PS b c cap len s d σ w) (k:Kept b w w') (hb:w'.heap[b]?=w.heap[b]?):PS b c cap len s d σ w':=by
 have hc:∀ o,w'.cell? ⟨b,o,none⟩=w.cell? ⟨b,o,none⟩:=λo=>fB (w:=w) (a:=⟨b,o,none⟩) hb
 have hf:∀ o,w'.frozen? ⟨b,o,none⟩=w.frozen? ⟨b,o,none⟩:=λo=>wF (w:=w) (a:=⟨b,o,none⟩) hb
 obtain ⟨i,hi,h1⟩:=h.h1
 exact h.next k ((hc 0).trans h.h0) i hi ((hc 1).trans h1) ((hc 2).trans h.h2) ((hc 3).trans h.h3) ((hc 4).trans h.h4) (λo=>(hf o).trans (h.fz o))
theorem PS.alloc {b c cap len:Nat} {s:Sp.Bs} {d:Nat} {σ:St} {w:World} (h:PS b c cap len s d σ w) (o:Obj):PS b c cap len s d σ (w.alloc o):=
 h.same ((Kept.refl b w).alloc o) (kX _ _ _ h.lb)
theorem PS.drew {b c cap len:Nat} {s:Sp.Bs} {d:Nat} {σ:St} {w:World} (h:PS b c cap len s d σ w):PS b c cap len s d σ w.drew:=
 h.same (Kept.refl b w).drew rfl
theorem PS.drewN {b c cap len:Nat} {s:Sp.Bs} {d:Nat} {σ:St} {w:World} (h:PS b c cap len s d σ w) (n:Nat):PS b c cap len s d σ (w.drewN n):=
 h.same ((Kept.refl b w).drewN n) rfl
theorem PS.below {b c cap len:Nat} {s:Sp.Bs} {d:Nat} {σ:St} {w w' : World} (h:PS b c cap len s d σ w) (k:Below w.heap.size w w'):PS b c cap len s d σ w':=
 h.same (Kept.below k) (k.block b h.lb)
def s6 (x a:Nat):St->St
 | .live _ => .dead x a
 | .dead y z => .dead y z
def Post (b c cap len:Nat) (s:Sp.Bs) (d:Nat) (σ:St) (w:World) (r:Ending) (w' : World):Prop:=
 r = .returned (.tuple #[])/\PS b c cap len s d σ w'/\Kept b w w'
theorem wH {b c cap len:Nat} {s:Sp.Bs} {d:Nat} {σ:St} {w:World} (h:PS b c cap len s d σ w) (x a:Nat) (hx:x≠0) :
  Calls Tryz.prog 134 #[.pointer (some ⟨b,0,none⟩), .int .i64 x, .int .i64 a] w (Post b c cap len s d (s6 x a σ) w):=by
 have H:=h
 obtain ⟨lb,lc,ne,tk,h0,⟨i,hi,h1⟩,h2,h3,h4,fz,tc,h5,vm⟩:=h
 have f1:=fz 1
 have f3:=fz 3
 have f4:=fz 4
 have hl:=tk.one
 have hl2:=tk.top
 have HH:=hid H
 clear H tk tc h5 vm
 cases σ with
 | live e=>
  have h3' : w.cell? ⟨b,3,none⟩=some (.int .i64 0):=h3
  have h4' : w.cell? ⟨b,4,none⟩=some (.int .i64 0):=h4
  clear h3 h4 hi
  have FZ:=hid fz
  clear fz
  go_enter Tryz.func134,Tryz.ntmps134
  go_wp2
  go_end0
  have hlen:((len:Int) - 1)=((len - 1:Nat):Int):=by omega
  rw [hlen]
  refine ⟨rfl,HH.out.next (σ' := .dead x a) ((((Kept.refl b w).setCell 3 _).setCell 4 _).setCell 1 _) (by go_simp) (len - 1) ⟨by omega,hx⟩ ?_ (by go_simp) ?_ ?_ (λo=>by have:=FZ.out o;go_simp),(((Kept.refl b w).setCell 3 _).setCell 4 _).setCell 1 _⟩
  all_goals show _=some _
  all_goals go_simp
  all_goals rfl
 | dead y z=>
  have hn:(((er (.dead y z):Nat):Int) != 0)=true:=by have:=hi.2;simp [er];omega
  clear hi
  go_enter Tryz.func134,Tryz.ntmps134
  go_wp2
  exact cL (v := .tuple #[]) (by simp [results,Tryz.results134,go_sem]) rfl ⟨rfl,HH.out,Kept.refl b w⟩
theorem KN (s:Sp.Bs) (x:Nat) (σ:St) (len i:Nat) (h:IX s len i σ):s6 x (aO s (pos s i)) σ=σ.fail s x:=by
 cases σ with
 | live e=>simp only [s6,St.fail];rw [h.2]
 | dead y z=>rfl
abbrev Xh (s:Sp.Bs) (i:Nat) (wd:ByteArray):Value := .agg #[.int .i64 (kn (aD s (pos s i))), .int .i64 (aO s (pos s i):Nat), .string wd]
theorem bG {b c cap len:Nat} {s:Sp.Bs} {d:Nat} {σ:St} {w:World} (h:PS b c cap len s d σ w) :
  ∃ i wd,IX s len i σ/\TC c s w i wd/\Calls Tryz.prog 75 #[.pointer (some ⟨b,0,none⟩)] w λr w'=>r = .returned (.agg #[.int .i64 (kn (aD s (pos s i))), .int .i64 (aO s (pos s i):Nat), .string wd])/\Below w.heap.size w w':=by
 obtain ⟨i,hi,h1⟩:=h.h1
 obtain ⟨wd,tc⟩:=h.tc i hi.lt
 have hil:=hi.lt
 have lt:=h.tk.top
 refine ⟨i,wd,hi,tc,?_⟩
 have A0:=(World.cell?_alloc_lt w (.cells #[.int .i64 0, .int .i64 0, .string ⟨#[]⟩] 155) ⟨b,0,none⟩ h.lb).trans h.h0
 have A1:=(World.cell?_alloc_lt w (.cells #[.int .i64 0, .int .i64 0, .string ⟨#[]⟩] 155) ⟨b,1,none⟩ h.lb).trans h1
 have Ak:=(World.cell?_alloc_lt w (.cells #[.int .i64 0, .int .i64 0, .string ⟨#[]⟩] 155) ⟨c,i*3,none⟩ h.lc).trans tc.k
 have Aa:=(World.cell?_alloc_lt w (.cells #[.int .i64 0, .int .i64 0, .string ⟨#[]⟩] 155) ⟨c,i*3+1,none⟩ h.lc).trans tc.a
 have ZI:=(World.cell?_alloc_lt w (.cells #[.int .i64 0, .int .i64 0, .string ⟨#[]⟩] 155) ⟨c,i*3+2,none⟩ h.lc).trans tc.t
 have Af:∀ o,(w.alloc (.cells #[.int .i64 0, .int .i64 0, .string ⟨#[]⟩] 155)).frozen? ⟨w.heap.size,o,none⟩=false:=λo=>by go_simp
 have AB:Hid (Below w.heap.size w (w.alloc (.cells #[.int .i64 0, .int .i64 0, .string ⟨#[]⟩] 155))):=(Below.refl _ _).alloc (aF _) _
 have AN:∀ o,(w.alloc (.cells #[.int .i64 0, .int .i64 0, .string ⟨#[]⟩] 155)).cell? ⟨w.heap.size,o,none⟩=#[Value.int .i64 0, .int .i64 0, .string ⟨#[]⟩][o]?:=λo=>oZ _ _ _ _
 have N0:=AN 0
 have N1:=AN 1
 have N2:=AN 2
 simp only [List.getElem?_toArray,List.getElem?_cons_zero,List.getElem?_cons_succ] at N0 N1 N2
 have F0:=Af 0
 have F1:=Af 1
 have F2:=Af 2
 clear h tc hi h1 AN Af
 go_enter Tryz.func75,Tryz.ntmps75
 go_wp2_with fail
 generalize w.alloc (.cells #[.int .i64 0, .int .i64 0, .string ⟨#[]⟩] 155)=w1 at *
 go_region_with fail
 all_goals go_wp2_with fail
 all_goals exact cL (v:=Xh s i wd) (by simp [results,Tryz.results75,go_sem, *]) rfl ⟨rfl,(((AB.out.setCell (aF _) _).setCell (aF _) _).setCell (aF _) _).drew⟩
theorem AK (k a:Int) (x:ByteArray) (w:World):(Instr.field 155 (.agg #[.int .i64 k, .int .i64 a, .string x]) 0).run Tryz.prog w = .ok (.int .i64 k) w:=by kernel_rfl
theorem s7 (k a:Int) (x:ByteArray) (w:World):(Instr.field 155 (.agg #[.int .i64 k, .int .i64 a, .string x]) 1).run Tryz.prog w = .ok (.int .i64 a) w:=by kernel_rfl
theorem PD (k a:Int) (x:ByteArray) (w:World):(Instr.field 155 (.agg #[.int .i64 k, .int .i64 a, .string x]) 2).run Tryz.prog w = .ok (.string x) w:=by kernel_rfl
theorem fV {b c cap len:Nat} {s:Sp.Bs} {d:Nat} {σ:St} {w:World} (h:PS b c cap len s d σ w) :
  Calls Tryz.prog 84 #[.pointer (some ⟨b,0,none⟩)] w (Post b c cap len s d (σ.fail s 2) w):=by
 obtain ⟨i,wd,hi,tc,P⟩:=bG h
 rw [<- KN s 2 σ len i hi]
 have HH:=hid h
 have HP:=jL P
 clear h tc hi P
 generalize kn (aD s (pos s i))=kk at HP
 generalize aO s (pos s i)=aa at *
 go_enter Tryz.func84,Tryz.ntmps84
 go_wp2_with fail
 refine (HP.out _ rfl).mono ?_
 rintro r w1 ⟨rfl,hb⟩
 have bT:=hid (HH.out.below hb)
 have bD:Hid (Kept b w w1):=Kept.below hb
 clear hb
 have hfd:=s7
 go_wp2_with fail
 refine (wH bT.out 2 _ (by decide)).mono ?_
 rintro e w' ⟨rfl,hp,hk⟩
 go_wp2_with fail
 go_end0
 exact ⟨rfl,hp,bD.out.trans hk⟩
def isAny (s:Sp.Bs) (zs:List ByteArray) (σ:St):Bool:=zs.any (λz=>σ.is s z.toList)
theorem any_congr {α:Type} {f g:α->Bool} : ∀ {l:List α},(∀ x∈l,f x=g x)->l.any f=l.any g
 | [],_=>rfl
 | a::r,h=>by simp only [List.any_cons];rw [h a (by simp),any_congr (λx hx=>h x (by simp [hx]))]
theorem KO {s:Sp.Bs} {len i:Nat} {σ:St} (tk:TK s len) (hi:IX s len i σ) {wd:ByteArray} (ok:qH s (pos s i) wd.toList) {zs:List ByteArray} (hz:∀ z∈zs,z.toList∈iS):oneOf zs wd=isAny s zs σ:=by
 unfold oneOf isAny
 refine any_congr λz h=>?_
 rw [ok z.toList (hz z h)]
 cases σ with
 | live e=>simp only [St.is];rw [hi.2]
 | dead x a=>
  have:=tk.last i hi.1
  rcases this with h | h <;> simp [St.is,h]
def Words (q:Nat) (zs:List ByteArray) (w:World):Prop:=q<w.heap.size/\zs.length<=1000/\(∀ z∈zs,z.toList∈iS)/\∀ j,(h:j<zs.length)->w.cell? ⟨q,j,none⟩=some (.string zs[j])
theorem Words.drew {q:Nat} {zs:List ByteArray} {w:World} (h:Words q zs w):Words q zs w.drew:=h
theorem AL {b c cap len:Nat} {s:Sp.Bs} {d:Nat} {σ:St} {w:World} (h:PS b c cap len s d σ w) (q n:Nat) (zs:List ByteArray) (hw:Words q zs w) (hn:n=zs.length) :
  Calls Tryz.prog 122 #[.pointer (some ⟨b,0,none⟩), .slice (some ⟨q,0,none⟩) n n] w λr w'=>r = .returned (.bool (isAny s zs σ))/\PS b c cap len s d σ w'/\Kept b w w'/\Below w.heap.size w w':=by
 obtain ⟨i,wd,hi,tc,P⟩:=bG h
 rw [<- KO h.tk hi tc.ok hw.2.2.1]
 have HH:=hid h
 have HW:=hid hw
 have HN:=hid hn
 have HP:=jL P
 clear h tc hi P hw hn
 generalize kn (aD s (pos s i))=kk at HP
 generalize aO s (pos s i)=aa at HP
 go_enter Tryz.func122,Tryz.ntmps122
 go_wp2_with fail
 refine (HP.out _ rfl).mono ?_
 rintro r w1 ⟨rfl,hb⟩
 have bT:=hid (HH.out.below hb)
 have bD:Hid (Kept b w w1):=Kept.below hb
 have HB:=hid hb
 have HC:Hid (q<w1.heap.size/\∀ j,(hj:j<zs.length)->w1.cell? ⟨q,0+j,none⟩=some (.string zs[j])):=⟨bY HW.out.1 hb.size,λj hj=>(hb.cell (p:=⟨q,0+j,none⟩) HW.out.1).trans (by have:=HW.out.2.2.2 j hj;simpa using this)⟩
 clear hb
 go_wp2_with fail
 refine (EQ q 0 n n zs wd _ _ w1 HN.out (by rw [HN.out];exact HW.out.2.1) HC.out.1 HC.out.2).mono ?_
 rintro e w' ⟨rfl,rfl⟩
 go_wp2_with fail
 go_ret
 exact ⟨rfl,bT.out.alloc _,bD.out.alloc _,HB.out.alloc (HB.out.size) _⟩
def bz (l:Sp.Bs):ByteArray:=⟨l.toArray⟩
theorem qI (l:Sp.Bs):(bz l).toList=l:=ByteArray.toList_mk l
def aT (s:Sp.Bs) (zs:List Sp.Bs) (σ:St):Bool:=zs.any (λz=>σ.is s z)
def yM (t:Bool) (s:Sp.Bs) (σ:St):St:=if t then σ.step s else σ
theorem AM (s:Sp.Bs) (zs:List Sp.Bs) (σ:St):isAny s (zs.map bz) σ=aT s zs σ:=by
 unfold isAny aT
 rw [List.any_map]
 exact any_congr λz _=>by simp [qI]
theorem eW {w:World} {zs:List Sp.Bs} {arr:Array Value} (ha:arr=(zs.map λz=>Value.string (bz z)).toArray) (hl:zs.length<=1000) (hf:∀ z∈zs,z∈iS):Words w.heap.size (zs.map bz) (w.alloc (.cells arr 9)):=by
 refine ⟨by simp,by simpa using hl,?_,?_⟩
 ·intro z hz
  obtain ⟨x,hx,rfl⟩:=List.mem_map.1 hz
  rw [qI];exact hf x hx
 ·intro j hj
  rw [oZ,ha]
  have:j<zs.length:=by simpa using hj
  simp [this]
theorem In {s:Sp.Bs} {zs:List Sp.Bs} {σ:St} (h:aT s zs σ=true):∃ e,σ = .live e/\aD s e = .key:=by
 unfold aT at h
 obtain ⟨z,_,hz⟩:=List.any_eq_true.1 h
 cases σ with
 | live e=>simp [St.is] at hz;exact ⟨e,rfl,hz.1⟩
 | dead x a=>simp [St.is] at hz
theorem IX.up {s:Sp.Bs} {len i e:Nat} (tk:TK s len) (h:IX s len i (.live e)) (hc:aD s e ≠ .fin) (hb:aD s e ≠ .bad):IX s len (i+1) ((St.live e).step s):=by
 have h1:=h.1
 have:i+1≠len:=by
  intro he
  have:=tk.last i he
  rw [h.2] at this
  rcases this with x | x
  ·exact hc x
  ·exact hb x
 refine ⟨by omega,?_⟩
 show fE s (pos s i)=_
 rw [h.2]
theorem PS.up {b c cap len:Nat} {s:Sp.Bs} {d e:Nat} {w:World} {i:Nat} (h:PS b c cap len s d (.live e) w) (hi:IX s len i (.live e)) (hc:aD s e ≠ .fin) (hb:aD s e ≠ .bad):PS b c cap len s d ((St.live e).step s) (w.setCell ⟨b,1,none⟩ (.int .i64 ((i:Int)+1))):=by
 obtain ⟨j,hj,h1⟩:=h.h1
 have h0:=h.h0
 have h2:=h.h2
 have h3:=h.h3
 have h4:=h.h4
 have FZ:Hid (∀ o,w.frozen? ⟨b,o,none⟩=false):=h.fz
 refine h.next ((Kept.refl b w).setCell 1 _) (by clear FZ;go_simp) (i+1) (hi.up h.tk hc hb) ?_ (by clear FZ;go_simp) ?_ ?_ (λo=>by have:=FZ.out o;clear FZ;go_simp)
 ·clear FZ h3 h4;go_simp
 ·clear FZ;show World.cell? _ _=some (Value.int .i64 ((0:Nat):Int));have h3' : w.cell? ⟨b,3,none⟩=some (.int .i64 (0:Nat)):=h3;clear h3;go_simp
 ·clear FZ;show World.cell? _ _=some (Value.int .i64 ((0:Nat):Int));have h4' : w.cell? ⟨b,4,none⟩=some (.int .i64 (0:Nat)):=h4;clear h4;go_simp
theorem eR {b c cap len:Nat} {s:Sp.Bs} {d:Nat} {σ:St} {w:World} (h:PS b c cap len s d σ w) (q n:Nat) (zs:List Sp.Bs) (hw:Words q (zs.map bz) w) (hn:n=zs.length) :
  Calls Tryz.prog 76 #[.pointer (some ⟨b,0,none⟩), .slice (some ⟨q,0,none⟩) n n] w λr w'=>r = .returned (.bool (aT s zs σ))/\PS b c cap len s d (yM (aT s zs σ) s σ) w'/\Kept b w w':=by
 have S:=AL h q n (zs.map bz) hw (by simpa using hn)
 rw [AM] at S
 have HS:=jL S
 clear S hw hn
 cases hs:aT s zs σ
 ·have HH:=hid h
  clear h
  go_enter Tryz.func76,Tryz.ntmps76
  go_wp2_with fail
  refine (HS.out _ rfl).mono ?_
  rintro r w' ⟨rfl,hp,hk,_⟩
  have HP:=hid hp
  clear hp
  go_wp2_with fail
  go_ret
  exact ⟨rfl,HP.out,hk⟩
 ·obtain ⟨e,rfl,hkey⟩:=In hs
  clear h
  have HK:=hid hkey
  clear hkey
  go_enter Tryz.func76,Tryz.ntmps76
  go_wp2_with fail
  refine (HS.out _ rfl).mono ?_
  rintro r w' ⟨rfl,hp,hk,_⟩
  obtain ⟨i,hi,h1⟩:=hp.h1
  have f1:=hp.fz 1
  have hlt:=hi.lt
  have ht:=hp.tk.top
  have HP:=hid hp
  have HI:=hid hi
  clear hp hi
  go_wp2_with fail
  go_ret
  exact ⟨rfl,HP.out.up HI.out (by rw [HK.out];decide) (by rw [HK.out];decide),hk.setCell 1 _⟩
theorem oB {b c cap len:Nat} {s:Sp.Bs} {d:Nat} {σ:St} {w:World} (h:PS b c cap len s d σ w) (zs:List Sp.Bs) (hf:∀ z∈zs,z∈iS) (hl:zs.length<=1000) (n:Nat) (hn:n=zs.length) (arr:Array Value) (ha:arr=(zs.map λz=>Value.string (bz z)).toArray) :
  Calls Tryz.prog 76 #[.pointer (some ⟨b,0,none⟩), .slice (some ⟨w.heap.size,0,none⟩) n n] (w.alloc (.cells arr 9)) λr w'=>r = .returned (.bool (aT s zs σ))/\PS b c cap len s d (yM (aT s zs σ) s σ) w'/\Kept b w w':=
 (eR (h.alloc _) w.heap.size n zs (eW ha hl hf) hn).mono λ_ _ ⟨x,y,z⟩=>⟨x,y,((Kept.refl b w).alloc _).trans z⟩
theorem Io {b c cap len:Nat} {s:Sp.Bs} {d:Nat} {σ:St} {w:World} (h:PS b c cap len s d σ w) (zs:List Sp.Bs) (hf:∀ z∈zs,z∈iS) (hl:zs.length<=1000) (n:Nat) (hn:n=zs.length) (arr:Array Value) (ha:arr=(zs.map λz=>Value.string (bz z)).toArray) :
  Calls Tryz.prog 122 #[.pointer (some ⟨b,0,none⟩), .slice (some ⟨w.heap.size,0,none⟩) n n] (w.alloc (.cells arr 9)) λr w'=>r = .returned (.bool (aT s zs σ))/\PS b c cap len s d σ w'/\Kept b w w':=
 (AL (h.alloc _) w.heap.size n (zs.map bz) (eW ha hl hf) (by simpa using hn)).mono λ_ _ ⟨x,y,z,_⟩=>⟨by rw [x,AM],y,((Kept.refl b w).alloc _).trans z⟩
theorem lT (s:Sp.Bs) (z:Sp.Bs) (σ:St):aT s [z] σ=σ.is s z:=by simp [aT]
theorem aW {b c cap len:Nat} {s:Sp.Bs} {d:Nat} {σ:St} {w:World} (h:PS b c cap len s d σ w) (z:Sp.Bs) (hf:z∈iS) :
  Calls Tryz.prog 76 #[.pointer (some ⟨b,0,none⟩), .slice (some ⟨w.heap.size,0,none⟩) 1 1] (w.alloc (.cells #[.string ⟨z.toArray⟩] 9)) λr w'=>r = .returned (.bool (σ.is s z))/\PS b c cap len s d (σ.take s z) w'/\Kept b w w':=by
 have:=oB h [z] (by simpa using hf) (by simp) 1 rfl #[.string ⟨z.toArray⟩] rfl
 rw [lT] at this
 exact this
theorem lU {b c cap len:Nat} {s:Sp.Bs} {d:Nat} {σ:St} {w:World} (h:PS b c cap len s d σ w) (z:Sp.Bs) (hf:z∈iS) :
  Calls Tryz.prog 122 #[.pointer (some ⟨b,0,none⟩), .slice (some ⟨w.heap.size,0,none⟩) 1 1] (w.alloc (.cells #[.string ⟨z.toArray⟩] 9)) λr w'=>r = .returned (.bool (σ.is s z))/\PS b c cap len s d σ w'/\Kept b w w':=by
 have:=Io h [z] (by simpa using hf) (by simp) 1 rfl #[.string ⟨z.toArray⟩] rfl
 rw [lT] at this
 exact this
theorem b8 {b c cap len:Nat} {s:Sp.Bs} {d:Nat} {σ:St} {w:World} (h:PS b c cap len s d σ w) (z:Sp.Bs) (hf:z∈iS) :
  Calls Tryz.prog 78 #[.pointer (some ⟨b,0,none⟩), .slice (some ⟨w.heap.size,0,none⟩) 1 1] (w.alloc (.cells #[.string ⟨z.toArray⟩] 9)) (Post b c cap len s d (σ.must s z) w):=by
 have hcell:∀ w',Kept b (w.alloc (.cells #[.string ⟨z.toArray⟩] 9)) w'->w'.cell? ⟨w.heap.size,0,none⟩=some (.string ⟨z.toArray⟩):=λw' k=>(k.cell (p:=⟨w.heap.size,0,none⟩) (by simp) (by have:=h.lb;simp;omega)).trans (by rw [oZ];rfl)
 have HC:=hid hcell
 clear hcell
 have HH:=hid h
 clear h
 go_enter Tryz.func78,Tryz.ntmps78
 go_wp2_with fail
 go_loopw [8] (λi wr=>Kept b (w.alloc (.cells #[.string ⟨z.toArray⟩] 9)) wr/\∃ k:Nat,i = .int .i64 k/\((k=0/\Hid (PS b c cap len s d σ wr))\/(k=1/\Hid (PS b c cap len s d (σ.must s z) wr)))) (λi _=>1 - (intOf i).toNat)
 case atStart=>exact ⟨Kept.refl _ _,0,rfl,Or.inl ⟨rfl,HH.out.alloc _⟩⟩
 case round=>
  obtain ⟨hk,k,rfl,⟨rfl,HP⟩ | ⟨rfl,HP⟩⟩:=hrel
  ·have hcl:=HC.out _ hk
   cases hs:σ.is s z
   ·have HM:Hid (σ.must s z=σ.fail s 2):=by show _=_;simp [St.must,hs]
    have HT:Hid (σ.take s z=σ):=by show _=_;simp [St.take,hs]
    have HK:=hid hk
    clear hk
    go_wp2_with fail
    refine (aW HP.out z hf).mono ?_
    rintro r w1 ⟨rfl,hp1,hk1⟩
    rw [HT.out] at hp1
    have bT:Hid (PS b c cap len s d σ w1):=hp1
    have bD:=hid hk1
    clear hp1 hk1 hcl
    go_wp2_with fail
    refine (fV bT.out).mono ?_
    rintro r w2 ⟨rfl,hp2,hk2⟩
    have HP2:=hid hp2
    clear hp2
    go_wp2_with fail
    go_roundw
    case rel=>exact ⟨(HK.out.trans bD.out).trans hk2,1,by go_num,Or.inr ⟨rfl,by show PS _ _ _ _ _ _ _ _;rw [HM.out];exact HP2.out⟩⟩
    case measure=>simp [intOf]
   ·have HM:Hid (σ.must s z=σ.take s z):=by show _=_;simp [St.must,St.take,hs]
    have HK:=hid hk
    clear hk
    go_wp2_with fail
    refine (aW HP.out z hf).mono ?_
    rintro r w1 ⟨rfl,hp1,hk1⟩
    have bT:=hid hp1
    clear hp1 hcl
    go_wp2_with fail
    go_roundw
    case rel=>exact ⟨HK.out.trans hk1,1,by go_num,Or.inr ⟨rfl,by show PS _ _ _ _ _ _ _ _;rw [HM.out];exact bT.out⟩⟩
    case measure=>simp [intOf]
  ·have HK:=hid hk
   clear hk
   go_wp2_with fail
   go_end0
   exact ⟨rfl,HP.out,((Kept.refl b w).alloc _).trans HK.out⟩
end Go.Proofs.YtgnncnhkgmhngaaGreatDoor
