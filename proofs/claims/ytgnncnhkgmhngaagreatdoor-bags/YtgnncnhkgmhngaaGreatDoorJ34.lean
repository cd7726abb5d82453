import Derived.Test.YtgnncnhkgmhngaaGreatDoorJ33
import Derived.RangeFuncNested
import Derived.RangeFuncBound
import Derived.RangeFuncCalls
import Derived.RangeFuncLeaves
import Derived.Shelf.Abstract
import Derived.Shelf.RegionOpen
import Derived.OwnWalkIn
import Derived.TacticsInMore
import Derived.LoopNIn
import Derived.LoopIn
set_option maxHeartbeats 4000000
set_option maxRecDepth 100000
namespace Go.Proofs.YtgnncnhkgmhngaaGreatDoor
open Go.RowKit Go.Shelf Go.Sort
attribute [local go_sem] Oper.semAt_some
theorem gP {P:Program} {f:FuncId} {args:Array Value} {w:World} {v:Value} (h:Calls P f args w λe w'=>e = .returned v/\Below w.heap.size w w'):Calls P f args w λe w'=>e = .returned v/\Gr w w':=
 (Dr.rS h (λ_ hx=>by cases hx.1)).mono λ_ _ hx=>⟨hx.1.1,Gr.of hx.1.2 hx.2⟩
def upto (N k:Nat):List (Fin N):=(List.finRange N).take k
theorem upto_succ (N k:Nat) (h:k<N):upto N (k+1)=upto N k ++ [⟨k,h⟩]:=by
 unfold upto
 rw [uV (by simpa using h)]
 simp
theorem upto_length (N k:Nat) (h:k<=N):(upto N k).length=k:=by simp [upto];omega
theorem upto_all (N:Nat):upto N N=List.finRange N:=by unfold upto;rw [sD (by simp)]
theorem BL (F:Fence) (n:Nat) (h1:F.fn 195) (hro:F.round=none) (v:Value) (hv:∃ a l c,v = .slice a l c) (w:World) :
  CallsIn F n Tryz.prog 195 #[v] w λe w'=>e = .returned (.func (.func 237) #[] #[.pointer (some ⟨w.heap.size,0,none⟩)])/\w'=w.alloc (.cells #[v] 32):=by
 obtain ⟨a,l,c,rfl⟩:=hv
 refine callsIn_of_wp Tryz.func195 rfl h1 ?_ hro
 simp only [Tryz.ntmps195,List.size_toArray,List.length_cons,List.length_nil,Nat.reduceAdd,Nat.reduceSub,Array.replicate_succ,Array.replicate_zero,List.push_toArray,List.append_toArray,List.nil_append,List.cons_append]
 gi_wp2
 go_ret
 exact ⟨rfl,rfl⟩
def dE:List (List Sv.Val)->Nat->Nat
 | _,0=>0
 | [],_+1=>0
 | r::rs,i+1=>r.length+dE rs i
theorem ahead_zero (rs:List (List Sv.Val)):dE rs 0=0:=by cases rs <;> rfl
theorem uI:∀ (rs:List (List Sv.Val)) (i:Nat) (h:i<rs.length),dE rs (i+1)=dE rs i+rs[i].length
 | [],i,h=>by simp at h
 | r::rs,0,_=>by simp [dE,ahead_zero]
 | r::rs,i+1,h=>by
  have ih:=uI rs i (by simpa using h)
  simp only [dE,List.getElem_cons_succ] at ih ⊢
  omega
theorem xI:∀ rs:List (List Sv.Val),dE rs rs.length=rs.flatten.length
 | []=>rfl
 | r::rs=>by simp only [List.length_cons,dE,List.flatten_cons,List.length_append,xI rs]
theorem BM:∀ (rs:List (List Sv.Val)) (i:Nat) (h:i<rs.length),dE rs i+rs[i].length<=rs.flatten.length
 | [],i,h=>by simp at h
 | r::rs,0,_=>by simp [ahead_zero]
 | r::rs,i+1,h=>by
  have ih:=BM rs i (by simpa using h)
  simp only [dE,List.getElem_cons_succ,List.flatten_cons,List.length_append] at ih ⊢
  omega
theorem Fl:∀ (rs:List (List Sv.Val)) (i j:Nat) (h:i<rs.length) (hj:j<rs[i].length),rs.flatten[dE rs i+j]?=some rs[i][j]
 | [],i,j,h,_=>by simp at h
 | r::rs,0,j,_,hj=>by
  simp only [ahead_zero,Nat.zero_add,List.flatten_cons,List.getElem_cons_zero] at hj ⊢
  rw [List.getElem?_append_left hj,rI hj]
 | r::rs,i+1,j,h,hj=>by
  simp only [List.getElem_cons_succ] at hj ⊢
  have ih:=Fl rs i j (by simpa using h) hj
  simp only [dE,List.flatten_cons]
  rw [List.getElem?_append_right (by omega),<- ih]
  congr 1
  omega
theorem GR (F:Fence) (n:Nat) (h1:F.fn 237) (hro:F.round=none) (hn:1<=n) (l Bs n₀ rb ro cap:Nat) (rs:List (List Sv.Val)) (hbig:rs.length<=100000) (hbig2:rs.flatten.length<=100000) (J Jx:List (Fin rs.flatten.length)->World->Prop)
  (hY:∀ pre x W,J pre W->pre.length<rs.flatten.length->YieldAt F (n - 1) Tryz.prog l #[.int .i64 (x.1:Int),dI (rs.flatten[x])] W λe W'=>
   (e = .returned (.bool true)/\J (pre ++ [x]) W'/\Below n₀ W W')\/(e = .returned (.bool false)/\Jx (pre ++ [x]) W'))
  (B:Nat) (hA:AbidesFrom B J)
  (W:World) (hs:n₀<=W.heap.size) (hBs:W.cell? ⟨Bs,0,none⟩=some (.slice (some ⟨rb,ro,none⟩) rs.length cap)) (hr:ER n₀ W rb ro rs) (h0:J [] W) :
  CallsIn F n Tryz.prog 237 #[.func (.yield l) #[] #[], .pointer (some ⟨Bs,0,none⟩)] W λe W'=>(∃ v,e = .returned v)/\
   ((∃ ys,ys=List.finRange rs.flatten.length/\J ys W')\/(∃ pre,(∃ k,k<=rs.flatten.length/\pre=upto rs.flatten.length k)/\Jx pre W')):=by
 refine callsIn_of_wp Tryz.func237 rfl h1 ?_ hro
 simp only [Tryz.ntmps237,List.size_toArray,List.length_cons,List.length_nil,Nat.reduceAdd,Nat.reduceSub,Array.replicate_succ,Array.replicate_zero,List.push_toArray,List.append_toArray,List.nil_append,List.cons_append]
 gi_wp2
 gi_loopw [3,10] (λx i wr=>∃ k:Nat,k<=rs.length/\i = .int .i64 k/\x = .int .i64 (dE rs k:Nat)/\Hid (J (upto rs.flatten.length (dE rs k)) wr)/\Hid (Below n₀ W wr)) (λ_ i _=>rs.length - (intOf i).toNat)
 case atStart=>exact ⟨0,fO _,rfl,by rw [ahead_zero];rfl,by rw [ahead_zero];exact h0,Below.refl _ _⟩
 case round=>
  obtain ⟨k,hk,rfl,rfl,HJ,HB⟩:=hrel
  by_cases hlt:k<rs.length
  ·obtain ⟨v,hv,HR⟩:=(hr.below HB.out).at_ k hlt
   have HS:Hid (dE rs (k+1)=dE rs k+rs[k].length):=uI rs k hlt
   have HL:Hid (dE rs k+rs[k].length<=rs.flatten.length):=BM rs k hlt
   have HF:Hid (∀ j,(hj:j<rs[k].length)->rs.flatten[dE rs k+j]?=some rs[k][j]):=λj hj=>Fl rs k j hlt hj
   rcases HR with ⟨rfl,hnil⟩ | ⟨b,off,c,rfl,hb,hvs⟩
   ·gi_wp2
    gi_loopw [3,16] (λx i w2=>x = .int .i64 (dE rs k:Nat)/\i = .int .i64 0/\w2=wr) (λ_ _ _=>0)
    case atStart=>exact ⟨rfl,rfl,rfl⟩
    case round=>
     obtain ⟨rfl,rfl,rfl⟩:=hrel
     gi_wp2
     go_roundw
     case rel=>exact ⟨k+1,by omega,by go_num,by rw [HS.out,hnil];rfl,by rw [HS.out,hnil];exact HJ.out,HB⟩
     case measure=>simp [intOf];omega
   ·have HV:=hid hvs
    clear hvs
    generalize hrk:rs[k]=row at *
    clear hrk
    have hrow:row.length<=100000:=by have:=HL.out;omega
    gi_wp2
    gi_loopw [3,16] (λx i w2=>∃ j m:Nat,j<=row.length/\i = .int .i64 j/\x = .int .i64 m/\Hid (m=dE rs k+j)/\Hid (J (upto rs.flatten.length m) w2)/\Hid (Below n₀ wr w2)) (λ_ i _=>row.length - (intOf i).toNat)
    case atStart=>exact ⟨0,dE rs k,fO _,rfl,rfl,rfl,HJ,Below.refl _ _⟩
    case round=>
     obtain ⟨j,m,hj,rfl,rfl,HM,HJ2,HB2⟩:=hrel
     by_cases hlt2:j<row.length
     ·have hV:=HV.out.below HB2.out HB2.out.size hb
      have c0:=hV.k j hlt2
      have c1:=hV.n j hlt2
      have c2:=hV.s j hlt2
      have hm:m<rs.flatten.length:=by have:=HM.out;have:=HL.out;omega
      have HX:Hid (rs.flatten[m]=row[j]):=by show _=_;have h2:=HF.out j hlt2;rw [<- HM.out,rI hm] at h2;exact Option.some.inj h2
      clear hV
      obtain ⟨⟨yk,yn,ys⟩,hy0⟩:∃ y,row[j]=y:=⟨_,rfl⟩
      rw [hy0] at c0 c1 c2 HX
      clear hy0
      dsimp only at c0 c1 c2
      have SE:Hid (J (upto rs.flatten.length m) (wr.alloc (.cells #[.int .i64 yk, .int .i64 yn, .string ys] 40))):=hA _ _ _ none HJ2.out (World.grownBy_alloc _ _ none) (λr e=>by cases e)
      have HB3:Hid (Below n₀ W (wr.alloc (.cells #[.int .i64 yk, .int .i64 yn, .string ys] 40))):=(HB.out.trans HB2.out).alloc (cE hs (cE HB.out.size HB2.out.size)) _
      obtain ⟨fn,tmps,assign,body,hy,hR⟩:=hY _ ⟨m,hm⟩ _ SE.out (by rw [upto_length _ _ (Nat.le_of_lt hm)];exact hm)
      simp only [Fin.getElem_fin] at hy
      rw [HX.out] at hy
      dsimp only [dI] at hy
      gi_wp2
      refine hR.mono ?_
      rintro e W3 (⟨rfl,hJ3,hk3⟩ | ⟨rfl,hJx3⟩)
      ·have QM:Hid (J (upto rs.flatten.length (m+1)) W3):=by show J _ _;rw [upto_succ _ _ hm];exact hJ3
       have HB4:=hid (HB3.out.trans hk3)
       have yZ:Hid (RowKit.Below n₀ _ W3):=(HB2.out.alloc (cE hs (cE HB.out.size HB2.out.size)) (.cells #[.int .i64 yk, .int .i64 yn, .string ys] 40)).trans hk3
       clear hJ3 hk3
       gi_wp2
       go_roundw
       case rel=>exact ⟨j+1,m+1,by omega,by go_num,by go_num,by show _=_;rw [HM.out];omega,QM,yZ⟩
       case measure=>simp [intOf];omega
      ·gi_wp2
       refine cL (results_none rfl _ _ _) rfl ?_
       exact ⟨⟨_,rfl⟩, .inr ⟨_,⟨m+1,by omega,by rw [upto_succ _ _ hm]⟩,hJx3⟩⟩
     ·obtain rfl:j=row.length:=by omega
      gi_wp2
      go_roundw
      case rel=>exact ⟨k+1,by omega,by go_num,by rw [HS.out,HM.out],by rw [HS.out,<- HM.out];exact HJ2.out,HB.out.trans HB2.out⟩
      case measure=>simp [intOf];omega
  ·obtain rfl:k=rs.length:=by omega
   gi_wp2
   go_end0
   exact ⟨⟨_,rfl⟩, .inl ⟨_,rfl,by have:=HJ.out;rw [xI,upto_all] at this;exact this⟩⟩
theorem rT (F:Fence) (n:Nat) (h1:F.fn 237) (hro:F.round=none) (hn:1<=n) (Bs n₀ rb ro cap:Nat) (rs:List (List Sv.Val)) (fs:List Sv.Val) (hfs:rs.flatten=fs) (hbig:rs.length<=100000) (hbig2:fs.length<=100000) (w:World) (hBs:Bs<w.heap.size) (hn₀:n₀<=w.heap.size)
  (hc:w.cell? ⟨Bs,0,none⟩=some (.slice (some ⟨rb,ro,none⟩) rs.length cap)) (hr:ER n₀ w rb ro rs) :
  SeqStopsK F n Tryz.prog 237 #[.pointer (some ⟨Bs,0,none⟩)] (λx:Fin fs.length=>#[Value.int .i64 (x.1:Int),dI (fs[x])]) (RowKit.Below n₀) (λys=>ys=List.finRange fs.length)
   (λpre=>∃ k,k<=fs.length/\pre=upto fs.length k) fs.length w:=by
 subst hfs
 exact λl J Jx W hW hJ _ hY h0=>
  GR F n h1 hro hn l Bs n₀ rb ro cap rs hbig hbig2 J Jx hY _ hJ W (cE hn₀ hW.size) ((hW.cell (p:=⟨Bs,0,none⟩) hBs).trans hc) (hr.below (hW.mono hn₀)) h0
end Go.Proofs.YtgnncnhkgmhngaaGreatDoor
namespace Go.Proofs.YtgnncnhkgmhngaaGreatDoor
open Go.RowKit Go.Shelf
attribute [local go_sem] Oper.semAt_some
def bP:List Sv.Val->List Sv.Val->Int
 | [], []=>0
 | [],_::_=>-1
 | _::_, []=>1
 | a::l,b::m=>if Sv.cmp a b=0 then bP l m else Sv.cmp a b
def iI (us vs:List Sv.Val):List (Fin us.length)->Int
 | []=>0
 | x::l=>if Sv.cmp us[x] (vs[x.1]?.getD Sv.null)=0 then iI us vs l else Sv.cmp us[x] (vs[x.1]?.getD Sv.null)
theorem xJ (us vs:List Sv.Val):∀ (l:List (Fin us.length)) (x:Fin us.length),iI us vs l=0->iI us vs (l ++ [x])=Sv.cmp us[x] (vs[x.1]?.getD Sv.null)
 | [],x,_=>by
  simp only [List.nil_append,iI]
  split
  ·rename_i h;exact h.symm
  ·rfl
 | y::l,x,h=>by
  simp only [List.cons_append,iI] at h ⊢
  split at h
  ·rename_i h2;rw [if_pos h2];exact xJ us vs l x h
  ·rename_i h2;exact absurd h h2
theorem BN (us vs:List Sv.Val):∀ (l m:List (Fin us.length)),iI us vs l≠0->iI us vs (l++m)=iI us vs l
 | [],m,h=>absurd rfl h
 | y::l,m,h=>by
  simp only [List.cons_append,iI] at h ⊢
  split
  ·rename_i h2;rw [if_pos h2] at h;exact BN us vs l m h
  ·rfl
theorem xK (u:Sv.Val) (us:List Sv.Val) (v:Sv.Val) (vs:List Sv.Val):∀ l:List (Fin us.length),iI (u::us) (v::vs) (l.map Fin.succ)=iI us vs l
 | []=>rfl
 | x::l=>by
  have ih:=xK u us v vs l
  simp only [List.map_cons,iI,Fin.getElem_fin,Fin.val_succ,List.getElem_cons_succ,List.getElem?_cons_succ]
  rw [ih]
theorem BO:∀ us vs:List Sv.Val,us.length=vs.length->iI us vs (List.finRange us.length)=bP us vs
 | [], [],_=>rfl
 | [],_::_,h=>by simp at h
 | u::us, [],h=>by simp at h
 | u::us,v::vs,h=>by
  have e:List.finRange (u::us).length=0::(List.finRange us.length).map Fin.succ:=List.finRange_succ
  rw [e]
  have ih:=BO us vs (by simpa using h)
  simp only [iI,bP]
  rw [xK,ih]
  rfl
theorem GS (us vs:List Sv.Val) (k:Nat) (h:iI us vs (upto us.length k)≠0):iI us vs (List.finRange us.length)=iI us vs (upto us.length k):=by
 conv=>lhs;rw [<- List.take_append_drop k (List.finRange us.length)]
 exact BN us vs _ _ h
theorem B3.kept {w w' : World} {b:Nat} {x y z:Value} {row:Option Nat} (h:B3 w b x y z) (hg:w.grownBy w' row) (hr:∀ r,row=some r->∃ o:Obj,w.heap[r]?=some o/\o.isCells=false):B3 w' b x y z:=
 ⟨bY h.lt hg.size,cell_kept h.c0 hg hr,cell_kept h.c1 hg hr,cell_kept h.c2 hg hr,(frozen_kept h.c0 hg hr).trans h.f0,(frozen_kept h.c1 hg hr).trans h.f1,(frozen_kept h.c2 hg hr).trans h.f2⟩
theorem rU {B:Nat} {W W' : World} (g:Gr W W'):KeepsFrom B W W':=
 ⟨g.size,λk _o _ h0 _=>(g.below.block k (Array.getElem?_eq_some_iff.1 h0).1).trans h0⟩
theorem cO {W W' : World} {B:Nat} {t:TypeId} {v:Value} (h:Boxed W B t v) (g:Gr W W'):Boxed W' B t v:=
 h.kept (row:=none) ⟨g.below.os,g.below.tape,g.below.output,g.size,λk hk _=>g.below.block k hk⟩ (by simp)
theorem mW {n₀:Nat} {W W' : World} (g:Gr W W') (h:n₀<=W.heap.size):RowKit.Below n₀ W W':=g.below.mono h
theorem uJ (n:Nat) (hn:6<=n) (us vs:List Sv.Val) (av bv:Value) (hlen:us.length=vs.length) (hbig:us.length<=100000) (w:World) (ha:Rw w.heap.size w av us) (hb:Rw w.heap.size w bv vs) :
  CallsIn Fence.wide n Tryz.prog 239 #[av,bv] w λe W'=>e = .returned (.int .i64 (bP us vs))/\RowKit.Below w.heap.size w W':=by
 have h1:1<=n:=by omega
 have hro:Fence.wide.round=none:=rfl
 have hfn:∀ k,Fence.wide.fn k:=λ_=>trivial
 obtain ⟨aa,al,ac,rfl⟩:∃ a l c,av = .slice a l c:=by rcases ha with ⟨rfl,_⟩ | ⟨b,o,c,rfl,_⟩ <;> exact ⟨_,_,_,rfl⟩
 obtain ⟨ba,bl,bc,rfl⟩:∃ a l c,bv = .slice a l c:=by rcases hb with ⟨rfl,_⟩ | ⟨b,o,c,rfl,_⟩ <;> exact ⟨_,_,_,rfl⟩
 have HA:=hid ha
 have Yr:=hid hb
 clear ha hb
 refine callsIn_of_wp_marks Tryz.func239 rfl (hfn _) ?_ hro
 simp only [Tryz.ntmps239,List.size_toArray,List.length_cons,List.length_nil,Nat.reduceAdd,Nat.reduceSub,Array.replicate_succ,Array.replicate_zero,List.push_toArray,List.append_toArray,List.nil_append,List.cons_append]
 gi_wp2_with (gi_at_call 195;refine (BL Fence.wide (n - 1) (hfn _) hro _ ⟨_,_,_,rfl⟩ _).mono ?_;rintro e w' ⟨rfl,rfl⟩)
 have hfw:=hfn
 have bB:=(((Boxed.new w 41 (.slice ba bl bc)).alloc (.cells #[.int .i64 0] 3)).alloc (.cells #[.slice aa al ac] 41)).alloc (.cells #[.slice (some ⟨w.heap.size+1+1,0,none⟩) 1 1] 32)
 have bR:=((Boxed.new (w.alloc (.cells #[.slice ba bl bc] 41)) 3 (.int .i64 0)).alloc (.cells #[.slice aa al ac] 41)).alloc (.cells #[.slice (some ⟨w.heap.size+1+1,0,none⟩) 1 1] 32)
 have bA:=(Boxed.new ((w.alloc (.cells #[.slice ba bl bc] 41)).alloc (.cells #[.int .i64 0] 3)) 41 (.slice aa al ac)).alloc (.cells #[.slice (some ⟨w.heap.size+1+1,0,none⟩) 1 1] 32)
 have bS:=Boxed.new (((w.alloc (.cells #[.slice ba bl bc] 41)).alloc (.cells #[.int .i64 0] 3)).alloc (.cells #[.slice aa al ac] 41)) 32 (.slice (some ⟨w.heap.size+1+1,0,none⟩) 1 1)
 simp only [World.size_alloc] at bR bA bS
 have hB0:RowKit.Below w.heap.size w ((((w.alloc (.cells #[.slice ba bl bc] 41)).alloc (.cells #[.int .i64 0] 3)).alloc (.cells #[.slice aa al ac] 41)).alloc (.cells #[.slice (some ⟨w.heap.size+1+1,0,none⟩) 1 1] 32)):=((((Below.refl _ w).alloc (aF _) _).alloc (by simp) _).alloc (by simp;omega) _).alloc (by simp;omega) _
 have hsz:((((w.alloc (.cells #[.slice ba bl bc] 41)).alloc (.cells #[.int .i64 0] 3)).alloc (.cells #[.slice aa al ac] 41)).alloc (.cells #[.slice (some ⟨w.heap.size+1+1,0,none⟩) 1 1] 32)).heap.size=w.heap.size+4:=by simp
 obtain ⟨W0,hW0⟩:∃ W0,(((w.alloc (.cells #[.slice ba bl bc] 41)).alloc (.cells #[.int .i64 0] 3)).alloc (.cells #[.slice aa al ac] 41)).alloc (.cells #[.slice (some ⟨w.heap.size+1+1,0,none⟩) 1 1] 32)=W0:=⟨_,rfl⟩
 rw [hW0] at bB bR bA bS hB0 hsz ⊢
 clear hW0
 have QN:Hid (ER (w.heap.size+3) W0 (w.heap.size+1+1) 0 [us]):=⟨by omega,λi hi=>by
  obtain rfl:i=0:=by simpa using hi
  exact ⟨_,bA.cell,by
   rcases HA.out with ⟨h,h2⟩ | ⟨b,o,c,h,h2,h3⟩
   ·exact .inl ⟨h,h2⟩
   ·exact .inr ⟨b,o,c,h,by omega,h3.below hB0 hB0.size h2⟩⟩⟩
 obtain ⟨fs,hfs⟩:∃ fs,([us]:List (List Sv.Val)).flatten=fs:=⟨_,rfl⟩
 have JG:fs=us:=by rw [<- hfs];simp
 have hst:=rT Fence.wide (n - 1) (hfn _) hro (by omega) (w.heap.size+1+1+1) (w.heap.size+3) (w.heap.size+1+1) 0 1 [us] fs hfs (by simp) (by rw [JG];exact hbig) W0 (by omega) (by omega) bS.cell QN.out
 clear hfs QN
 have HR:Hid (iI fs vs (List.finRange fs.length)=bP us vs):=by show _=_;subst JG;exact BO _ _ hlen
 have HN:Hid (fs.length=vs.length):=by show _=_;rw [JG];exact hlen
 have hbig' : fs.length<=100000:=by rw [JG];exact hbig
 clear JG hlen HA bA bS
 refine wpIn_rangeFunc_ownH hro h1 (gf:=237) (lb:=#[.pointer (some ⟨w.heap.size+1+1+1,0,none⟩)]) rfl (hfn _) (enters_of Tryz.func237 (by kernel_rfl) rfl)
  hst belowK_t (belowK_b (by omega)) (Below.refl _ _) (λ_=>rfl)
  (λpre W=>(((Boxed W w.heap.size 41 (.slice ba bl bc)/\Boxed W (w.heap.size+1) 3 (.int .i64 0))/\Hid (iI fs vs pre=0))/\w.heap.size+4<=W.heap.size)/\RowKit.Below w.heap.size w W)
  (λc pre W=>((c = .ret/\iI fs vs pre≠0)/\Boxed W (w.heap.size+1) 3 (.int .i64 (iI fs vs pre)))/\RowKit.Below w.heap.size w W)
  (OwnFrom.and (OwnFrom.and (OwnFrom.and (OwnFrom.and (Own.from (boxed_own _ _ _) _) (Own.from (boxed_own _ _ _) _)) (λ_ _ _ _ hs _ _=>hs)) (λ_ _ _ _ hs hg _=>cE hs hg.size)) (ownFrom_below (aF _) (by omega)))
  (λc=>OwnFrom.and (OwnFrom.and (λ_ _ _ _ hs _ _=>hs) (Own.from (boxed_own _ _ _) _)) (ownFrom_below (aF _) (by omega)))
  ⟨⟨⟨⟨bB,bR⟩,rfl⟩,by omega⟩,hB0⟩
  (λx a' W=>∃ Bx,w.heap.size+1<Bx/\B3 W Bx (.int .i64 fs[x].k) (.int .i64 fs[x].n) (.string fs[x].s)/\a'={ tmps:=#[.slice aa al ac, .slice ba bl bc,undef, .pointer (some ⟨w.heap.size,0,none⟩), .pointer (some ⟨w.heap.size+1,0,none⟩), .int .i64 (x.1:Int), .pointer (some ⟨Bx,0,none⟩),undef, .slice aa al ac, .slice (some ⟨w.heap.size+1+1,0,none⟩) 1 1, .func (.func 237) #[] #[.pointer (some ⟨w.heap.size+1+1+1,0,none⟩)], .int .i64 (x.1:Int),dI fs[x],undef,undef,undef,undef,undef,undef,undef,undef,undef],defers := [] })
  (λx a' _ X Y row hs hg hr=>by obtain ⟨Bx,h1,h2,h3⟩:=hs;exact ⟨Bx,h1,h2.kept hg (λr e=>(hr r e).2),h3⟩)
  ?assign ?body ?done ?stop
 case assign=>
  rintro l pre x W K ⟨⟨⟨⟨b1,b2⟩,h3⟩,h4⟩,h5⟩ hK
  gi_wp2
  exact hK _ _ ((KeepsOthers.alloc _ _).from _) ((Below.refl _ W).alloc (by omega) _) ⟨⟨⟨⟨b1.alloc _,b2.alloc _⟩,h3⟩,by simp;omega⟩,h5.alloc h5.size _⟩ ⟨W.heap.size,by have:=b2.lt;omega,B3.new W _ _ _ _,rfl⟩
 case body=>
  rintro l pre x a' W hl ⟨r,hr⟩ ⟨⟨⟨⟨b1,b2⟩,h3⟩,h4⟩,h5⟩ ⟨Bx,hBx,bX,rfl⟩ hlt
  have hx:x.1<vs.length:=by have:=HN.out;omega
  rcases Yr.out with ⟨_,hnil⟩ | ⟨bb,bo,bc',hbe,hbb,hbv⟩
  ·rw [hnil] at hx;simp at hx
  ·cases hbe
   have hV:=hbv.below h5 h5.size hbb
   have c0:=hV.k x.1 hx
   have c1:=hV.n x.1 hx
   have c2:=hV.s x.1 hx
   clear hV
   have HC:Hid (∀ w,Calls Tryz.prog 270 #[.agg #[.int .i64 fs[x].k, .int .i64 fs[x].n, .string fs[x].s], .agg #[.int .i64 vs[x.1].k, .int .i64 vs[x.1].n, .string vs[x.1].s]] w λe w'=>e = .returned (.int .i64 (Sv.cmp fs[x] vs[x.1]))/\Gr w w'):=λw=>AP fs[x] vs[x.1] w
   have HZ:Hid (iI fs vs (pre ++ [x])=Sv.cmp fs[x] vs[x.1]):=by
    show _=_;rw [xJ fs vs pre x h3.out,rI hx];rfl
   obtain ⟨Ys,x0,x1,x2,y0,y1,y2⟩:=bX
   generalize Sv.cmp fs[x] vs[x.1]=cv at HC HZ
   generalize fs[x].k=ak at *
   generalize fs[x].n=an at *
   generalize fs[x].s=aS at *
   generalize vs[x.1].k=bk at *
   generalize vs[x.1].n=bn at *
   generalize vs[x.1].s=bS at *
   have cB:=b1.cell
   have hm:=mixed
   have h1' : 1<=n - 1 - 1:=by omega
   have HW:=hid h4
   by_cases hcv:cv=0
   ·have HZ0:=hid (HZ.out.trans hcv)
    gi_wp2
    gi_region_with_o (gi_at_call 270;refine (CallsIn.inRound l (callsIn_wide.2 (HC.out _))).mono ?_;rintro e w2 ⟨rfl,g2⟩)
    all_goals gi_wp2
    all_goals (have g3:=(Gr.refl W).drew.trans g2;exact ⟨rU g3,mW g3 (by omega),⟨⟨⟨cO b1 g3,cO b2 g3⟩,HZ0⟩,cE HW.out g3.size⟩,h5.trans (mW g3 h5.size)⟩)
   ·gi_wp2
    gi_region_with_o (gi_at_call 270;refine (CallsIn.inRound l (callsIn_wide.2 (HC.out _))).mono ?_;rintro e w2 ⟨rfl,g2⟩;have hr1:=(cO b2 ((Gr.refl W).drew.trans g2)).cell;have hr2:=(cO b2 ((Gr.refl W).drew.trans g2)).frozen)
    all_goals gi_wp2
    all_goals (have g3:=(Gr.refl W).drew.trans g2;exact ⟨(rU g3).trans ((KeepsOthers.setCell _ _ _).from _),⟨⟨rfl,by rw [HZ.out];exact hcv⟩,by rw [HZ.out];exact (cO b2 g3).set _⟩,(h5.trans (mW g3 h5.size)).setCell (p:=⟨w.heap.size+1,0,none⟩) (Nat.le_succ _) _⟩)
 case done=>
  rintro D ys W hD rfl ⟨⟨⟨⟨b1,b2⟩,h3⟩,h4⟩,h5⟩ hK
  have hr1:=b2.cell
  have hr2:=b2.frozen
  gi_wp2
  have hK':=(KeepsOthers.setCell W ⟨w.heap.size+1,0,none⟩ (.int .i64 0)).same D _ hK rfl
  refine ⟨by simp, .inl ⟨_,_,rfl,run_takeDeferred hK',?_⟩⟩
  have hc5:=cell_kept (b2.set (.int .i64 0)).cell (grownBy_putObj' _ D (.deferred none)) (λr e=>by cases e;exact ⟨_,hK',rfl⟩)
  refine ⟨.int .i64 0,?_,by rw [<- HR.out,h3.out],(h5.setCell (p:=⟨w.heap.size+1,0,none⟩) (Nat.le_succ _) _).trans (belowK_b (w:=w) (aF _) _ D _ _ (by omega) hK' rfl rfl)⟩
  simp [results,Tryz.f239,go_sem,hc5]
 case stop=>
  rintro D c pre W hD ⟨k,hk,rfl⟩ ⟨⟨⟨rfl,hne⟩,b2⟩,h5⟩ hK
  have hr1:=b2.cell
  gi_wp2
  refine ⟨by simp, .inl ⟨_,_,rfl,run_takeDeferred hK,?_⟩⟩
  have hc5:=cell_kept b2.cell (grownBy_putObj' _ D (.deferred none)) (λr e=>by cases e;exact ⟨_,hK,rfl⟩)
  refine ⟨.int .i64 (iI fs vs (upto fs.length k)),?_,by rw [<- HR.out,GS fs vs k hne],h5.trans (belowK_b (w:=w) (aF _) W D _ _ (by omega) hK rfl rfl)⟩
  simp [results,Tryz.f239,go_sem,hc5]
theorem gT (us vs:List Sv.Val) (av bv:Value) (hlen:us.length=vs.length) (hbig:us.length<=100000) (w:World) (ha:Rw w.heap.size w av us) (hb:Rw w.heap.size w bv vs) :
  Calls Tryz.prog 239 #[av,bv] w λe w'=>e = .returned (.int .i64 (bP us vs))/\Gr w w':=
 gP (callsIn_wide.1 (uJ 6 (aF _) us vs av bv hlen hbig w ha hb))
end Go.Proofs.YtgnncnhkgmhngaaGreatDoor
namespace Go.Proofs.YtgnncnhkgmhngaaGreatDoor
structure Cm {α:Type} (c:α->α->Int):Prop where
 refl:∀ a,c a a=0
 anti:∀ a b,c b a=- c a b
 tr:∀ a b d,c a b<0->c b d<0->c a d<0
 eq:∀ a b,c a b=0->a=b
theorem JH:Cm Sv.dY where
 refl a:=by simp [Sv.dY]
 anti a b:=by unfold Sv.dY;repeat' split;all_goals omega
 tr a b d:=by unfold Sv.dY;repeat' split;all_goals omega
 eq a b:=by unfold Sv.dY;repeat' split;all_goals omega
theorem JI {α β γ:Type} {c:β->β->Int} {d:γ->γ->Int} (f:α->β) (g:α->γ) (hc:Cm c) (hd:Cm d) (hi:∀ a b,f a=f b->g a=g b->a=b):Cm (λa b=>if c (f a) (f b)=0 then d (g a) (g b) else c (f a) (f b)) where
 refl a:=by simp [hc.refl,hd.refl]
 anti a b:=by
  have h1:=hc.anti (f a) (f b)
  have h2:=hd.anti (g a) (g b)
  by_cases h:c (f a) (f b)=0
  ·rw [if_pos h,if_pos (by omega),h2]
  ·rw [if_neg h,if_neg (by omega),h1]
 tr a b e:=by
  intro h1 h2
  by_cases p:c (f a) (f b)=0
  ·rw [if_pos p] at h1
   have e1:=hc.eq _ _ p
   by_cases q:c (f b) (f e)=0
   ·rw [if_pos q] at h2
    rw [e1,if_pos q]
    exact hd.tr _ _ _ h1 h2
   ·rw [if_neg q] at h2
    rw [e1,if_neg q]
    exact h2
  ·rw [if_neg p] at h1
   by_cases q:c (f b) (f e)=0
   ·have e2:=hc.eq _ _ q
    rw [<- e2,if_neg p]
    exact h1
   ·rw [if_neg q] at h2
    have h3:=hc.tr _ _ _ h1 h2
    rw [if_neg (by omega)]
    exact h3
 eq a b:=by
  intro h
  by_cases p:c (f a) (f b)=0
  ·rw [if_pos p] at h
   exact hi a b (hc.eq _ _ p) (hd.eq _ _ h)
  ·rw [if_neg p] at h
   exact absurd h p
theorem Fm:∀ a:List UInt8,Sv.nD a a=false
 | []=>rfl
 | x::a=>by simp [Sv.nD,Fm a]
theorem BP:∀ a b:List UInt8,Sv.nD a b=true->Sv.nD b a=false
 | _, [],h=>by cases ‹List UInt8› <;> simp [Sv.nD] at h
 | [],_::_,_=>by simp [Sv.nD]
 | x::a,y::b,h=>by
  simp only [Sv.nD] at h ⊢
  by_cases h1:x<y
  ·have:¬ y<x:=by simp only [UInt8.lt_iff_toNat_lt] at *;omega
   simp [this,h1]
  ·by_cases h2:y<x
   ·simp [h1,h2] at h
   ·simp [h1,h2] at h ⊢
    exact BP a b h
theorem JJ:∀ a b d:List UInt8,Sv.nD a b=true->Sv.nD b d=true->Sv.nD a d=true
 | a, [],_,h,_=>by cases a <;> simp [Sv.nD] at h
 | _,_::_, [],_,h=>by simp [Sv.nD] at h
 | [],_::_,_::_,_,_=>by simp [Sv.nD]
 | x::a,y::b,z::d,h1,h2=>by
  simp only [Sv.nD,UInt8.lt_iff_toNat_lt] at h1 h2 ⊢
  have ih:=JJ a b d
  repeat' split at h1
  all_goals repeat' split at h2
  all_goals repeat' split
  all_goals first | rfl | omega | (simp at h1;done) | (simp at h2;done) | exact ih h1 h2
theorem Fo:∀ a b:List UInt8,Sv.nD a b=false->Sv.nD b a=false->a=b
 | [], [],_,_=>rfl
 | [],_::_,h,_=>by simp [Sv.nD] at h
 | _::_, [],_,h=>by simp [Sv.nD] at h
 | x::a,y::b,h1,h2=>by
  simp only [Sv.nD] at h1 h2
  by_cases p:x<y
  ·simp [p] at h1
  ·by_cases q:y<x
   ·simp [q] at h2
   ·simp [p,q] at h1 h2
    have:x=y:=by
     rw [UInt8.lt_iff_toNat_lt] at p q
     exact UInt8.toNat_inj.1 (by omega)
    rw [this,Fo a b h1 h2]
theorem JK:Cm Sv.nR where
 refl a:=by simp [Sv.nR,Fm]
 anti a b:=by
  unfold Sv.nR
  cases p:Sv.nD a b
  ·cases q:Sv.nD b a <;> simp
  ·simp [BP a b p]
 tr a b d:=by
  unfold Sv.nR
  intro h1 h2
  have k1:Sv.nD a b=true:=by cases p:Sv.nD a b <;> simp [p] at h1 ⊢ <;> (split at h1 <;> omega)
  have k2:Sv.nD b d=true:=by cases p:Sv.nD b d <;> simp [p] at h2 ⊢ <;> (split at h2 <;> omega)
  simp [JJ a b d k1 k2]
 eq a b:=by
  unfold Sv.nR
  intro h
  cases p:Sv.nD a b
  ·cases q:Sv.nD b a
   ·exact Fo a b p q
   ·simp [p,q] at h
  ·simp [p] at h
theorem qZ:Cm Sv.cmp:=by
 have e:Sv.cmp=λa b:Sv.Val=>if Sv.dY a.k b.k=0 then (λx y:Int×ByteArray=>if Sv.dY x.1 y.1=0 then Sv.nR x.2.toList y.2.toList else Sv.dY x.1 y.1) (a.n,a.s) (b.n,b.s) else Sv.dY a.k b.k:=by
  funext a b
  simp only [Sv.cmp,Sv.Au]
  by_cases p:Sv.dY a.k b.k=0
  ·by_cases q:Sv.dY a.n b.n=0
   ·by_cases r:Sv.nR a.s.toList b.s.toList=0 <;> simp [p,q,r]
   ·simp [p,q]
  ·simp [p]
 rw [e]
 have hb:Cm (λx y:Int×ByteArray=>if Sv.dY x.1 y.1=0 then Sv.nR x.2.toList y.2.toList else Sv.dY x.1 y.1):=
  JI (λx:Int×ByteArray=>x.1) (λx:Int×ByteArray=>x.2.toList) JH JK (λa b h1 h2=>Prod.ext h1 (bytes_inj h2))
 exact JI (λa:Sv.Val=>a.k) (λa:Sv.Val=>(a.n,a.s)) JH hb (λa b h1 h2=>by
  cases a;cases b;simp only [Prod.mk.injEq] at h1 h2;simp only [Sv.Val.mk.injEq];exact ⟨h1,h2⟩)
theorem fZ:∀ l:List Sv.Val,bP l l=0
 | []=>rfl
 | a::l=>by simp [bP,qZ.refl,fZ l]
theorem dU:∀ l m:List Sv.Val,bP m l=- bP l m
 | [], []=>rfl
 | [],_::_=>rfl
 | _::_, []=>rfl
 | a::l,b::m=>by
  have h1:=qZ.anti a b
  have ih:=dU l m
  simp only [bP]
  by_cases h:Sv.cmp a b=0
  ·rw [if_pos h,if_pos (by omega),ih]
  ·rw [if_neg h,if_neg (by omega),h1]
theorem kP:∀ l m:List Sv.Val,bP l m=0->l=m
 | [], [],_=>rfl
 | [],_::_,h=>by simp [bP] at h
 | _::_, [],h=>by simp [bP] at h
 | a::l,b::m,h2=>by
  simp only [bP] at h2
  by_cases p:Sv.cmp a b=0
  ·rw [if_pos p] at h2
   rw [qZ.eq _ _ p,kP l m h2]
  ·rw [if_neg p] at h2
   exact absurd h2 p
theorem sR:∀ l m k:List Sv.Val,bP l m<0->bP m k<0->bP l k<0
 | [], [],_,h,_=>by simp [bP] at h
 | [],_::_, [],_,h=>by simp [bP] at h
 | [],_::_,_::_,_,_=>by simp [bP]
 | _::_, [],_,h,_=>by simp [bP] at h
 | _::_,_::_, [],_,h=>by simp [bP] at h
 | a::l,b::m,d::k,h1,h2=>by
  have ih:=sR l m k
  simp only [bP] at h1 h2 ⊢
  by_cases p:Sv.cmp a b=0
  ·rw [if_pos p] at h1
   have e1:=qZ.eq _ _ p
   by_cases q:Sv.cmp b d=0
   ·rw [if_pos q] at h2
    rw [e1,if_pos q]
    exact ih h1 h2
   ·rw [if_neg q] at h2
    rw [e1,if_neg q]
    exact h2
  ·rw [if_neg p] at h1
   by_cases q:Sv.cmp b d=0
   ·have e2:=qZ.eq _ _ q
    rw [<- e2,if_neg p]
    exact h1
   ·rw [if_neg q] at h2
    have h3:=qZ.tr _ _ _ h1 h2
    rw [if_neg (by omega)]
    exact h3
theorem JL:Cm bP:=⟨fZ,dU,sR,kP⟩
theorem Cm.Nc {α:Type} {c:α->α->Int} (h:Cm c) (x y z:α) (h1:c x y<=0) (h2:c y z<=0):c x z<=0:=by
 by_cases p:c x y=0
 ·rw [h.eq _ _ p];exact h2
 ·by_cases q:c y z=0
  ·rw [<- h.eq _ _ q];exact h1
  ·have:=h.tr x y z (by omega) (by omega);omega
def aI (l:List (List Sv.Val)):List (List Sv.Val):=l.mergeSort (λx y=>decide (bP x y<=0))
theorem bF (l:List (List Sv.Val)):(aI l).Perm l:=List.mergeSort_perm l _
theorem eI (l:List (List Sv.Val)):(aI l).Pairwise (λx y=>bP x y<=0):=by
 have h:=List.pairwise_mergeSort (le:=λx y=>decide (bP x y<=0)) (λa b c h1 h2=>by
  simp only [decide_eq_true_eq] at *;exact JL.Nc a b c h1 h2) (λa b=>by
  have:=dU a b;simp only [Bool.or_eq_true,decide_eq_true_eq];omega) l
 exact h.imp (λh=>by simpa using h)
theorem zV (l m:List (List Sv.Val)) (hp:m.Perm l) (hs:m.Pairwise (λx y=>bP x y<=0)):m=aI l:=
 List.Perm.eq_of_pairwise (le:=λx y=>bP x y<=0) (λa b _ _ h1 h2=>kP a b (by have:=dU a b;omega)) hs (eI l) (hp.trans (bF l).symm)
end Go.Proofs.YtgnncnhkgmhngaaGreatDoor
