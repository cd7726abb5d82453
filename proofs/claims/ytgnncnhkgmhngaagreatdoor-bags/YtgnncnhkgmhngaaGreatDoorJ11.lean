import Derived.Test.YtgnncnhkgmhngaaGreatDoorJ09
import Derived.Test.YtgnncnhkgmhngaaGreatDoorJ10
import Derived.OwnWalk
import Derived.Deep.AppendLies
set_option maxHeartbeats 2000000
set_option maxRecDepth 100000
namespace Go.Proofs.YtgnncnhkgmhngaaGreatDoor
open Sp
open Go.RowKit Go.Sort
def sI (w:World) (v:Value) (xs:List Value):Prop:=
 (v = .slice none 0 0/\xs = [])\/∃ blk o c,v = .slice (some ⟨blk,o,none⟩) xs.length c/\blk<w.heap.size/\∀ i,(h:i<xs.length)->w.cell? ⟨blk,o+i,none⟩=some xs[i]
theorem sI.below {w w' : World} {v:Value} {xs:List Value} (h:sI w v xs) (g:Below w.heap.size w w'):sI w' v xs:=by
 rcases h with h | ⟨blk,o,c,e,hb,h⟩
 ·exact .inl h
 ·exact .inr ⟨blk,o,c,e,bY hb g.size,λi hi=>(g.cell (p:=⟨blk,_,none⟩) hb).trans (h i hi)⟩
def sumTo:List (List Value)->Nat->Nat
 | _,0=>0
 | [],_+1=>0
 | l::ls,k+1=>l.length+sumTo ls k
theorem eA (ls:List (List Value)):sumTo ls 0=0:=by cases ls <;> rfl
theorem eS:∀ (ls:List (List Value)) (k:Nat) (h:k<ls.length),sumTo ls (k+1)=sumTo ls k+ls[k].length
 | [],k,h=>by simp at h
 | l::ls,0,_=>by simp [sumTo,eA]
 | l::ls,k+1,h=>by
  have ih:=eS ls k (by simpa using h)
  simp only [sumTo,List.getElem_cons_succ] at ih ⊢
  omega
theorem qK:∀ ls:List (List Value),sumTo ls ls.length=ls.flatten.length
 | []=>rfl
 | l::ls=>by simp only [List.length_cons,sumTo,List.flatten_cons,List.length_append,qK ls]
theorem sumTo_le:∀ (ls:List (List Value)) (k:Nat),sumTo ls k<=ls.flatten.length
 | _,0=>by rw [eA];omega
 | [],k+1=>by simp [sumTo]
 | l::ls,k+1=>by have:=sumTo_le ls k;simp only [sumTo,List.flatten_cons,List.length_append];omega
theorem wM (ls:List (List Value)) (k:Nat) (h:k<ls.length):(ls.take (k+1)).flatten=(ls.take k).flatten++ls[k]:=by
 rw [uV h,List.flatten_append,List.flatten_singleton]
theorem nI:(Tryz.prog.info? 3).map (λi=>(i.zero,i.size,i.bytes))=some (some (.int .i64 0),1,8):=by kernel_rfl
theorem Gc (n:Nat) (h0:0<n) (hn:n<=100000) (w:World) :
  Calls Tryz.prog 285 #[.slice none 0 0, .int .i64 (n:Nat)] w λe w'=>∃ g cap,e = .returned (.slice (some ⟨g,0,none⟩) 0 cap)/\w'.ownsRow w.heap.size 3 1 (.slice (some ⟨g,0,none⟩) 0 cap) 0 []/\n<=cap/\Below w.heap.size w w':=by
 obtain ⟨i0,ji,fR,jz1,fS⟩:=info_parts nI
 have hb8:Tryz.t3.bytes=8:=rfl
 have hns:Builtin.nextslicecap n 0=n:=by unfold Builtin.nextslicecap;rw [if_pos (by omega)]
 have hn0:n≠0:=by omega
 have hm:(n:Int)<=9223372036854775807:=by omega
 go_enter Tryz.func285,Tryz.ntmps285
 go_wp2_with fail
 go_ret
 have hge:=grownCap_ge w n 0 3
 have hle:=grownCap_le_maxLen w n 0 3 (by unfold maxLen;omega)
 refine ⟨w.heap.size,grownCap w n 0 3,rfl,⟨rfl, .inr ⟨w.heap.size,_,_,rfl,aF _,heap_alloc_new w _,fO _,hle,?_,rfl⟩⟩,hge,below_drewN ((Below.refl _ _).alloc (aF _) _) 1⟩
 simp only [Array.size_append,size_zeroCells]
 show n*1+(grownCap w n 0 3 - n)*1=grownCap w n 0 3*1
 omega
theorem Dh (w:World) :
  Calls Tryz.prog 285 #[.slice none 0 0, .int .i64 0] w λe w'=>e = .returned (.slice none 0 0)/\w'=w:=by
 go_enter Tryz.func285,Tryz.ntmps285
 go_wp2_with fail
 go_ret
 exact ⟨rfl,rfl⟩
theorem AS (b off n c:Nat) (vs:List Value) (ls:List (List Value)) (w:World) (hz:n=vs.length) (hz2:ls.length=vs.length) (hb:b<w.heap.size) (hc:∀ j,(h:j<vs.length)->w.cell? ⟨b,off+j,none⟩=some vs[j])
  (hs:∀ j,(h:j<vs.length)->sI w vs[j] (ls[j]?.getD [])) (h1:∀ l∈ls,∀ u∈l,u.oneCell'=true) (hbig:ls.flatten.length<=100000) (hn:n<=1000) :
  Calls Tryz.prog 259 #[.slice (some ⟨b,off,none⟩) n c] w λe w'=>∃ v,e = .returned v/\w'.ownsRow w.heap.size 3 1 v ls.flatten.length ls.flatten/\(ls.flatten = []->v = .slice none 0 0)/\Below w.heap.size w w':=by
 obtain ⟨i0,ji,fR,jz1,fS⟩:=info_parts nI
 have HZ:Hid (n=vs.length/\ls.length=vs.length):=⟨hz,hz2⟩
 have HC:=hid hc
 have HS:=hid hs
 have H1:=hid h1
 clear hz hz2 hc hs h1
 have HT:Hid (sumTo ls ls.length=ls.flatten.length):=qK ls
 go_enter Tryz.func259,Tryz.ntmps259
 go_wp2_with fail
 go_loopw [3,11] (λsz i wr=>∃ k:Nat,k<=n/\i = .int .i64 k/\sz = .int .i64 (sumTo ls k:Nat)/\w=wr) (λ_ i _=>n - (intOf i).toNat)
 case atStart=>exact ⟨0,fO _,rfl,by rw [eA];rfl,rfl⟩
 case round=>
  obtain ⟨k,hk,rfl,rfl,rfl⟩:=hrel
  by_cases hlt:k<n
  ·have hkz:k<vs.length:=by have:=HZ.out.1;omega
   have hkl:k<ls.length:=by have:=HZ.out;omega
   have c0:=HC.out k hkz
   obtain ⟨a0,c1,e0⟩:∃ a0 c1,vs[k] = .slice a0 ls[k].length c1:=by
    have:=HS.out k hkz
    rw [rI hkl,Option.getD_some] at this
    rcases this with ⟨e,e'⟩ | ⟨blk,o,c',e,_⟩
    ·exact ⟨none,0,by rw [e,e'];rfl⟩
    ·exact ⟨_,_,e⟩
   rw [e0] at c0
   have HN:Hid (sumTo ls (k+1)=sumTo ls k+ls[k].length):=eS ls k hkl
   have hle:sumTo ls k+ls[k].length<=100000:=by have:=sumTo_le ls (k+1);have:=HN.out;omega
   clear e0
   generalize ls[k].length=m at *
   generalize sumTo ls k=s0 at *
   go_wp2_with fail
   go_roundw
   case rel=>exact ⟨k+1,by omega,by go_num,by rw [HN.out];go_num,(by first | rfl | trivial)⟩
   case measure=>simp [intOf];omega
  ·obtain rfl:k=n:=by omega
   have HE:Hid (sumTo ls k=ls.flatten.length):=by show _=_;rw [<- HT.out];congr 1;have:=HZ.out;omega
   have hsl:=sumTo_le ls k
   by_cases ht:sumTo ls k=0
   ·rw [ht]
    have HQ:Hid (ls.flatten.length=0):=by show _=_;rw [<- HE.out];exact ht
    clear ht
    go_wp2_with fail
    refine (Dh w).mono ?_
    rintro e w1 ⟨rfl,ew⟩
    subst w1
    go_wp2_with fail
    go_loopw [6,27] (λv i wr=>∃ j:Nat,j<=k/\i = .int .i64 j/\v = .slice none 0 0/\w=wr) (λ_ i _=>k - (intOf i).toNat)
    case atStart=>exact ⟨0,fO _,rfl,rfl,rfl⟩
    case round=>
     obtain ⟨j,hj,rfl,rfl,rfl⟩:=hrel
     by_cases hlt:j<k
     ·have hkz:j<vs.length:=by have:=HZ.out.1;omega
      have hkl:j<ls.length:=by have:=HZ.out;omega
      have c0:=HC.out j hkz
      have hm0:ls[j].length=0:=by have:=eS ls j hkl;have:=sumTo_le ls (j+1);have:=HQ.out;omega
      obtain ⟨a0,c1,e0⟩:∃ a0 c1,vs[j] = .slice a0 0 c1:=by
       have:=HS.out j hkz
       rw [rI hkl,Option.getD_some] at this
       rcases this with ⟨e,e'⟩ | ⟨blk,o,c',e,_⟩
       ·exact ⟨none,0,e⟩
       ·exact ⟨_,_,by rw [e,hm0]⟩
      rw [e0] at c0
      clear e0 hm0
      cases a0 with
      | none=>
       go_wp2_with fail
       go_roundw
       case rel=>exact ⟨j+1,by omega,by go_num,(by first | rfl | trivial),(by first | rfl | trivial)⟩
       case measure=>simp [intOf];omega
      | some a0=>
       go_wp2_with fail
       go_roundw
       case rel=>exact ⟨j+1,by omega,by go_num,(by first | rfl | trivial),(by first | rfl | trivial)⟩
       case measure=>simp [intOf];omega
     ·go_wp2_with fail
      go_ret
      have hq:ls.flatten = []:=Av HQ.out
      exact ⟨_,rfl,by rw [hq];exact ⟨rfl, .inl ⟨rfl,rfl⟩⟩,λ_=>rfl,Below.refl _ _⟩
   ·have hle:sumTo ls k<=100000:=by omega
    have HP:Hid (ls.flatten ≠ []):=λh=>ht (by rw [HE.out,h];rfl)
    have HG:Hid (∀ w1,Calls Tryz.prog 285 #[.slice none 0 0, .int .i64 (sumTo ls k:Nat)] w1 λe w'=>∃ g cap,e = .returned (.slice (some ⟨g,0,none⟩) 0 cap)/\w'.ownsRow w1.heap.size 3 1 (.slice (some ⟨g,0,none⟩) 0 cap) 0 []/\sumTo ls k<=cap/\Below w1.heap.size w1 w'):=λw1=>Gc _ (by omega) hle w1
    go_wp2_with fail
    refine (HG.out w).mono ?_
    rintro e w1 ⟨g,cap,rfl,hown,hcap,hb1⟩
    have HO:=hid hown
    have HB:=hid hb1
    have hgw:=(gC hown).1
    clear hown hb1 HG
    go_wp2_with fail
    go_loopw [6,27] (λv i wr=>∃ j:Nat,j<=k/\i = .int .i64 j/\v = .slice (some ⟨g,0,none⟩) (sumTo ls j) cap/\Hid (wr.ownsRow w.heap.size 3 1 (.slice (some ⟨g,0,none⟩) (sumTo ls j) cap) (sumTo ls j) (ls.take j).flatten)/\Hid (Below w.heap.size w wr)) (λ_ i _=>k - (intOf i).toNat)
    case atStart=>exact ⟨0,fO _,rfl,by rw [eA],by rw [eA];exact HO,HB⟩
    case round=>
     obtain ⟨j,hj,rfl,rfl,HOr,oF⟩:=hrel
     by_cases hlt:j<k
     ·have hkz:j<vs.length:=by have:=HZ.out.1;omega
      have hkl:j<ls.length:=by have:=HZ.out;omega
      have c0:=(oF.out.cell (p:=⟨b,off+j,none⟩) hb).trans (HC.out j hkz)
      obtain ⟨a0,c1,e0,hnone,hcells⟩:∃ a0 c1,vs[j] = .slice a0 ls[j].length c1/\(a0=none->ls[j].length=0/\c1=0)/\∀ ad,a0=some ad->∀ i u,ls[j][i]?=some u->wr.cell? (ad.add i)=some u:=by
       have:=(HS.out j hkz).below oF.out
       rw [rI hkl,Option.getD_some] at this
       rcases this with ⟨e,e'⟩ | ⟨blk,o,c',e,hb',hc'⟩
       ·exact ⟨none,0,by rw [e,e'];rfl,λ_=>⟨by rw [e'];rfl,rfl⟩,λad h=>by cases h⟩
       ·refine ⟨_,_,e,λh=>(by cases h),λad h i u hu=>?_⟩
        injection h with h
        subst h
        rw [Addr.add_lit]
        obtain ⟨hi,rfl⟩:=List.getElem?_eq_some_iff.1 hu
        exact hc' i hi
      rw [e0] at c0
      have HH0:Hid ((a0=none->ls[j].length=0/\c1=0)/\∀ ad,a0=some ad->∀ i u,ls[j][i]?=some u->wr.cell? (ad.add i)=some u):=⟨hnone,hcells⟩
      have HN:Hid (sumTo ls (j+1)=sumTo ls j+ls[j].length):=eS ls j hkl
      have NB:Hid ((ls.take (j+1)).flatten=(ls.take j).flatten++ls[j]):=wM ls j hkl
      have Td:Hid (∀ u∈ls[j],u.oneCell'=true):=H1.out _ (jD hkl)
      have Te:Hid (sumTo ls j+ls[j].length<=cap):=by
       have h1:=sumTo_le ls (j+1)
       have h2:=HN.out
       have h3:=HE.out
       show _<=_
       omega
      clear e0 hnone hcells
      go_wp2_with (at_builtin;go_must (refine wpList_append_fits_any _ rfl (.tmp 31) (.tmp 32) 206 rfl w.heap.size 3 i0 1 Tryz.underlying206 ji jz1 g (sumTo ls j) cap (ls.take j).flatten rfl HOr.out a0 ls[j].length c1 ls[j] rfl (by rw [Nat.mul_one]) HH0.out.1 HH0.out.2 Td.out Te.out ?_))
      intro w2 hown2 hgrow2
      have fN:=hid hown2
      have HB2:Hid (Below w.heap.size w w2):=⟨hgrow2.os.trans oF.out.os,hgrow2.tape.trans oF.out.tape,hgrow2.output.trans oF.out.output,cE oF.out.size hgrow2.size,λq hq=>(hgrow2.block q (bY hq oF.out.size) (by intro e;injection e with e;omega)).trans (oF.out.block q hq)⟩
      clear hown2 hgrow2
      go_wp2_with fail
      go_roundw
      case rel=>exact ⟨j+1,by omega,by go_num,by rw [HN.out],by rw [HN.out,NB.out];exact fN,HB2⟩
      case measure=>simp [intOf];omega
     ·obtain rfl:j=k:=by omega
      have NB:Hid ((ls.take j).flatten=ls.flatten):=by show _=_;rw [sD (by have:=HZ.out;omega)]
      go_wp2_with fail
      go_ret
      exact ⟨_,rfl,by rw [<- HE.out,<- NB.out];exact HOr.out,λh=>absurd h HP.out,oF.out⟩
theorem Hi.below {w w' : World} {b off:Nat} {l:List Int} (h:Hi w b off l) (g:Below w.heap.size w w'):Hi w' b off l:=
 ⟨bY h.lb g.size,λj hj=>(g.cell (p:=⟨b,_,none⟩) h.lb).trans (h.n j hj)⟩
theorem Si.below {w w' : World} {v:Value} {l:List Int} (h:Si w v l) (g:Below w.heap.size w w'):Si w' v l:=by
 rcases h with h | ⟨b,off,c,e,h⟩
 ·exact .inl h
 ·exact .inr ⟨b,off,c,e,h.below g⟩
theorem Si.PF {w:World} {v:Value} {l:List Int} (h:Si w v l):sI w v (l.map λx => .int .i64 x):=by
 rcases h with ⟨h,rfl⟩ | ⟨b,off,c,e,h⟩
 ·exact .inl ⟨h,rfl⟩
 ·refine .inr ⟨b,off,c,by rw [List.length_map];exact e,h.lb,λi hi=>?_⟩
  rw [h.n i (by simpa using hi)]
  simp
theorem Si.shape {w:World} {v:Value} {l:List Int} (h:Si w v l):∃ a c,v = .slice a l.length c:=by
 rcases h with ⟨h,rfl⟩ | ⟨b,off,c,e,h⟩
 ·exact ⟨none,0,h⟩
 ·exact ⟨_,_,e⟩
theorem tJ {w:World} {base:Nat} {v:Value} {l:List Int} (h:w.ownsRow base 3 1 v l.length (l.map λx => .int .i64 x)):Si w v l:=by
 obtain ⟨hl,h | ⟨g,cap,cur,hv,hb,hg,hn,hm,hsz,ht⟩⟩:=h
 ·refine .inl ⟨h.1,?_⟩
  have:=h.2
  exact Av this
 ·refine .inr ⟨g,0,cap,hv,?_,λj hj=>?_⟩
  ·rcases Nat.lt_or_ge g w.heap.size with x | x
   ·exact x
   ·rw [Array.getElem?_eq_none x] at hg;cases hg
  ·have:(l.map λx=>Value.int .i64 x)[j]?=some (.int .i64 l[j]):=by simp [hj]
   rw [<- ht,List.getElem?_take_of_lt (by omega)] at this
   simp [World.cell?,hg]
   simpa using this
theorem II (w:World) (arr:Array Value) (l:List Int) (h:arr.toList=l.map λx => .int .i64 x) (t:TypeId) (c:Nat):Si (w.alloc (.cells arr t)) (.slice (some ⟨w.heap.size,0,none⟩) l.length c) l:=by
 refine .inr ⟨_,_,_,rfl,by simp,λj hj=>?_⟩
 rw [oZ,Nat.zero_add,<- Array.getElem?_toList,h]
 simp [hj]
theorem AT (q c:Nat) (u v:Value) (l m:List Int) (w:World) (hq:q<w.heap.size) (c0:w.cell? ⟨q,0,none⟩=some u) (c1:w.cell? ⟨q,1,none⟩=some v) (hu:Si w u l) (hv:Si w v m) (hbig:l.length+m.length<=100000) :
  Calls Tryz.prog 259 #[.slice (some ⟨q,0,none⟩) 2 c] w λe w'=>∃ r,e = .returned r/\Si w' r (l++m)/\Below w.heap.size w w'/\∀ b off n c,r = .slice (some ⟨b,off,none⟩) n c->w.heap.size<=b:=by
 have fl:([l.map (λx=>Value.int .i64 x),m.map (λx=>Value.int .i64 x)]:List (List Value)).flatten=(l++m).map λx=>Value.int .i64 x:=by simp
 refine (AS q 0 2 c [u,v] [l.map (λx => .int .i64 x),m.map (λx => .int .i64 x)] w rfl rfl hq (λj h=>?_) (λj h=>?_) (λx hx y hy=>?_) (by rw [fl];simpa using hbig) (by decide)).mono ?_
 ·match j,h with
  | 0,_=>exact c0
  | 1,_=>exact c1
 ·match j,h with
  | 0,_=>exact hu.PF
  | 1,_=>exact hv.PF
 ·simp at hx
  rcases hx with rfl | rfl <;> (simp at hy;obtain ⟨z,_,rfl⟩:=hy;rfl)
 ·rintro e w' ⟨r,rfl,ho,hn,hb⟩
  rw [fl] at ho hn
  refine ⟨r,rfl,tJ (by simpa using ho),hb,λb off n c e=>?_⟩
  obtain ⟨_,h | ⟨g,cap,cur,hv',hb',_⟩⟩:=ho
  ·rw [h.1] at e;cases e
  ·rw [hv'] at e
   injection e with e1
   injection e1 with e1
   injection e1 with e1
   omega
theorem Di (q:Int) {w:World} {v:Value} {l:List Int} (h:Si w v l) (hbig:l.length<=90000) :
  Calls Tryz.prog 284 #[.int .i64 q,v] w λe w'=>e = .returned (.bool (fit (q::l)).2)/\Below w.heap.size w w':=by
 obtain ⟨va,vc,rfl⟩:=h.shape
 have B1:Hid (Below w.heap.size w ((w.alloc (.cells #[.int .i64 q] 3)).alloc (.cells #[.slice (some ⟨w.heap.size,0,none⟩) 1 1, .slice va l.length vc] 206))):=((Below.refl _ _).alloc (aF _) _).alloc (by simp) _
 have HC:Hid (∀ w1,w1=(w.alloc (.cells #[.int .i64 q] 3)).alloc (.cells #[.slice (some ⟨w.heap.size,0,none⟩) 1 1, .slice va l.length vc] 206)->Calls Tryz.prog 259 #[.slice (some ⟨w.heap.size+1,0,none⟩) 2 2] w1 λe w'=>∃ r,e = .returned r/\Si w' r ([q]++l)/\Below w1.heap.size w1 w'/\∀ b off n c,r = .slice (some ⟨b,off,none⟩) n c->w1.heap.size<=b):=λw1 e=>by
  subst e
  exact AT _ _ (.slice (some ⟨w.heap.size,0,none⟩) 1 1) (.slice va l.length vc) [q] l _ (by simp) (by simp) (by simp) ((II w _ [q] rfl _ 1).below ((Below.refl _ _).alloc (aF _) _)) (h.below B1.out) (by simp;omega)
 have HF:Hid (∀ w1 r,Si w1 r ([q]++l)->Calls Tryz.prog 220 #[r] w1 λe w'=>e = .returned (.tuple #[.int .i64 (fit (q::l)).1, .bool (fit (q::l)).2])/\Gr w1 w'):=λw1 r hr=>yT hr (by simp;omega)
 clear h
 generalize (fit (q::l)).1=f1 at *
 generalize (fit (q::l)).2=f2 at *
 go_enter Tryz.func284,Tryz.ntmps284
 go_wp2_with fail
 refine (HC.out _ rfl).mono ?_
 rintro e w1 ⟨r,rfl,hr,hb,_⟩
 have HR:Hid (Si w1 r ([q]++l)/\Below w.heap.size w w1):=⟨hr,B1.out.trans (hb.mono (by simp;omega))⟩
 clear hr hb HC B1
 go_wp2_with fail
 refine (HF.out w1 r HR.out.1).mono ?_
 rintro e w2 ⟨rfl,g2⟩
 have HE:Hid (Below w.heap.size w w2):=HR.out.2.trans (g2.below.mono HR.out.2.size)
 clear g2 HF
 go_wp2_with fail
 go_ret
 exact ⟨rfl,HE.out⟩
def kI (x:Sp.Bs):Bool:=x == [43]||x == [45]||x == [42]||x == [47]
def nJ (x:Sp.Bs):Bool:=x == [97,110,100]||x == [111,114]||x == [110,111,116]
theorem AU (w:Sp.Bs) (h:kI w=true):(w == [43])=true\/((w == [43])=false/\(w == [45])=true)\/((w == [43])=false/\(w == [45])=false/\(w == [42])=true)\/((w == [43])=false/\(w == [45])=false/\(w == [42])=false/\(w == [47])=true):=by
 unfold kI at h
 generalize (w == [43])=a at *
 generalize (w == [45])=b at *
 generalize (w == [42])=c at *
 generalize (w == [47])=d at *
 cases a <;> cases b <;> cases c <;> cases d <;> simp at h ⊢
theorem AV (w:Sp.Bs) (h:nJ w=true):(w == [97,110,100])=true\/((w == [97,110,100])=false/\(w == [111,114])=true)\/((w == [97,110,100])=false/\(w == [111,114])=false/\(w == [110,111,116])=true):=by
 unfold nJ at h
 generalize (w == [97,110,100])=a at *
 generalize (w == [111,114])=b at *
 generalize (w == [110,111,116])=c at *
 cases a <;> cases b <;> cases c <;> simp at h ⊢
theorem Dj (x:ByteArray) {w:World} {v:Value} {l:List Int} (h:Si w v l) (hbig:l.length<=90000) :
  Calls Tryz.prog 258 #[.string x,v] w λe w'=>e = .returned (.tuple #[.int .i64 (typeOf x.toList l).1, .bool (typeOf x.toList l).2])/\Below w.heap.size w w':=by
 obtain ⟨va,vc,rfl⟩:=h.shape
 have HA:Hid (∀ q,Calls Tryz.prog 284 #[.int .i64 q, .slice va l.length vc] w λe w'=>e = .returned (.bool (fit (q::l)).2)/\Below w.heap.size w w'):=λq=>Di q h hbig
 have HF:Hid (Calls Tryz.prog 220 #[.slice va l.length vc] w λe w'=>e = .returned (.tuple #[.int .i64 (fit l).1, .bool (fit l).2])/\Gr w w'):=yT h (by omega)
 clear h
 cases ea:kI x.toList
 ·have a1:(x.toList == [43])=false:=by simp only [kI,Bool.or_eq_false_iff] at ea;exact ea.1.1.1
  have a2:(x.toList == [45])=false:=by simp only [kI,Bool.or_eq_false_iff] at ea;exact ea.1.1.2
  have a3:(x.toList == [42])=false:=by simp only [kI,Bool.or_eq_false_iff] at ea;exact ea.1.2
  have a4:(x.toList == [47])=false:=by simp only [kI,Bool.or_eq_false_iff] at ea;exact ea.2
  clear ea
  cases el:nJ x.toList
  ·have b1:(x.toList == [97,110,100])=false:=by simp only [nJ,Bool.or_eq_false_iff] at el;exact el.1.1
   have b2:(x.toList == [111,114])=false:=by simp only [nJ,Bool.or_eq_false_iff] at el;exact el.1.2
   have b3:(x.toList == [110,111,116])=false:=by simp only [nJ,Bool.or_eq_false_iff] at el;exact el.2
   clear el
   cases ec:(x.toList == [99,111,97,108,101,115,99,101])
   ·have HV:Hid (typeOf x.toList l=(1,(fit l).2)):=by show _=_;simp only [typeOf,a1,a2,a3,a4,b1,b2,b3,ec,Bool.or_false,Bool.false_eq_true,if_false]
    generalize typeOf x.toList l=tv at *
    generalize (fit l).1=f1 at *
    generalize (fit l).2=f2 at *
    go_enter Tryz.func258,Tryz.ntmps258
    go_wp2_with fail
    refine Calls.mono HF.out ?_
    rintro e w1 ⟨rfl,g1⟩
    have HB:Hid (Below w.heap.size w w1):=g1.below
    clear g1 HF HA
    go_wp2_with fail
    go_ret2
    exact ⟨by rw [HV.out];rfl,HB.out⟩
   ·have HV:Hid (typeOf x.toList l=fit l):=by show _=_;simp only [typeOf,a1,a2,a3,a4,b1,b2,b3,ec,Bool.or_false,Bool.false_eq_true,if_false,if_true]
    generalize typeOf x.toList l=tv at *
    generalize fit l=f1 at *
    go_enter Tryz.func258,Tryz.ntmps258
    go_wp2_with fail
    refine Calls.mono HF.out ?_
    rintro e w1 ⟨rfl,g1⟩
    have HB:Hid (Below w.heap.size w w1):=g1.below
    clear g1 HF HA
    go_wp2_with fail
    go_ret2
    exact ⟨by rw [HV.out];rfl,HB.out⟩
  ·have HV:Hid (typeOf x.toList l=(1,(fit (1::l)).2)):=by
    show _=_
    have:(x.toList == [97,110,100]||x.toList == [111,114]||x.toList == [110,111,116])=true:=el
    simp only [typeOf,a1,a2,a3,a4,this,Bool.or_false,Bool.false_eq_true,if_false,if_true]
   have HA1:=HA.out 1
   have HB1:=hid HA1
   clear HA1 HA HF
   generalize typeOf x.toList l=tv at *
   generalize (fit (1::l)).2=f2 at *
   have e8:=AV _ el
   clear el
   rcases e8 with e8 | ⟨e8,e9⟩ | ⟨e8,e9,e10⟩
   all_goals go_enter Tryz.func258,Tryz.ntmps258
   all_goals go_wp2_with fail
   all_goals refine Calls.mono HB1.out ?_
   all_goals rintro e w1 ⟨rfl,g1⟩
   all_goals have HB:=hid g1
   all_goals clear g1 HB1
   all_goals go_wp2_with fail
   all_goals go_ret2
   all_goals exact ⟨by rw [HV.out];rfl,HB.out⟩
 ·have HV:Hid (typeOf x.toList l=(2,(fit (2::l)).2)):=by
   show _=_
   have:(x.toList == [43]||x.toList == [45]||x.toList == [42]||x.toList == [47])=true:=ea
   simp only [typeOf,this,if_true]
  have HA1:=HA.out 2
  have HB1:=hid HA1
  clear HA1 HA HF
  generalize typeOf x.toList l=tv at *
  generalize (fit (2::l)).2=f2 at *
  have e8:=AU _ ea
  clear ea
  rcases e8 with e8 | ⟨e8,e9⟩ | ⟨e8,e9,e10⟩ | ⟨e8,e9,e10,e11⟩
  all_goals go_enter Tryz.func258,Tryz.ntmps258
  all_goals go_wp2_with fail
  all_goals refine Calls.mono HB1.out ?_
  all_goals rintro e w1 ⟨rfl,g1⟩
  all_goals have HB:=hid g1
  all_goals clear g1 HB1
  all_goals go_wp2_with fail
  all_goals go_ret2
  all_goals exact ⟨by rw [HV.out];rfl,HB.out⟩
def Ou (k m:Nat) (w w' : World):Prop:=w.heap.size<=w'.heap.size/\∀ j,j<w.heap.size->(j<k\/m<=j)->w'.heap[j]?=w.heap[j]?
theorem Ou.low {k m:Nat} {w w' : World} (h:Ou k m w w'):Low k w w':=⟨h.1,λj hj hs=>h.2 j hs (.inl hj)⟩
theorem Ou.gr {k m:Nat} {w w' : World} (g:Gr w w'):Ou k m w w':=⟨g.size,λj hj _=>g.below.block j hj⟩
theorem Ou.below {k m:Nat} {w w' : World} (g:Below w.heap.size w w'):Ou k m w w':=⟨g.size,λj hj _=>g.block j hj⟩
theorem Ou.fc {k m cb lo hi:Nat} {w w' : World} (h:Fc cb lo hi w w') (h1:k<=lo) (h2:k<=cb) (h3:hi<=m) (h4:cb<m):Ou k m w w':=⟨h.size,λj hj _=>h.block j hj (by omega) (by omega)⟩
theorem Ou.kept {k m cb:Nat} {w w' : World} (h:Kept cb w w') (h2:k<=cb) (h4:cb<m):Ou k m w w':=⟨h.size,λj hj _=>h.block j hj (by omega)⟩
theorem Ou.trans {k m:Nat} {x y z:World} (h:Ou k m x y) (g:Ou k m y z):Ou k m x z:=⟨cE h.1 g.1,λj hj hs=>(g.2 j (bY hj h.1) hs).trans (h.2 j hj hs)⟩
structure NC (k:Nat) (w:World) (b:Nat) (lv:Sp.Lv):Prop where
 lb:b<w.heap.size
 at_:∀ i,(h:i<lv.length)->∃ tv:TV,w.cell? ⟨b,i*4,none⟩=some (.string (bz lv[i].1))/\w.cell? ⟨b,i*4+1,none⟩=some (.string tv.name)/\w.cell? ⟨b,i*4+2,none⟩=some tv.cv/\w.cell? ⟨b,i*4+3,none⟩=some tv.rv/\nZ k w lv[i].2 tv
theorem NC.same {k:Nat} {w w' : World} {b:Nat} {lv:Sp.Lv} (hk:k<=w.heap.size) (h:NC k w b lv) (g:Low k w w') (e:w'.heap[b]?=w.heap[b]?):NC k w' b lv:=by
 have hc:∀ o,w'.cell? ⟨b,o,none⟩=w.cell? ⟨b,o,none⟩:=λo=>fB (w:=w) (a:=⟨b,o,none⟩) e
 refine ⟨bY h.lb g.1,λi hi=>?_⟩
 obtain ⟨tv,h0,h1,h2,h3,h4⟩:=h.at_ i hi
 exact ⟨tv,(hc _).trans h0,(hc _).trans h1,(hc _).trans h2,(hc _).trans h3,h4.low hk g⟩
def Dk (k m:Nat) (w:World) (lv:Sp.Lv) (v:Value):Prop:=
 lv.length<=1100/\((lv = []/\v = .slice none 0 0)\/∃ b c,v = .slice (some ⟨b,0,none⟩) lv.length c/\m<=b/\NC k w b lv)
theorem Dk.ou {k m:Nat} {w w' : World} {lv:Sp.Lv} {v:Value} (hk:k<=w.heap.size) (h:Dk k m w lv v) (g:Ou k m w w'):Dk k m w' lv v:=by
 refine ⟨h.1,?_⟩
 rcases h.2 with h | ⟨b,c,e,hb,h⟩
 ·exact .inl h
 ·exact .inr ⟨b,c,e,hb,h.same hk g.low (g.2 b h.lb (.inr hb))⟩
def wN (k m:Nat) (w:World):List Sp.Lv->Value->Prop
 | [],v=>v = .pointer none
 | lv::r,v=>∃ sb sv ov,v = .pointer (some ⟨sb,0,none⟩)/\m<=sb/\sb<w.heap.size/\w.cell? ⟨sb,0,none⟩=some sv/\w.cell? ⟨sb,1,none⟩=some ov/\Dk k m w lv sv/\wN k m w r ov
theorem wN.ou {k m:Nat} {w w' : World} (hk:k<=w.heap.size) (g:Ou k m w w'):∀ {aE:List Sp.Lv} {v:Value},wN k m w aE v->wN k m w' aE v
 | [],_,h=>h
 | _::_,_,⟨sb,sv,ov,e,hb,hl,c0,c1,hs,hr⟩=>by
  have hc:∀ o,w'.cell? ⟨sb,o,none⟩=w.cell? ⟨sb,o,none⟩:=λo=>fB (w:=w) (a:=⟨sb,o,none⟩) (g.2 sb hl (.inr hb))
  exact ⟨sb,sv,ov,e,hb,bY hl g.1,(hc 0).trans c0,(hc 1).trans c1,hs.ou hk g,hr.ou hk g⟩
theorem wN.ptr {k m:Nat} {w:World} : ∀ {aE:List Sp.Lv} {v:Value},wN k m w aE v->∃ a,v = .pointer a
 | [],_,h=>⟨_,h⟩
 | _::_,_,⟨_,_,_,e,_⟩=>⟨_,e⟩
theorem Dk.sl {k m:Nat} {w:World} {lv:Sp.Lv} {v:Value} (h:Dk k m w lv v):∃ a c,v = .slice a lv.length c:=by
 rcases h.2 with ⟨rfl,e⟩ | ⟨b,c,e,_⟩
 ·exact ⟨_,_,e⟩
 ·exact ⟨_,_,e⟩
theorem IJ (x:ByteArray) (p:Nat) (cn tn:ByteArray) (ca ra:Option Addr) (cl cc rl rc:Nat) (w:World) (hp:p<w.heap.size) (hx:w.cell? ⟨p,0,none⟩=some (.string x)) :
  Calls Tryz.prog 287 #[.agg #[.string cn, .string tn, .slice ca cl cc, .slice ra rl rc], .pointer (some ⟨p,0,none⟩)] w λe w'=>e = .returned (.bool (cn.toList == x.toList))/\Gr w w':=by
 have hx1:(w.alloc (.cells #[.string cn, .string tn, .slice ca cl cc, .slice ra rl rc] 314)).cell? ⟨p,0,none⟩=some (.string x):=(((Gr.refl w).alloc _).cell (p:=⟨p,0,none⟩) hp).trans hx
 go_enter Tryz.func287,Tryz.ntmps287
 go_wp2
 go_ret
 exact ⟨rfl,(Gr.refl w).alloc _⟩
theorem ND (lv:Sp.Lv) (x:Sp.Bs) (k:Nat) (h:k<lv.length) (e:(lv[k].1 == x)=true):lv.any (λy=>y.1 == x)=true:=
 List.any_eq_true.2 ⟨lv[k],jD h,e⟩
theorem KT (lv:Sp.Lv) (x:Sp.Bs) (h:∀ j,(hj:j<lv.length)->(lv[j].1 == x)=false):lv.any (λy=>y.1 == x)=false:=by
 rw [List.any_eq_false]
 intro z hz
 obtain ⟨j,hj,rfl⟩:=List.getElem_of_mem hz
 simp only [h j hj];decide
theorem yU (k b n c p:Nat) (lv:Sp.Lv) (x:ByteArray) (w:World) (hkw:k<=w.heap.size) (hz:n=lv.length) (hbig:n<=100000) (hl:NC k w b lv) (hp:p<w.heap.size) (hx:w.cell? ⟨p,0,none⟩=some (.string x)) :
  Calls Tryz.prog 312 #[.slice (some ⟨b,0,none⟩) n c, .func (.func 287) #[] #[.pointer (some ⟨p,0,none⟩)]] w λe w'=>(∃ q:Int,e = .returned (.int .i64 q)/\decide (0<=q)=lv.any (λy=>y.1 == x.toList))/\Gr w w':=by
 have HV:=hid hl
 have HZ:=hid hz
 have HP:=hid hx
 clear hl hz hx
 go_enter Tryz.func312,Tryz.ntmps312
 go_wp2
 go_loopw [8] (λi wr=>∃ j:Nat,j<=n/\i = .int .i64 j/\Hid (Gr w wr)/\Hid (∀ q,q<j->(hq:q<lv.length)->(lv[q].1 == x.toList)=false)) (λi _=>n - (intOf i).toNat)
 case atStart=>exact ⟨0,fO _,rfl,Gr.refl _,λq hq=>absurd hq (Nat.not_lt_zero _)⟩
 case round=>
  obtain ⟨j,hj,rfl,HG,HR⟩:=hrel
  by_cases hlt:j<n
  ·have hjz:j<lv.length:=by have:=HZ.out;omega
   obtain ⟨⟨tn,ca,cl,cc,ra,rl,rc⟩,c0,c1,c2,c3,_⟩:=(HV.out.same hkw (Low.dZ HG.out) (HG.out.below.block b HV.out.lb)).at_ j hjz
   have HC:Hid (Calls Tryz.prog 287 #[.agg #[.string (bz lv[j].1), .string tn, .slice ca cl cc, .slice ra rl rc], .pointer (some ⟨p,0,none⟩)] wr λe w'=>e = .returned (.bool (lv[j].1 == x.toList))/\Gr wr w'):=by
    have h:=IJ x p (bz lv[j].1) tn ca ra cl cc rl rc wr (bY hp HG.out.size) ((HG.out.cell (p:=⟨p,0,none⟩) hp).trans HP.out)
    rw [dJ] at h
    exact h
   have HN:Hid ((lv[j].1 == x.toList)=false->∀ q,q<j+1->(hq:q<lv.length)->(lv[q].1 == x.toList)=false):=λh q hq hq'=>by
    by_cases e:q=j
    ·subst e;exact h
    ·exact HR.out q (by omega) hq'
   have HT:Hid ((lv[j].1 == x.toList)=true->lv.any (λy=>y.1 == x.toList)=true):=λh=>ND lv _ j hjz h
   generalize (lv[j].1 == x.toList)=bb at HC HN HT
   generalize bz lv[j].1=cn at c0 HC
   clear HR
   go_wp2_with fail
   refine Calls.mono HC.out ?_
   rintro e w2 ⟨rfl,g2⟩
   have uW:=hid (HG.out.trans g2)
   clear g2
   cases bb
   ·go_wp2_with fail
    go_roundw
    case rel=>exact ⟨j+1,by omega,by go_num,uW,HN.out (by trivial)⟩
    case measure=>simp [intOf];omega
   ·go_wp2_with fail
    go_ret
    exact ⟨⟨_,rfl,by rw [HT.out (by trivial)];simp⟩,uW.out⟩
  ·have HF:Hid (lv.any (λy=>y.1 == x.toList)=false):=KT lv _ λq hq=>HR.out q (by have:=HZ.out;omega) hq
   go_wp2_with fail
   go_ret
   exact ⟨⟨_,rfl,by rw [HF.out];simp⟩,HG.out⟩
theorem yV (g:Value) (w:World) :
  Calls Tryz.prog 312 #[.slice none 0 0,g] w λe w'=>e = .returned (.int .i64 (-1))/\w'=w:=by
 go_enter Tryz.func312,Tryz.ntmps312
 go_wp2
 go_loopw [8] (λi wr=>i = .int .i64 0/\wr=w) (λ_ _=>0)
 case atStart=>exact ⟨rfl,rfl⟩
 case round=>
  obtain ⟨rfl,rfl⟩:=hrel
  go_wp2_with fail
  go_ret
  exact ⟨rfl,rfl⟩
theorem Dl (k m p:Nat) (lv:Sp.Lv) (sv:Value) (x:ByteArray) (w:World) (hkw:k<=w.heap.size) (hl:Dk k m w lv sv) (hp:p<w.heap.size) (hx:w.cell? ⟨p,0,none⟩=some (.string x)) :
  Calls Tryz.prog 286 #[sv, .func (.func 287) #[] #[.pointer (some ⟨p,0,none⟩)]] w λe w'=>e = .returned (.bool (lv.any (λy=>y.1 == x.toList)))/\Gr w w':=by
 have H:Hid (Calls Tryz.prog 312 #[sv, .func (.func 287) #[] #[.pointer (some ⟨p,0,none⟩)]] w λe w'=>(∃ q:Int,e = .returned (.int .i64 q)/\decide (0<=q)=lv.any (λy=>y.1 == x.toList))/\Gr w w'):=by
  rcases hl.2 with ⟨rfl,rfl⟩ | ⟨b,c,rfl,hb,h⟩
  ·refine (yV _ w).mono ?_
   rintro e w' ⟨rfl,rfl⟩
   exact ⟨⟨-1,rfl,by simp⟩,Gr.refl _⟩
  ·exact yU k b _ c p lv x w hkw rfl (by have:=hl.1;omega) h hp hx
 obtain ⟨va,vc,rfl⟩:=hl.sl
 clear hl hx
 generalize lv.any (λy=>y.1 == x.toList)=bb at H
 go_enter Tryz.func286,Tryz.ntmps286
 go_wp2_with fail
 refine H.out.mono ?_
 rintro e w1 ⟨⟨q,rfl,hq⟩,g⟩
 have HQ:=hid hq
 clear hq
 go_wp2_with fail
 go_ret
 exact ⟨dN HQ.out,g⟩
theorem IK (k m sb:Nat) (lv:Sp.Lv) (sv:Value) (x:ByteArray) (w:World) (hkw:k<=w.heap.size) (hsb:sb<w.heap.size) (c0:w.cell? ⟨sb,0,none⟩=some sv) (hl:Dk k m w lv sv) :
  Calls Tryz.prog 261 #[.pointer (some ⟨sb,0,none⟩), .string x] w λe w'=>e = .returned (.bool (lv.any (λy=>y.1 == x.toList)))/\Gr w w':=by
 have G:Hid (Gr w (w.alloc (.cells #[.string x] 9))):=(Gr.refl w).alloc _
 have d0:=(G.out.cell (p:=⟨sb,0,none⟩) hsb).trans c0
 have H:Hid (Calls Tryz.prog 286 #[sv, .func (.func 287) #[] #[.pointer (some ⟨w.heap.size,0,none⟩)]] (w.alloc (.cells #[.string x] 9)) λe w'=>e = .returned (.bool (lv.any (λy=>y.1 == x.toList)))/\Gr (w.alloc (.cells #[.string x] 9)) w'):=
  Dl k m w.heap.size lv sv x _ (cE hkw G.out.size) (hl.ou hkw (Ou.gr G.out)) (by simp) (by simp)
 obtain ⟨va,vc,rfl⟩:=hl.sl
 clear hl c0
 go_enter Tryz.func261,Tryz.ntmps261
 go_wp2_with fail
 refine H.out.mono ?_
 rintro e w1 ⟨rfl,g⟩
 go_wp2_with fail
 go_ret
 exact ⟨rfl,G.out.trans g⟩
theorem Dm (k m:Nat) (t:Sp.Tb) (tv:TV) (w:World) (hkw:k<=w.heap.size) (hm:m<=w.heap.size) (ht:nZ k w t tv) :
  Calls Tryz.prog 139 #[sE tv] w λe w'=>∃ v,e = .returned v/\wN k m w' [[(t.name,t)]] v/\Gr w w':=by
 have HN:Hid (tv.name=bz t.name):=ht.name
 obtain ⟨tn,ca,cl,cc,ra,rl,rc⟩:=tv
 go_enter Tryz.func139,Tryz.ntmps139
 go_wp2_with fail
 go_ret
 have G:Gr w (((w.alloc (.cells #[.string tn, .slice ca cl cc, .slice ra rl rc] 187)).alloc (.cells #[.string tn, .string tn, .slice ca cl cc, .slice ra rl rc] 314)).alloc (.cells #[.slice (some ⟨w.heap.size+1,0,none⟩) 1 1, .pointer none] 317)):=(((Gr.refl w).alloc _).alloc _).alloc _
 have hn:tn=bz t.name:=HN.out
 refine ⟨_,rfl,⟨w.heap.size+1+1, .slice (some ⟨w.heap.size+1,0,none⟩) 1 1, .pointer none,rfl,by omega,by simp,by go_simp,by go_simp,⟨by simp, .inr ⟨w.heap.size+1,1,rfl,by omega,⟨by simp,λi hi=>?_⟩⟩⟩,rfl⟩,G⟩
 obtain rfl:i=0:=by simpa using hi
 exact ⟨⟨tn,ca,cl,cc,ra,rl,rc⟩,by rw [hn];go_simp,by go_simp,by go_simp,by go_simp,ht.low hkw (Low.dZ G)⟩
end Go.Proofs.YtgnncnhkgmhngaaGreatDoor
