import Derived.Test.YtgnncnhkgmhngaaGreatDoorJ40
set_option maxHeartbeats 4000000
set_option maxRecDepth 100000
namespace Go.Proofs.YtgnncnhkgmhngaaGreatDoor
open Sp
open Tryz
open Go.RowKit Go.Sort
theorem kJ:(prog.info? 41).map (λi=>(i.zero,i.size,i.bytes))=some (some (.slice none 0 0),1,24):=by kernel_rfl
theorem II (n:Nat) (h0:0<n) (hn:n<=100000) (w:World) :
  Calls prog 230 #[.slice none 0 0, .int .i64 (n:Nat)] w λe w'=>∃ g cap,e = .returned (.slice (some ⟨g,0,none⟩) 0 cap)/\w'.ownsRow w.heap.size 41 1 (.slice (some ⟨g,0,none⟩) 0 cap) 0 []/\n<=cap/\Below w.heap.size w w':=by
 obtain ⟨i0,ji,fU,jz1,fV⟩:=info_parts kJ
 have hb8:t41.bytes=24:=rfl
 have hns:Builtin.nextslicecap n 0=n:=by unfold Builtin.nextslicecap;rw [if_pos (by omega)]
 have hn0:n≠0:=by omega
 have hm:(n:Int)<=9223372036854775807:=by omega
 go_enter func230,ntmps230
 go_wp2_with fail
 go_ret
 have hge:=grownCap_ge w n 0 41
 have hle:=grownCap_le_maxLen w n 0 41 (by unfold maxLen;omega)
 refine ⟨w.heap.size,grownCap w n 0 41,rfl,⟨rfl, .inr ⟨w.heap.size,_,_,rfl,aF _,heap_alloc_new w _,eX _,hle,?_,rfl⟩⟩,hge,below_drewN ((Below.refl _ _).alloc (aF _) _) 1⟩
 simp only [Array.size_append,size_zeroCells]
 show n*1+(grownCap w n 0 41 - n)*1=grownCap w n 0 41*1
 omega
theorem E6 (w:World) :
  Calls prog 230 #[.slice none 0 0, .int .i64 0] w λe w'=>e = .returned (.slice none 0 0)/\w'=w:=by
 go_enter func230,ntmps230
 go_wp2_with fail
 go_ret
 exact ⟨rfl,rfl⟩
theorem CT (b off n c:Nat) (vs:List Value) (ls:List (List Value)) (w:World) (hz:n=vs.length) (hz2:ls.length=vs.length) (hb:b<w.heap.size) (hc:∀ j,(h:j<vs.length)->w.cell? ⟨b,off+j,none⟩=some vs[j])
  (hs:∀ j,(h:j<vs.length)->zQ w vs[j] (ls[j]?.getD [])) (h1:∀ l∈ls,∀ u∈l,u.oneCell'=true) (hbig:ls.flatten.length<=100000) (hn:n<=1000) :
  Calls prog 190 #[.slice (some ⟨b,off,none⟩) n c] w λe w'=>∃ v,e = .returned v/\w'.ownsRow w.heap.size 41 1 v ls.flatten.length ls.flatten/\(ls.flatten = []->v = .slice none 0 0)/\Below w.heap.size w w':=by
 obtain ⟨i0,ji,fU,jz1,fV⟩:=info_parts kJ
 have HZ:Hid (n=vs.length/\ls.length=vs.length):=⟨hz,hz2⟩
 have HC:=hid hc
 have HS:=hid hs
 have H1:=hid h1
 clear hz hz2 hc hs h1
 have HT:Hid (sumTo ls ls.length=ls.flatten.length):=rG ls
 go_enter func190,ntmps190
 go_wp2_with fail
 go_loopw [3,11] (λsz i wr=>∃ k:Nat,k<=n/\i = .int .i64 k/\sz = .int .i64 (sumTo ls k:Nat)/\w=wr) (λ_ i _=>n - (intOf i).toNat)
 case atStart=>exact ⟨0,eX _,rfl,by rw [eI];rfl,rfl⟩
 case round=>
  obtain ⟨k,hk,rfl,rfl,rfl⟩:=hrel
  by_cases hlt:k<n
  ·have hkz:k<vs.length:=by have:=HZ.out.1;omega
   have hkl:k<ls.length:=by have:=HZ.out;omega
   have c0:=HC.out k hkz
   obtain ⟨a0,c1,e0⟩:∃ a0 c1,vs[k] = .slice a0 ls[k].length c1:=by
    have:=HS.out k hkz
    rw [tC hkl,Option.getD_some] at this
    rcases this with ⟨e,e'⟩ | ⟨blk,o,c',e,_⟩
    ·exact ⟨none,0,by rw [e,e'];rfl⟩
    ·exact ⟨_,_,e⟩
   rw [e0] at c0
   have HN:Hid (sumTo ls (k+1)=sumTo ls k+ls[k].length):=fE ls k hkl
   have hle:sumTo ls k+ls[k].length<=100000:=by have:=sumTo_le ls (k+1);have:=HN.out;omega
   clear e0
   generalize ls[k].length=m at *
   generalize sumTo ls k=s0 at *
   go_wp2_with fail
   go_roundw
   case rel=>exact ⟨k+1,by omega,by go_num,by rw [HN.out];go_num,(by first | rfl | trivial)⟩
   case measure=>simp [intOf];omega
  ·obtain rfl:k=n:=by omega
   have HE:Hid (sumTo ls k=ls.flatten.length):=by show _=_;rw [<- HT.out];congr 1;have:=HZ.out;omega
   have hsl:=sumTo_le ls k
   by_cases ht:sumTo ls k=0
   ·rw [ht]
    have HQ:Hid (ls.flatten.length=0):=by show _=_;rw [<- HE.out];exact ht
    clear ht
    go_wp2_with fail
    refine (E6 w).mono ?_
    rintro e w1 ⟨rfl,ew⟩
    subst w1
    go_wp2_with fail
    go_loopw [6,27] (λv i wr=>∃ j:Nat,j<=k/\i = .int .i64 j/\v = .slice none 0 0/\w=wr) (λ_ i _=>k - (intOf i).toNat)
    case atStart=>exact ⟨0,eX _,rfl,rfl,rfl⟩
    case round=>
     obtain ⟨j,hj,rfl,rfl,rfl⟩:=hrel
     by_cases hlt:j<k
     ·have hkz:j<vs.length:=by have:=HZ.out.1;omega
      have hkl:j<ls.length:=by have:=HZ.out;omega
      have c0:=HC.out j hkz
      have hm0:ls[j].length=0:=by have:=fE ls j hkl;have:=sumTo_le ls (j+1);have:=HQ.out;omega
      obtain ⟨a0,c1,e0⟩:∃ a0 c1,vs[j] = .slice a0 0 c1:=by
       have:=HS.out j hkz
       rw [tC hkl,Option.getD_some] at this
       rcases this with ⟨e,e'⟩ | ⟨blk,o,c',e,_⟩
       ·exact ⟨none,0,e⟩
       ·exact ⟨_,_,by rw [e,hm0]⟩
      rw [e0] at c0
      clear e0 hm0
      cases a0 with
      | none=>
       go_wp2_with fail
       go_roundw
       case rel=>exact ⟨j+1,by omega,by go_num,(by first | rfl | trivial),(by first | rfl | trivial)⟩
       case measure=>simp [intOf];omega
      | some a0=>
       go_wp2_with fail
       go_roundw
       case rel=>exact ⟨j+1,by omega,by go_num,(by first | rfl | trivial),(by first | rfl | trivial)⟩
       case measure=>simp [intOf];omega
     ·go_wp2_with fail
      go_ret
      have hq:ls.flatten = []:=zE HQ.out
      exact ⟨_,rfl,by rw [hq];exact ⟨rfl, .inl ⟨rfl,rfl⟩⟩,λ_=>rfl,Below.refl _ _⟩
   ·have hle:sumTo ls k<=100000:=by omega
    have HP:Hid (ls.flatten ≠ []):=λh=>ht (by rw [HE.out,h];rfl)
    have HG:Hid (∀ w1,Calls prog 230 #[.slice none 0 0, .int .i64 (sumTo ls k:Nat)] w1 λe w'=>∃ g cap,e = .returned (.slice (some ⟨g,0,none⟩) 0 cap)/\w'.ownsRow w1.heap.size 41 1 (.slice (some ⟨g,0,none⟩) 0 cap) 0 []/\sumTo ls k<=cap/\Below w1.heap.size w1 w'):=λw1=>II _ (by omega) hle w1
    go_wp2_with fail
    refine (HG.out w).mono ?_
    rintro e w1 ⟨g,cap,rfl,hown,hcap,hb1⟩
    have HO:=hid hown
    have HB:=hid hb1
    have hgw:=(gI hown).1
    clear hown hb1 HG
    go_wp2_with fail
    go_loopw [6,27] (λv i wr=>∃ j:Nat,j<=k/\i = .int .i64 j/\v = .slice (some ⟨g,0,none⟩) (sumTo ls j) cap/\Hid (wr.ownsRow w.heap.size 41 1 (.slice (some ⟨g,0,none⟩) (sumTo ls j) cap) (sumTo ls j) (ls.take j).flatten)/\Hid (Below w.heap.size w wr)) (λ_ i _=>k - (intOf i).toNat)
    case atStart=>exact ⟨0,eX _,rfl,by rw [eI],by rw [eI];exact HO,HB⟩
    case round=>
     obtain ⟨j,hj,rfl,rfl,HOr,mR⟩:=hrel
     by_cases hlt:j<k
     ·have hkz:j<vs.length:=by have:=HZ.out.1;omega
      have hkl:j<ls.length:=by have:=HZ.out;omega
      have c0:=(mR.out.cell (p:=⟨b,off+j,none⟩) hb).trans (HC.out j hkz)
      obtain ⟨a0,c1,e0,hnone,hcells⟩:∃ a0 c1,vs[j] = .slice a0 ls[j].length c1/\(a0=none->ls[j].length=0/\c1=0)/\∀ ad,a0=some ad->∀ i u,ls[j][i]?=some u->wr.cell? (ad.add i)=some u:=by
       have:=(HS.out j hkz).below mR.out
       rw [tC hkl,Option.getD_some] at this
       rcases this with ⟨e,e'⟩ | ⟨blk,o,c',e,hb',hc'⟩
       ·exact ⟨none,0,by rw [e,e'];rfl,λ_=>⟨by rw [e'];rfl,rfl⟩,λad h=>by cases h⟩
       ·refine ⟨_,_,e,λh=>(by cases h),λad h i u hu=>?_⟩
        injection h with h
        subst h
        rw [Addr.add_lit]
        obtain ⟨hi,rfl⟩:=List.getElem?_eq_some_iff.1 hu
        exact hc' i hi
      rw [e0] at c0
      have HH0:Hid ((a0=none->ls[j].length=0/\c1=0)/\∀ ad,a0=some ad->∀ i u,ls[j][i]?=some u->wr.cell? (ad.add i)=some u):=⟨hnone,hcells⟩
      have HN:Hid (sumTo ls (j+1)=sumTo ls j+ls[j].length):=fE ls j hkl
      have Ps:Hid ((ls.take (j+1)).flatten=(ls.take j).flatten++ls[j]):=xW ls j hkl
      have U7:Hid (∀ u∈ls[j],u.oneCell'=true):=H1.out _ (hU hkl)
      have Pt:Hid (sumTo ls j+ls[j].length<=cap):=by
       have h1:=sumTo_le ls (j+1)
       have h2:=HN.out
       have h3:=HE.out
       show _<=_
       omega
      clear e0 hnone hcells
      go_wp2_with (at_builtin;go_must (refine wpList_append_fits_any _ rfl (.tmp 31) (.tmp 32) 32 rfl w.heap.size 41 i0 1 underlying32 ji jz1 g (sumTo ls j) cap (ls.take j).flatten rfl HOr.out a0 ls[j].length c1 ls[j] rfl (by rw [Nat.mul_one]) HH0.out.1 HH0.out.2 U7.out Pt.out ?_))
      intro w2 hown2 hgrow2
      have fW:=hid hown2
      have HB2:Hid (Below w.heap.size w w2):=⟨hgrow2.os.trans mR.out.os,hgrow2.tape.trans mR.out.tape,hgrow2.output.trans mR.out.output,cF mR.out.size hgrow2.size,λq hq=>(hgrow2.block q (b6 hq mR.out.size) (by intro e;injection e with e;omega)).trans (mR.out.block q hq)⟩
      clear hown2 hgrow2
      go_wp2_with fail
      go_roundw
      case rel=>exact ⟨j+1,by omega,by go_num,by rw [HN.out],by rw [HN.out,Ps.out];exact fW,HB2⟩
      case measure=>simp [intOf];omega
     ·obtain rfl:j=k:=by omega
      have Ps:Hid ((ls.take j).flatten=ls.flatten):=by show _=_;rw [tD (by have:=HZ.out;omega)]
      go_wp2_with fail
      go_ret
      exact ⟨_,rfl,by rw [<- HE.out,<- Ps.out];exact HOr.out,λh=>absurd h HP.out,mR.out⟩
theorem E7 (w:World):Calls prog 305 #[.int .u64 0] w λe w'=>e = .returned (.int .i64 0)/\w'=w:=by
 go_enter func305,ntmps305
 go_wp2_with fail
 go_ret
 exact ⟨by kernel_rfl,rfl⟩
theorem AH (w:World):Calls prog 275 #[.int .u64 0] w λe w'=>e = .returned (.int .i64 0)/\w'=w:=by
 go_enter func275,ntmps275
 go_wp2_with fail
 refine (E7 w).mono ?_
 rintro e w1 ⟨rfl,rfl⟩
 go_wp2_with fail
 go_ret
 exact ⟨rfl,rfl⟩
theorem Nx (cv:Value) (w:World):Calls prog 296 #[.slice none 0 0, .int .i64 0, .int .i64 0,cv] w λe w'=>e = .returned (.tuple #[])/\w'=w:=by
 go_enter func296,ntmps296
 go_wp2_with fail
 go_loopw [8] (λi wr=>i = .int .i64 1/\wr=w) (λ_ _=>0)
 case atStart=>exact ⟨rfl,rfl⟩
 case round=>
  obtain ⟨rfl,rfl⟩:=hrel
  go_wp2_with fail
  go_end0
  exact ⟨rfl,rfl⟩
theorem Ny (cv:Value) (w:World):Calls prog 274 #[.slice none 0 0, .int .i64 0, .int .i64 0, .int .i64 0,cv] w λe w'=>e = .returned (.tuple #[])/\w'=w:=by
 go_enter func274,ntmps274
 go_wp2_with fail
 go_loopw [1,2] (λa b wr=>a = .int .i64 0/\b = .int .i64 0/\wr=w) (λ_ _ _=>0)
 case atStart=>exact ⟨rfl,rfl,rfl⟩
 case round=>
  obtain ⟨rfl,rfl,rfl⟩:=hrel
  go_wp2_with fail
  refine (Nx cv _).mono ?_
  rintro e w1 ⟨rfl,rfl⟩
  go_wp2_with fail
  refine cV (results_none rfl _ _ _) rfl ?_
  exact ⟨rfl,rfl⟩
theorem Lh (w:World):Calls prog 238 #[.slice none 0 0, .func (.func 239) #[] #[]] w λe w'=>e = .returned (.tuple #[])/\Gr w w':=by
 go_enter func238,ntmps238
 go_wp2_with fail
 refine (AH _).mono ?_
 rintro e1 w1 ⟨rfl,rfl⟩
 go_wp2_with fail
 refine (Ny _ _).mono ?_
 rintro e1 w2 ⟨rfl,rfl⟩
 go_wp2_with fail
 go_end0
 exact ⟨rfl,Gr.refl _⟩
theorem yU {P:Program} {f:FuncId} {args:Array Value} {w:World} {R:Value->World->Prop} (h:Calls P f args w λe w'=>∃ v,e = .returned v/\R v w'/\RowKit.Below w.heap.size w w'):Calls P f args w λe w'=>∃ v,e = .returned v/\R v w'/\Gr w w':=
 (Dr.nE h (λ_ hx=>by obtain ⟨v,e,_⟩:=hx;cases e)).mono λ_ _ hx=>by obtain ⟨⟨v,e,r,b⟩,d⟩:=hx;exact ⟨v,e,r,Gr.of b d⟩
def Al {α β:Type} (R:α->β->Prop):List α->List β->Prop
 | [], []=>True
 | a::l,b::m=>R a b/\Al R l m
 | _,_=>False
theorem Al.len {α β:Type} {R:α->β->Prop} : ∀ {l:List α} {m:List β},Al R l m->l.length=m.length
 | [], [],_=>rfl
 | _::_,_::_,h=>by simp [h.2.len]
 | [],_::_,h=>h.elim
 | _::_, [],h=>h.elim
theorem Al.app {α β:Type} {R:α->β->Prop} : ∀ {l:List α} {m:List β} {l' : List α} {m' : List β},Al R l m->Al R l' m'->Al R (l++l') (m++m')
 | [], [],_,_,_,h=>h
 | _::_,_::_,_,_,h,h'=>⟨h.1,h.2.app h'⟩
 | [],_::_,_,_,h,_=>h.elim
 | _::_, [],_,_,h,_=>h.elim
theorem Al.get {α β:Type} {R:α->β->Prop} : ∀ {l:List α} {m:List β},Al R l m->∀ i,(h:i<l.length)->(h' : i<m.length)->R l[i] m[i]
 | [], [],_,i,h,_=>by simp at h
 | _::_,_::_,h,0,_,_=>h.1
 | _::_,_::_,h,i+1,h1,h2=>h.2.get i (by simpa using h1) (by simpa using h2)
 | [],_::_,h,_,_,_=>h.elim
 | _::_, [],h,_,_,_=>h.elim
theorem Al.of {α β:Type} {R:α->β->Prop} : ∀ {l:List α} {m:List β},l.length=m.length->(∀ i,(h:i<l.length)->(h' : i<m.length)->R l[i] m[i])->Al R l m
 | [], [],_,_=>trivial
 | a::l,b::m,h,hr=>⟨hr 0 (by simp) (by simp),Al.of (by simpa using h) λi h1 h2=>hr (i+1) (by simpa using h1) (by simpa using h2)⟩
 | [],_::_,h,_=>by simp at h
 | _::_, [],h,_=>by simp at h
theorem Al.mono {α β:Type} {R R' : α->β->Prop} (hR:∀ a b,R a b->R' a b):∀ {l:List α} {m:List β},Al R l m->Al R' l m
 | [], [],_=>trivial
 | _::_,_::_,h=>⟨hR _ _ h.1,h.2.mono hR⟩
 | [],_::_,h=>h.elim
 | _::_, [],h=>h.elim
theorem Al.flat {α β:Type} {R:α->β->Prop} : ∀ {l:List (List α)} {m:List (List β)},Al (Al R) l m->Al R l.flatten m.flatten
 | [], [],_=>trivial
 | _::_,_::_,h=>by rw [List.flatten_cons,List.flatten_cons];exact h.1.app h.2.flat
 | [],_::_,h=>h.elim
 | _::_, [],h=>h.elim
theorem Al.E8 {α β:Type} {R:α->β->Prop} {l:List α} {m:List β} (h:Al R l m) {a:α} (ha:a∈l):∃ b∈m,R a b:=by
 obtain ⟨i,hi,rfl⟩:=List.mem_iff_getElem.1 ha
 have hl:=h.len
 exact ⟨m[i],hU (by omega),h.get i hi (by omega)⟩
def iV (C:Nat->Prop) (w:World) (v:Value) (vs:List Sv.Val):Prop:=(v = .slice none 0 0/\vs = [])\/∃ b off c,v = .slice (some ⟨b,off,none⟩) vs.length c/\C b/\Hv w b off vs
theorem iV.bel {C:Nat->Prop} {w w' : World} {v:Value} {r:List Sv.Val} (h:iV C w v r) (g:RowKit.Below w.heap.size w w'):iV C w' v r:=by
 rcases h with h | ⟨b,o,c,e,hb,hv⟩
 ·exact .inl h
 ·exact .inr ⟨b,o,c,e,hb,hv.below g g.size hv.lb⟩
theorem iV.to {C D:Nat->Prop} {w:World} {v:Value} {r:List Sv.Val} (h:iV C w v r) (hd:∀ b,C b->b<w.heap.size->D b):iV D w v r:=by
 rcases h with h | ⟨b,o,c,e,hb,hv⟩
 ·exact .inl h
 ·exact .inr ⟨b,o,c,e,hd b hb hv.lb,hv⟩
theorem iV.rw {C:Nat->Prop} {w:World} {v:Value} {r:List Sv.Val} (h:iV C w v r):Rw w.heap.size w v r:=h.to λ_ _ hb=>hb
theorem iV.one {C:Nat->Prop} {w:World} {v:Value} {r:List Sv.Val} (h:iV C w v r):v.oneCell'=true:=by
 rcases h with ⟨e,_⟩ | ⟨b,o,c,e,_⟩ <;> rw [e] <;> rfl
def xB (C:Nat->Prop) (w:World) (v:Value) (rows:List (List Sv.Val)):Prop:=∃ xs,zQ w v xs/\Al (iV C w) xs rows
theorem xB.bel {C:Nat->Prop} {w w' : World} {v:Value} {rows:List (List Sv.Val)} (h:xB C w v rows) (g:RowKit.Below w.heap.size w w'):xB C w' v rows:=by
 obtain ⟨xs,h1,h2⟩:=h
 exact ⟨xs,h1.below g,h2.mono λa b hr=>hr.bel g⟩
theorem xB.nil (C:Nat->Prop) (w:World):xB C w (.slice none 0 0) []:=⟨[], .inl ⟨rfl,rfl⟩,trivial⟩
theorem xB.to {C D:Nat->Prop} {w:World} {v:Value} {rows:List (List Sv.Val)} (h:xB C w v rows) (hd:∀ b,C b->b<w.heap.size->D b):xB D w v rows:=by
 obtain ⟨xs,h1,h2⟩:=h
 exact ⟨xs,h1,h2.mono λa b hr=>hr.to hd⟩
def oE (base k:Nat) (w:World) (v:Value) (rows:List (List Sv.Val)):Prop:=
 (rows = []/\v = .slice none 0 0)\/∃ blk c,v = .slice (some ⟨blk,0,none⟩) rows.length (rows.length+c)/\base<=blk/\blk<w.heap.size/\RL blk 0 k w rows
theorem oE.lrs {base k:Nat} {w:World} {v:Value} {rows:List (List Sv.Val)} (h:oE base k w v rows):xB (λ_=>True) w v rows:=by
 rcases h with ⟨rfl,rfl⟩ | ⟨blk,c,rfl,h1,h2,h3⟩
 ·exact xB.nil _ w
 ·refine ⟨List.ofFn (n:=rows.length) λj=>Classical.choose (h3 j.1 j.2), .inr ⟨blk,0,_,by simp;rfl,h2,λi hi=>?_⟩,Al.of (by simp) λi h4 h5=>?_⟩
  ·simp only [List.getElem_ofFn]
   exact (Classical.choose_spec (h3 i (by simpa using hi))).1
  ·simp only [List.getElem_ofFn]
   exact (Classical.choose_spec (h3 i h5)).2.2.1.rw.elim .inl λ⟨b,o,c,e,_,hv⟩ => .inr ⟨b,o,c,e,trivial,hv⟩
theorem xB.tkn {C:Nat->Prop} {w:World} {v:Value} {rows:List (List Sv.Val)} (h:xB C w v rows):CJ w rows v:=by
 obtain ⟨xs,h1,h2⟩:=h
 have hl:=h2.len
 rcases h1 with ⟨rfl,rfl⟩ | ⟨blk,o,c,rfl,hb,hc⟩
 ·refine ⟨none,0,by rw [<- hl];rfl,λhne=>absurd (zE (by rw [<- hl];rfl)) hne⟩
 ·exact ⟨_,c,by rw [hl],λ_=>⟨blk,o,rfl,hb,λi hi=>⟨xs[i]'(by omega),hc i (by omega),(h2.get i (by omega) hi).rw⟩⟩⟩
theorem jL {β:Type} (P:Nat->β->Prop):∀ n,(∀ i,i<n->∃ b,P i b)->∃ l:List β,l.length=n/\∀ i,(h:i<l.length)->P i l[i]
 | 0,_=>⟨[],rfl,λi h=>by simp at h⟩
 | n+1,h=>by
  obtain ⟨l,h1,h2⟩:=jL P n λi hi=>h i (by omega)
  obtain ⟨b,hb⟩:=h n (by omega)
  refine ⟨l ++ [b],by simp [h1],λi hi=>?_⟩
  by_cases e:i<l.length
  ·rw [List.getElem_append_left e];exact h2 i e
  ·have:i=l.length:=by simp at hi;omega
   subst this
   rw [List.getElem_append_right (aF _)]
   simp only [Nat.sub_self,List.getElem_cons_zero]
   rw [h1];exact hb
theorem sO {C:Nat->Prop} {b off n c:Nat} {vs:List Value} {qS:List (List (List Sv.Val))} {w:World} (hz:n=vs.length) (hz2:qS.length=vs.length) (hb:b<w.heap.size) (hc:∀ j,(h:j<vs.length)->w.cell? ⟨b,off+j,none⟩=some vs[j])
  (hs:∀ j,(h:j<vs.length)->xB C w vs[j] (qS[j]'(by omega))) (hbig:qS.flatten.length<=100000) (hn:n<=1000) :
  Calls prog 190 #[.slice (some ⟨b,off,none⟩) n c] w λe w'=>∃ v,e = .returned v/\(∃ xs,w'.ownsRow w.heap.size 41 1 v xs.length xs/\(xs = []->v = .slice none 0 0)/\Al (iV C w') xs qS.flatten)/\RowKit.Below w.heap.size w w':=by
 obtain ⟨ls,hl1,hl2⟩:=jL (λj (xs:List Value)=>∃ h:j<vs.length,zQ w vs[j] xs/\Al (iV C w) xs (qS[j]'(by omega))) vs.length (λj hj=>by obtain ⟨xs,h1,h2⟩:=hs j hj;exact ⟨xs,hj,h1,h2⟩)
 have hal:Al (Al (iV C w)) ls qS:=Al.of (by omega) λi h1 h2=>by obtain ⟨_,_,h⟩:=hl2 i h1;exact h
 have hfl:=hal.flat
 have hlen:=hfl.len
 refine (CT b off n c vs ls w hz hl1 hb hc (λj hj=>?_) (λl hl u hu=>?_) (by omega) hn).mono ?_
 ·rw [tC (by omega),Option.getD_some]
  exact (hl2 j (by omega)).2.1
 ·have:u∈ls.flatten:=List.mem_flatten.2 ⟨l,hl,hu⟩
  obtain ⟨r,_,hr⟩:=hfl.E8 this
  exact hr.one
 ·rintro e w' ⟨v,rfl,o,hnil,hbel⟩
  exact ⟨v,rfl,⟨ls.flatten,o,hnil,hfl.mono λa b hr=>hr.bel hbel⟩,hbel⟩
theorem RL.owned {base k:Nat} {w:World} {v:Value} {xs:List Value} {rows:List (List Sv.Val)} (o:w.ownsRow base 41 1 v xs.length xs) (hne:xs ≠ []) (ha:Al (iV (·<base) w) xs rows) (hk:∀ r∈rows,r.length=k):∃ blk c,v = .slice (some ⟨blk,0,none⟩) xs.length c/\base<=blk/\blk<w.heap.size/\RL blk 0 k w rows:=by
 have hb:=aB o
 have ho:=o
 obtain ⟨hl,h | ⟨g,cap,cur,hv,h0,hc,r1,r2,r3,r4⟩⟩:=o
 ·exact absurd (zE h.2) hne
 ·subst hv
  have hg:=(hb g rfl).2
  have hln:=ha.len
  refine ⟨g,cap,rfl,h0,hg,λj hj=>?_⟩
  have Yf:j<xs.length:=by omega
  have hcell:w.cell? ⟨g,0+j,none⟩=some xs[j]:=by rw [Nat.zero_add];exact cH ho j xs[j] (tC Yf)
  refine ⟨xs[j],hcell,by simp [World.frozen?,hc],?_,hk _ (hU hj)⟩
  rcases ha.get j Yf hj with h | ⟨b,o,c,e,hb',hv⟩
  ·exact .inl h
  ·exact .inr ⟨b,o,c,e,by omega,hv⟩
theorem E9 {C:Nat->Prop} {b off n c k:Nat} {vs:List Value} {qS:List (List (List Sv.Val))} {w:World} (hz:n=vs.length) (hz2:qS.length=vs.length) (hb:b<w.heap.size) (hc:∀ j,(h:j<vs.length)->w.cell? ⟨b,off+j,none⟩=some vs[j])
  (hs:∀ j,(h:j<vs.length)->xB C w vs[j] (qS[j]'(by omega))) (hbig:qS.flatten.length<=100000) (hn:n<=1000) (hk:k<=100000) (hw:∀ r∈qS.flatten,r.length=k) :
  Calls prog 198 #[.slice (some ⟨b,off,none⟩) n c] w λe w'=>∃ v,e = .returned v/\oE w.heap.size k w' v (cK qS.flatten)/\Gr w w':=by
 apply yU
 have HC:=hid (sO (C:=(·<w.heap.size)) (c:=c) hz hz2 hb hc (λj h=>(hs j h).to λ_ _ hb=>hb) hbig hn)
 clear hz hz2 hb hc hs hn
 generalize qS.flatten=rows at *
 have HW:=hid hw
 clear hw
 go_enter func198,ntmps198
 go_wp2_with fail
 refine HC.out.mono ?_
 rintro e w1 ⟨v,rfl,⟨xs,o,hnil,ha⟩,hbel⟩
 clear HC
 have hln:=ha.len
 by_cases hx:xs = []
 ·obtain rfl:=hnil hx
  have HR:Hid (rows = []):=zE (by rw [<- hln,hx];rfl)
  clear o hnil ha hln hx
  have HB:=hid hbel
  clear hbel
  go_wp2_with fail
  refine (Lh w1).mono ?_
  rintro e w2 ⟨rfl,g2⟩
  have HB2:=hid (HB.out.trans (g2.below.mono HB.out.size))
  clear g2
  go_wp2_with fail
  go_ret
  exact ⟨_,rfl, .inl ⟨by rw [HR.out];simp [cK],rfl⟩,HB2.out⟩
 ·obtain ⟨blk,cc,rfl,h1,h2,hRL⟩:=RL.owned o hx ha HW.out
  have hpos:0<xs.length:=List.length_pos_iff.2 hx
  have hcc:xs.length<=cc:=by
   obtain ⟨_,h | ⟨_,_,_,e,_,_,r,_⟩⟩:=o
   ·cases h.1
   ·injection e with _ _ e;omega
  have HS:=hid (K3 blk 0 xs.length cc k w1 rows hk hln hpos (by omega) h2 hRL)
  have HL:=hid hln
  have HB:=hid hbel
  clear o hnil ha hRL hbel hx hln
  go_wp2_with fail
  refine HS.out.mono ?_
  rintro e w2 ⟨rfl,kp,rl⟩
  have HB2:Hid (RowKit.Below w.heap.size w w2):=⟨kp.os.trans HB.out.os,kp.tape.trans HB.out.tape,kp.output.trans HB.out.output,cF HB.out.size kp.size,λq hq=>(kp.block q (b6 hq HB.out.size) (by omega)).trans (HB.out.block q hq)⟩
  have HR:=hid rl
  have hz:=kp.size
  clear kp rl
  go_wp2_with fail
  go_ret
  refine ⟨_,rfl, .inr ⟨blk,cc - xs.length,by rw [(eL rows).length_eq,<- HL.out,Nat.add_sub_cancel' hcc];rfl,h1,by omega,HR.out⟩,HB2.out⟩
theorem Lj:(prog.info? 32).map (λi=>(i.zero,i.size,i.bytes))=some (some (.slice none 0 0),1,24):=by kernel_rfl
theorem yV {k:Nat} {w:World} {T:List Sp.Tb} {v:Value} (h:sD k w T v) (x:Sp.Bs) :
  (aG x T=none/\∀ w1,Low k w w1->Calls prog 146 #[v, .string (bz x)] w1 λe w'=>e = .returned (.tuple #[oW noT, .bool false])/\Gr w1 w')\/
  ∃ t tv,aG x T=some t/\lW k w t tv/\∀ w1,Low k w w1->Calls prog 146 #[v, .string (bz x)] w1 λe w'=>e = .returned (.tuple #[oW tv, .bool true])/\Gr w1 w':=by
 rcases h.2.2 with ⟨rfl,rfl⟩ | ⟨b,off,c,V,rfl,h2,h3,h4⟩
 ·exact .inl ⟨rfl,λw1 _=>BA _ w1⟩
 ·have F:=λw1 (g:Low k w w1)=>uB b off T.length c V (bz x) w1 h4.len.symm (by have:=h.1;omega) (h3.low g h2)
  rw [cY] at F
  rcases h4.find x with ⟨e1,e2⟩ | ⟨t,tv,e1,e2,e3⟩
  ·rw [e2] at F;exact .inl ⟨e1,F⟩
  ·rw [e2] at F;exact .inr ⟨t,tv,e1,e3,F⟩
theorem Low.Ll {k:Nat} {w w' : World} (h:RowKit.Below w.heap.size w w'):Low k w w':=⟨h.size,λj _ hs=>h.block j hs⟩
theorem Al.snoc {α β:Type} {R:α->β->Prop} {l:List α} {m:List β} {a:α} {b:β} (h:Al R l m) (hr:R a b):Al R (l ++ [a]) (m ++ [b]):=h.app ⟨hr,trivial⟩
theorem oF (a:Option Addr) (n c:Nat):∀ u∈([.slice a n c]:List Value),u.oneCell'=true:=λu hu=>by simp at hu;rw [hu];rfl
theorem Lm (w:World) (x:Value) (t:TypeId):∀ j u, [x][j]?=some u->(w.alloc (.cells #[x] t)).cell? (Addr.add ⟨w.heap.size,0,none⟩ j)=some u:=by
 intro j u hj
 rw [Addr.add_lit,Nat.zero_add,lU,<- hj]
 match j with
 | 0=>rfl
 | j+1=>rfl
theorem Low.trans {k:Nat} {a b c:World} (h:Low k a b) (g:Low k b c):Low k a c:=⟨cF h.1 g.1,λj hj hs=>(g.2 j hj (b6 hs h.1)).trans (h.2 j hj hs)⟩
theorem xC {k blk c:Nat} {T:List Sp.Tb} {tv:Value} {src:List (Nm×Nm)} {w₁ w:World} (ht:sD k w₁ T tv) (hlo:Low k w₁ w) (hs:gN w blk 0 src) (hb:blk<w.heap.size) (hn:src ≠ []) (hm:src.length<=1000) (hf:∀ x∈src,(aG x.1.1 T).isSome=true) :
  Calls prog 196 #[tv, .slice (some ⟨blk,0,none⟩) src.length c] w λe w'=>∃ v,e = .returned v/\(∃ Bs tb tc vs,v = .func (.func 191) #[] #[.pointer (some ⟨Bs,0,none⟩)]/\Bs<w'.heap.size/\w'.cell? ⟨Bs,0,none⟩=some (.slice (some ⟨tb,0,none⟩) src.length tc)/\(w.heap.size<=tb/\tb<w'.heap.size)/\(∀ j,(h:j<vs.length)->w'.cell? ⟨tb,j,none⟩=some vs[j])/\Al (λv (x:Nm×Nm)=>∃ t V,v=V.rv/\aG x.1.1 T=some t/\lW k w₁ t V) vs src)/\RowKit.Below w.heap.size w w':=by
 obtain ⟨i0,ji,fU,jz1,fV⟩:=info_parts Lj
 have HT:=hid ht
 have O7:=hid hlo
 have HS:=hid hs
 have HF:=hid hf
 obtain ⟨ta,tn,Z1,rfl⟩:∃ a n c,tv = .slice a n c:=by
  rcases ht.2.2 with ⟨_,e⟩ | ⟨b,off,c,V,e,_⟩
  ·exact ⟨_,_,_,e⟩
  ·exact ⟨_,_,_,e⟩
 obtain ⟨n,hnn⟩:∃ n,n=src.length:=⟨_,rfl⟩
 have HN:=hid hnn
 have hpos:0<n:=by rw [hnn];exact List.length_pos_iff.2 hn
 rw [<- hnn] at hm ⊢
 clear ht hlo hs hf hnn hn
 go_enter func196,ntmps196
 go_wp2_with fail
 go_loopw [5,12] (λv i wr=>∃ (j:Nat) (vs:List Value) (va:Option Addr) (vc:Nat),j<=n/\i = .int .i64 (j:Nat)/\v = .slice va j vc/\Hid (wr.ownsRow w.heap.size 32 1 (.slice va j vc) j vs)/\Hid (Al (λv (x:Nm×Nm)=>∃ t V,v=V.rv/\aG x.1.1 T=some t/\lW k w₁ t V) vs (src.take j))/\Hid (RowKit.Below w.heap.size w wr)) (λ_ i _=>n - (intOf i).toNat)
 case atStart=>exact ⟨0, [],none,0,eX _,rfl,rfl,World.ownsRow_nil _ _ _ _,trivial,Below.refl _ _⟩
 case round=>
  obtain ⟨j,vs,va,vc,hj,rfl,rfl,HO,HA,HB⟩:=hrel
  by_cases hlt:j<n
  ·have hjs:j<src.length:=by have:=HN.out;omega
   obtain ⟨q0,q1,q2,q3⟩:=gN.at_ src 0 j hjs HS.out
   have c0:=(HB.out.cell (p:=⟨blk,0+j*4,none⟩) hb).trans q0
   have c1:=(HB.out.cell (p:=⟨blk,0+j*4+1,none⟩) hb).trans q1
   have c2:=(HB.out.cell (p:=⟨blk,0+j*4+2,none⟩) hb).trans q2
   have c3:=(HB.out.cell (p:=⟨blk,0+j*4+3,none⟩) hb).trans q3
   rw [Nat.zero_add] at c0 c1 c2 c3
   clear q0 q1 q2 q3
   have HFj:=hid (HF.out _ (hU hjs))
   have lY:=hid (sA hjs)
   obtain ⟨sx,hsx⟩:∃ sx,sx=src[j]:=⟨_,rfl⟩
   rw [<- hsx] at c0 c1 c2 c3 HFj lY
   clear hsx
   obtain ⟨⟨tw,ta'⟩,cw,ca⟩:=sx
   simp only [] at c0 c1 c2 c3 HFj
   rcases yV HT.out tw with ⟨e,_⟩ | ⟨t,V,e,hT1,F⟩
   ·have:=HFj.out;rw [e] at this;cases this
   have Wd:Hid (∃ t V',V.rv=V'.rv/\aG tw T=some t/\lW k w₁ t V'):=⟨t,V,rfl,e,hT1⟩
   have Gt:=hid F
   clear e F hT1
   obtain ⟨vn,Qn,Qo,Qp,DJ,DK,DL⟩:=V
   have GA:=hid ((Gr.refl wr).alloc (.cells #[.string (bz tw), .int .i64 (ta' : Int), .string (bz cw), .int .i64 (ca:Int)] 337))
   have We:Hid (Low k w₁ (wr.alloc (.cells #[.string (bz tw), .int .i64 (ta' : Int), .string (bz cw), .int .i64 (ca:Int)] 337))):=O7.out.trans (Low.Ll (HB.out.trans (GA.out.below.mono HB.out.size)))
   go_wp2_with fail
   refine (Gt.out _ We.out).mono ?_
   rintro e w2 ⟨rfl,g2⟩
   have G2:=hid (GA.out.trans g2)
   clear g2 c0 c1 c2 c3
   have hjb:j<1000:=by omega
   have fW:Hid (((w2.alloc (.cells #[.string vn, .slice Qn Qo Qp, .slice DJ DK DL] 187)).alloc (.cells #[.slice DJ DK DL] 32)).ownsRow w.heap.size 32 1 (.slice va j vc) j vs):=aJ (aJ HO.out G2.out.below) (((Gr.refl w2).alloc _).alloc _).below
   have Yg:Hid (∀ q u,([.slice DJ DK DL]:List Value)[q]?=some u->((w2.alloc (.cells #[.string vn, .slice Qn Qo Qp, .slice DJ DK DL] 187)).alloc (.cells #[.slice DJ DK DL] 32)).cell? ((⟨w2.heap.size+1,0,none⟩:Addr).add q)=some u):=by
    have h:=Lm (w2.alloc (.cells #[.string vn, .slice Qn Qo Qp, .slice DJ DK DL] 187)) (.slice DJ DK DL) 32
    rw [World.size_alloc] at h
    exact h
   have HB2:Hid (RowKit.Below w.heap.size w ((w2.alloc (.cells #[.string vn, .slice Qn Qo Qp, .slice DJ DK DL] 187)).alloc (.cells #[.slice DJ DK DL] 32))):=(HB.out.trans (G2.out.below.mono HB.out.size)).trans ((((Gr.refl w2).alloc _).alloc _).below.mono (cF HB.out.size G2.out.size))
   have H3:Hid (j+1<=maxLen):=by show _<=_;unfold maxLen;omega
   have H4:Hid ((j+1)*24<=140737488355328):=by show _<=_;omega
   have H5:Hid (w.heap.size<=((w2.alloc (.cells #[.string vn, .slice Qn Qo Qp, .slice DJ DK DL] 187)).alloc (.cells #[.slice DJ DK DL] 32)).heap.size):=HB2.out.size
   go_wp2_with (at_builtin;go_must (refine wpList_append_own _ rfl (.tmp 24) (.tmp 27) 326 rfl w.heap.size 32 i0 (.slice none 0 0) 1 24 underlying326 ji fU jz1 fV rfl (by decide) _ j _ rfl fW.out ⟨w2.heap.size+1,0,none⟩ 1 1 [.slice DJ DK DL] rfl rfl Yg.out (oF _ _ _) H3.out H4.out H5.out ?_))
   intro v' w3 hown hgrow hnil
   have HB3:=hid (below_grown HB2.out hgrow fW.out (aF _))
   obtain ⟨UK,UL,rfl⟩:∃ a c,v' = .slice a (j+1) c:=by
    obtain ⟨_,h | ⟨g',cap,cur,hv,_⟩⟩:=hown
    ·exact absurd h.2 (by omega)
    ·exact ⟨_,_,hv⟩
   have oA:=hid hown
   have Wf:Hid (Al (λv (x:Nm×Nm)=>∃ t V,v=V.rv/\aG x.1.1 T=some t/\lW k w₁ t V) (vs ++ [.slice DJ DK DL]) (src.take (j+1))):=by
    show Al _ _ _
    rw [lY.out]
    exact HA.out.snoc Wd.out
   clear hown hgrow hnil fW Yg HB2 H3 H4 H5
   go_wp2_with fail
   go_roundw
   case rel=>exact ⟨j+1,vs ++ [.slice DJ DK DL],UK,UL,by omega,by go_num,rfl,oA,Wf,HB3⟩
   case measure=>simp [intOf];omega
  ·obtain rfl:j=n:=by omega
   have HA2:Hid (Al (λv (x:Nm×Nm)=>∃ t V,v=V.rv/\aG x.1.1 T=some t/\lW k w₁ t V) vs src):=by
    have:=HA.out
    rw [HN.out,List.take_length] at this
    exact this
   have hlv:vs.length=j:=HA2.out.len.trans HN.out.symm
   obtain ⟨g,cap,hv,hcells,hgz,hgl⟩:∃ g cap,(Value.slice va j vc) = .slice (some ⟨g,0,none⟩) j cap/\(∀ q,(h:q<vs.length)->wr.cell? ⟨g,q,none⟩=some vs[q])/\w.heap.size<=g/\g<wr.heap.size:=by
    have ho:=HO.out
    obtain ⟨_,h | ⟨g',cap,cur,hv,_⟩⟩:=HO.out
    ·exact absurd h.2 (by omega)
    ·rw [hv] at ho
     exact ⟨g',cap,hv,λq hq=>cH ho q _ (tC hq),(gI ho).1,(gI ho).2⟩
   injection hv with hv1 _ hv3
   subst hv1 hv3
   have rF:=hid hcells
   have HLv:=hid hlv
   clear hcells hlv hlt
   go_wp2_with fail
   refine (lC _ _ _ wr).mono ?_
   rintro e w1 ⟨rfl,rfl⟩
   have GW:=hid ((Gr.refl wr).alloc (.cells #[.slice (some ⟨g,0,none⟩) j vc] 326))
   go_wp2_with fail
   go_ret
   exact ⟨_,rfl,⟨wr.heap.size,g,vc,vs,rfl,by simp,by simp,⟨hgz,by simp;omega⟩,λq hq=>(GW.out.cell (p:=⟨g,q,none⟩) hgl).trans (rF.out q hq),HA2.out⟩,HB.out.trans (GW.out.below.mono HB.out.size)⟩
def IJ (w0 w:World) (v:Value) (vals:List Sv.Val):Prop:=Calls prog 188 #[v] w λe W'=>∃ u,e = .returned u/\kO w0.heap.size W' u vals/\RowKit.Below w0.heap.size w0 W'
theorem kO.lower {b b' : Nat} {w:World} {v:Value} {vs:List Sv.Val} (h:kO b w v vs) (hb:b'<=b):kO b' w v vs:=nL h hb
theorem sP (v:Value) (hv:∃ a l c,v = .slice a l c) (w:World) :
  Calls prog 195 #[v] w λe w'=>e = .returned (.func (.func 237) #[] #[.pointer (some ⟨w.heap.size,0,none⟩)])/\w'=w.alloc (.cells #[v] 32):=
 callsIn_wide.1 (Cz Fence.wide 6 trivial rfl v hv w)
theorem yW {w:World} {tk:List (List Sv.Val)} {sv:Value} (h:CJ w tk sv) (hne:tk ≠ []) (hl:tk.length<=100000) (hf:tk.flatten.length<=100000):IJ w (w.alloc (.cells #[sv] 32)) (.func (.func 237) #[] #[.pointer (some ⟨w.heap.size,0,none⟩)]) tk.flatten:=by
 have G:=(Gr.refl w).alloc (.cells #[sv] 32)
 have h':=h.gr G
 obtain ⟨a,c,rfl,h1⟩:=h'
 obtain ⟨rb,ro,rfl,hr⟩:=h1 hne
 refine (callsIn_wide.1 (row_in 6 (aF _) 237 _ tk.flatten hf _ (enters_of func237 (by kernel_rfl) rfl)
  (sL Fence.wide (6 - 1) trivial rfl (by omega) w.heap.size _ rb ro c tk tk.flatten rfl hl hf _ (by simp) (aF _) (by simp) hr))).mono ?_
 rintro e W' ⟨u,rfl,o,b⟩
 exact ⟨u,rfl,o.lower G.size,G.below.trans (b.mono G.size)⟩
theorem CU {sb st:Nat} {di:Bool} {fv wv tv iv:Value} {env:List (List Row)} {tk:List Row} {w:World} (hs:At w sb [.bool di, .int .i64 (st:Int), .slice none 0 0,fv,wv]) (ha:oL w tv (tk::env) iv) (hne:tk ≠ []) (hl:tk.length<=100000) (hf:tk.flatten.length<=100000) :
  Calls prog 197 #[.pointer (some ⟨sb,0,none⟩),iv] w λe w'=>∃ gf lb,e = .returned (.func (.func gf) #[] lb)/\IJ w w' (.func (.func gf) #[] lb) tk.flatten/\Gr w w':=by
 obtain ⟨ib,sv,ov,rfl,hib,c0,c1,c2,ht,hr⟩:=ha
 have HT:=hid ht
 obtain ⟨va,vc,rfl⟩:=ht.sl
 have b2:=hs.k2
 have hbw:=hs.1
 have HC:=hid (sP (.slice va tk.length vc) ⟨_,_,_,rfl⟩ w)
 have HR:=hid (yW HT.out hne hl hf)
 generalize tk.flatten=vals at *
 clear ht hr hs hne
 have hq:=λ(w' : World)=>Lib.run_eql_slice_nil (P:=prog) w' 237 _ none 0 0 0 0 underlying237
 simp only [Option.isNone_none] at hq
 go_enter func197,ntmps197
 go_wp2_with fail
 refine HC.out.mono ?_
 rintro e w1 ⟨rfl,rfl⟩
 go_wp2_with fail
 go_ret
 exact ⟨_,_,rfl,HR.out,(Gr.refl w).alloc _⟩
theorem AI {sb st g off cap:Nat} {di:Bool} {fv wv:Value} {ia:Option Addr} {vals:List Sv.Val} {w:World} (hs:At w sb [.bool di, .int .i64 (st:Int), .slice (some ⟨g,off,none⟩) vals.length cap,fv,wv]) (hm:vals.length<=100000) (hg:g<w.heap.size)
  (hE:∀ i,(hi:i<vals.length)->∃ t p,w.cell? ⟨g,off+i,none⟩=some (.iface t p)/\∀ W,RowKit.Below w.heap.size w W->Calls prog 194 #[.iface t p, .pointer ia] W λe W'=>e = .returned (dF vals[i])/\Gr W W') :
  Calls prog 197 #[.pointer (some ⟨sb,0,none⟩), .pointer ia] w λe w'=>∃ gf lb,e = .returned (.func (.func gf) #[] lb)/\IJ w w' (.func (.func gf) #[] lb) vals/\Gr w w':=by
 have b2:=hs.k2
 have hbw:=hs.1
 have HR:Hid (IJ w (boxes w (.slice (some ⟨g,off,none⟩) vals.length cap) (.pointer ia)) (.func (.func 229) #[] #[.pointer (some ⟨w.heap.size,0,none⟩), .pointer (some ⟨w.heap.size+1,0,none⟩)]) vals):=by
  exact rU hm hg hE
 clear hs hE
 have hq:=λ(w' : World)=>Lib.run_eql_slice_nil (P:=prog) w' 237 _ (some ⟨g,off,none⟩) vals.length cap 0 0 underlying237
 simp only [Option.isNone_some] at hq
 go_enter func197,ntmps197
 go_wp2_with fail
 refine (pJ _ _ _ _ _).mono ?_
 rintro e w1 ⟨rfl,rfl⟩
 go_wp2_with fail
 go_ret
 exact ⟨_,_,rfl,HR.out,qR _ _ _⟩
end Go.Proofs.YtgnncnhkgmhngaaGreatDoor
