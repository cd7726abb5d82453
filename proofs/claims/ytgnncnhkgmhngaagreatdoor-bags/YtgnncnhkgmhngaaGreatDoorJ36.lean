import Derived.Test.YtgnncnhkgmhngaaGreatDoorJ35
set_option maxHeartbeats 2000000
set_option maxRecDepth 100000
namespace Go.Proofs.YtgnncnhkgmhngaaGreatDoor
open Go.RowKit Go.Sort
theorem pV:(Tryz.prog.info? 41).map (λi=>(i.zero,i.size,i.bytes))=some (some (.slice none 0 0),1,24):=by kernel_rfl
theorem GY (n:Nat) (h0:0<n) (hn:n<=100000) (w:World) :
  Calls Tryz.prog 230 #[.slice none 0 0, .int .i64 (n:Nat)] w λe w'=>∃ g cap,e = .returned (.slice (some ⟨g,0,none⟩) 0 cap)/\w'.ownsRow w.heap.size 41 1 (.slice (some ⟨g,0,none⟩) 0 cap) 0 []/\n<=cap/\Below w.heap.size w w':=by
 obtain ⟨i0,ji,fR,jz1,fS⟩:=info_parts pV
 have hb8:Tryz.t41.bytes=24:=rfl
 have hns:Builtin.nextslicecap n 0=n:=by unfold Builtin.nextslicecap;rw [if_pos (by omega)]
 have hn0:n≠0:=by omega
 have hm:(n:Int)<=9223372036854775807:=by omega
 go_enter Tryz.func230,Tryz.ntmps230
 go_wp2_with fail
 go_ret
 have hge:=grownCap_ge w n 0 41
 have hle:=grownCap_le_maxLen w n 0 41 (by unfold maxLen;omega)
 refine ⟨w.heap.size,grownCap w n 0 41,rfl,⟨rfl, .inr ⟨w.heap.size,_,_,rfl,aF _,heap_alloc_new w _,fO _,hle,?_,rfl⟩⟩,hge,below_drewN ((Below.refl _ _).alloc (aF _) _) 1⟩
 simp only [Array.size_append,size_zeroCells]
 show n*1+(grownCap w n 0 41 - n)*1=grownCap w n 0 41*1
 omega
theorem Ec (w:World) :
  Calls Tryz.prog 230 #[.slice none 0 0, .int .i64 0] w λe w'=>e = .returned (.slice none 0 0)/\w'=w:=by
 go_enter Tryz.func230,Tryz.ntmps230
 go_wp2_with fail
 go_ret
 exact ⟨rfl,rfl⟩
theorem BV (b off n c:Nat) (vs:List Value) (ls:List (List Value)) (w:World) (hz:n=vs.length) (hz2:ls.length=vs.length) (hb:b<w.heap.size) (hc:∀ j,(h:j<vs.length)->w.cell? ⟨b,off+j,none⟩=some vs[j])
  (hs:∀ j,(h:j<vs.length)->sI w vs[j] (ls[j]?.getD [])) (h1:∀ l∈ls,∀ u∈l,u.oneCell'=true) (hbig:ls.flatten.length<=100000) (hn:n<=1000) :
  Calls Tryz.prog 190 #[.slice (some ⟨b,off,none⟩) n c] w λe w'=>∃ v,e = .returned v/\w'.ownsRow w.heap.size 41 1 v ls.flatten.length ls.flatten/\(ls.flatten = []->v = .slice none 0 0)/\Below w.heap.size w w':=by
 obtain ⟨i0,ji,fR,jz1,fS⟩:=info_parts pV
 have HZ:Hid (n=vs.length/\ls.length=vs.length):=⟨hz,hz2⟩
 have HC:=hid hc
 have HS:=hid hs
 have H1:=hid h1
 clear hz hz2 hc hs h1
 have HT:Hid (sumTo ls ls.length=ls.flatten.length):=qK ls
 go_enter Tryz.func190,Tryz.ntmps190
 go_wp2_with fail
 go_loopw [3,11] (λsz i wr=>∃ k:Nat,k<=n/\i = .int .i64 k/\sz = .int .i64 (sumTo ls k:Nat)/\w=wr) (λ_ i _=>n - (intOf i).toNat)
 case atStart=>exact ⟨0,fO _,rfl,by rw [eA];rfl,rfl⟩
 case round=>
  obtain ⟨k,hk,rfl,rfl,rfl⟩:=hrel
  by_cases hlt:k<n
  ·have hkz:k<vs.length:=by have:=HZ.out.1;omega
   have hkl:k<ls.length:=by have:=HZ.out;omega
   have c0:=HC.out k hkz
   obtain ⟨a0,c1,e0⟩:∃ a0 c1,vs[k] = .slice a0 ls[k].length c1:=by
    have:=HS.out k hkz
    rw [rI hkl,Option.getD_some] at this
    rcases this with ⟨e,e'⟩ | ⟨blk,o,c',e,_⟩
    ·exact ⟨none,0,by rw [e,e'];rfl⟩
    ·exact ⟨_,_,e⟩
   rw [e0] at c0
   have HN:Hid (sumTo ls (k+1)=sumTo ls k+ls[k].length):=eS ls k hkl
   have hle:sumTo ls k+ls[k].length<=100000:=by have:=sumTo_le ls (k+1);have:=HN.out;omega
   clear e0
   generalize ls[k].length=m at *
   generalize sumTo ls k=s0 at *
   go_wp2_with fail
   go_roundw
   case rel=>exact ⟨k+1,by omega,by go_num,by rw [HN.out];go_num,(by first | rfl | trivial)⟩
   case measure=>simp [intOf];omega
  ·obtain rfl:k=n:=by omega
   have HE:Hid (sumTo ls k=ls.flatten.length):=by show _=_;rw [<- HT.out];congr 1;have:=HZ.out;omega
   have hsl:=sumTo_le ls k
   by_cases ht:sumTo ls k=0
   ·rw [ht]
    have HQ:Hid (ls.flatten.length=0):=by show _=_;rw [<- HE.out];exact ht
    clear ht
    go_wp2_with fail
    refine (Ec w).mono ?_
    rintro e w1 ⟨rfl,ew⟩
    subst w1
    go_wp2_with fail
    go_loopw [6,27] (λv i wr=>∃ j:Nat,j<=k/\i = .int .i64 j/\v = .slice none 0 0/\w=wr) (λ_ i _=>k - (intOf i).toNat)
    case atStart=>exact ⟨0,fO _,rfl,rfl,rfl⟩
    case round=>
     obtain ⟨j,hj,rfl,rfl,rfl⟩:=hrel
     by_cases hlt:j<k
     ·have hkz:j<vs.length:=by have:=HZ.out.1;omega
      have hkl:j<ls.length:=by have:=HZ.out;omega
      have c0:=HC.out j hkz
      have hm0:ls[j].length=0:=by have:=eS ls j hkl;have:=sumTo_le ls (j+1);have:=HQ.out;omega
      obtain ⟨a0,c1,e0⟩:∃ a0 c1,vs[j] = .slice a0 0 c1:=by
       have:=HS.out j hkz
       rw [rI hkl,Option.getD_some] at this
       rcases this with ⟨e,e'⟩ | ⟨blk,o,c',e,_⟩
       ·exact ⟨none,0,e⟩
       ·exact ⟨_,_,by rw [e,hm0]⟩
      rw [e0] at c0
      clear e0 hm0
      cases a0 with
      | none=>
       go_wp2_with fail
       go_roundw
       case rel=>exact ⟨j+1,by omega,by go_num,(by first | rfl | trivial),(by first | rfl | trivial)⟩
       case measure=>simp [intOf];omega
      | some a0=>
       go_wp2_with fail
       go_roundw
       case rel=>exact ⟨j+1,by omega,by go_num,(by first | rfl | trivial),(by first | rfl | trivial)⟩
       case measure=>simp [intOf];omega
     ·go_wp2_with fail
      go_ret
      have hq:ls.flatten = []:=Av HQ.out
      exact ⟨_,rfl,by rw [hq];exact ⟨rfl, .inl ⟨rfl,rfl⟩⟩,λ_=>rfl,Below.refl _ _⟩
   ·have hle:sumTo ls k<=100000:=by omega
    have HP:Hid (ls.flatten ≠ []):=λh=>ht (by rw [HE.out,h];rfl)
    have HG:Hid (∀ w1,Calls Tryz.prog 230 #[.slice none 0 0, .int .i64 (sumTo ls k:Nat)] w1 λe w'=>∃ g cap,e = .returned (.slice (some ⟨g,0,none⟩) 0 cap)/\w'.ownsRow w1.heap.size 41 1 (.slice (some ⟨g,0,none⟩) 0 cap) 0 []/\sumTo ls k<=cap/\Below w1.heap.size w1 w'):=λw1=>GY _ (by omega) hle w1
    go_wp2_with fail
    refine (HG.out w).mono ?_
    rintro e w1 ⟨g,cap,rfl,hown,hcap,hb1⟩
    have HO:=hid hown
    have HB:=hid hb1
    have hgw:=(gC hown).1
    clear hown hb1 HG
    go_wp2_with fail
    go_loopw [6,27] (λv i wr=>∃ j:Nat,j<=k/\i = .int .i64 j/\v = .slice (some ⟨g,0,none⟩) (sumTo ls j) cap/\Hid (wr.ownsRow w.heap.size 41 1 (.slice (some ⟨g,0,none⟩) (sumTo ls j) cap) (sumTo ls j) (ls.take j).flatten)/\Hid (Below w.heap.size w wr)) (λ_ i _=>k - (intOf i).toNat)
    case atStart=>exact ⟨0,fO _,rfl,by rw [eA],by rw [eA];exact HO,HB⟩
    case round=>
     obtain ⟨j,hj,rfl,rfl,HOr,oF⟩:=hrel
     by_cases hlt:j<k
     ·have hkz:j<vs.length:=by have:=HZ.out.1;omega
      have hkl:j<ls.length:=by have:=HZ.out;omega
      have c0:=(oF.out.cell (p:=⟨b,off+j,none⟩) hb).trans (HC.out j hkz)
      obtain ⟨a0,c1,e0,hnone,hcells⟩:∃ a0 c1,vs[j] = .slice a0 ls[j].length c1/\(a0=none->ls[j].length=0/\c1=0)/\∀ ad,a0=some ad->∀ i u,ls[j][i]?=some u->wr.cell? (ad.add i)=some u:=by
       have:=(HS.out j hkz).below oF.out
       rw [rI hkl,Option.getD_some] at this
       rcases this with ⟨e,e'⟩ | ⟨blk,o,c',e,hb',hc'⟩
       ·exact ⟨none,0,by rw [e,e'];rfl,λ_=>⟨by rw [e'];rfl,rfl⟩,λad h=>by cases h⟩
       ·refine ⟨_,_,e,λh=>(by cases h),λad h i u hu=>?_⟩
        injection h with h
        subst h
        rw [Addr.add_lit]
        obtain ⟨hi,rfl⟩:=List.getElem?_eq_some_iff.1 hu
        exact hc' i hi
      rw [e0] at c0
      have HH0:Hid ((a0=none->ls[j].length=0/\c1=0)/\∀ ad,a0=some ad->∀ i u,ls[j][i]?=some u->wr.cell? (ad.add i)=some u):=⟨hnone,hcells⟩
      have HN:Hid (sumTo ls (j+1)=sumTo ls j+ls[j].length):=eS ls j hkl
      have NB:Hid ((ls.take (j+1)).flatten=(ls.take j).flatten++ls[j]):=wM ls j hkl
      have Td:Hid (∀ u∈ls[j],u.oneCell'=true):=H1.out _ (jD hkl)
      have Te:Hid (sumTo ls j+ls[j].length<=cap):=by
       have h1:=sumTo_le ls (j+1)
       have h2:=HN.out
       have h3:=HE.out
       show _<=_
       omega
      clear e0 hnone hcells
      go_wp2_with (at_builtin;go_must (refine wpList_append_fits_any _ rfl (.tmp 31) (.tmp 32) 32 rfl w.heap.size 41 i0 1 Tryz.underlying32 ji jz1 g (sumTo ls j) cap (ls.take j).flatten rfl HOr.out a0 ls[j].length c1 ls[j] rfl (by rw [Nat.mul_one]) HH0.out.1 HH0.out.2 Td.out Te.out ?_))
      intro w2 hown2 hgrow2
      have fN:=hid hown2
      have HB2:Hid (Below w.heap.size w w2):=⟨hgrow2.os.trans oF.out.os,hgrow2.tape.trans oF.out.tape,hgrow2.output.trans oF.out.output,cE oF.out.size hgrow2.size,λq hq=>(hgrow2.block q (bY hq oF.out.size) (by intro e;injection e with e;omega)).trans (oF.out.block q hq)⟩
      clear hown2 hgrow2
      go_wp2_with fail
      go_roundw
      case rel=>exact ⟨j+1,by omega,by go_num,by rw [HN.out],by rw [HN.out,NB.out];exact fN,HB2⟩
      case measure=>simp [intOf];omega
     ·obtain rfl:j=k:=by omega
      have NB:Hid ((ls.take j).flatten=ls.flatten):=by show _=_;rw [sD (by have:=HZ.out;omega)]
      go_wp2_with fail
      go_ret
      exact ⟨_,rfl,by rw [<- HE.out,<- NB.out];exact HOr.out,λh=>absurd h HP.out,oF.out⟩
theorem Ed (w:World):Calls Tryz.prog 305 #[.int .u64 0] w λe w'=>e = .returned (.int .i64 0)/\w'=w:=by
 go_enter Tryz.func305,Tryz.ntmps305
 go_wp2_with fail
 go_ret
 exact ⟨by kernel_rfl,rfl⟩
theorem z7 (w:World):Calls Tryz.prog 275 #[.int .u64 0] w λe w'=>e = .returned (.int .i64 0)/\w'=w:=by
 go_enter Tryz.func275,Tryz.ntmps275
 go_wp2_with fail
 refine (Ed w).mono ?_
 rintro e w1 ⟨rfl,rfl⟩
 go_wp2_with fail
 go_ret
 exact ⟨rfl,rfl⟩
theorem LM (cv:Value) (w:World):Calls Tryz.prog 296 #[.slice none 0 0, .int .i64 0, .int .i64 0,cv] w λe w'=>e = .returned (.tuple #[])/\w'=w:=by
 go_enter Tryz.func296,Tryz.ntmps296
 go_wp2_with fail
 go_loopw [8] (λi wr=>i = .int .i64 1/\wr=w) (λ_ _=>0)
 case atStart=>exact ⟨rfl,rfl⟩
 case round=>
  obtain ⟨rfl,rfl⟩:=hrel
  go_wp2_with fail
  go_end0
  exact ⟨rfl,rfl⟩
theorem LN (cv:Value) (w:World):Calls Tryz.prog 274 #[.slice none 0 0, .int .i64 0, .int .i64 0, .int .i64 0,cv] w λe w'=>e = .returned (.tuple #[])/\w'=w:=by
 go_enter Tryz.func274,Tryz.ntmps274
 go_wp2_with fail
 go_loopw [1,2] (λa b wr=>a = .int .i64 0/\b = .int .i64 0/\wr=w) (λ_ _ _=>0)
 case atStart=>exact ⟨rfl,rfl,rfl⟩
 case round=>
  obtain ⟨rfl,rfl,rfl⟩:=hrel
  go_wp2_with fail
  refine (LM cv _).mono ?_
  rintro e w1 ⟨rfl,rfl⟩
  go_wp2_with fail
  refine cL (results_none rfl _ _ _) rfl ?_
  exact ⟨rfl,rfl⟩
theorem JP (w:World):Calls Tryz.prog 238 #[.slice none 0 0, .func (.func 239) #[] #[]] w λe w'=>e = .returned (.tuple #[])/\Gr w w':=by
 go_enter Tryz.func238,Tryz.ntmps238
 go_wp2_with fail
 refine (z7 _).mono ?_
 rintro e1 w1 ⟨rfl,rfl⟩
 go_wp2_with fail
 refine (LN _ _).mono ?_
 rintro e1 w2 ⟨rfl,rfl⟩
 go_wp2_with fail
 go_end0
 exact ⟨rfl,Gr.refl _⟩
end Go.Proofs.YtgnncnhkgmhngaaGreatDoor
namespace Go.Proofs.YtgnncnhkgmhngaaGreatDoor.Sp
open Sv (Val)
abbrev Row:=List Val
def val (l:List Row):Val:=(l.headD []).headD Sv.null
def dR (r:Row):List Row->List Row
 | [] => []
 | s::l=>if bP s r=0 then dR s l else s::dR s l
def once:List Row->List Row
 | [] => []
 | r::l=>r::dR r l
def skip (r:Row):List Row->List Row
 | [] => []
 | s::l=>if bP s r<0 then skip r l else s::l
def matched:List Row->List Row->List Row×List Row
 | [],_=>([], [])
 | r::l,m=>
  match skip r m with
  | []=>let q:=matched l [];(q.1,r::q.2)
  | s::m'=>if bP s r=0 then (let q:=matched l m';(r::q.1,q.2)) else (let q:=matched l (s::m');(q.1,r::q.2))
def combined (w:Bs) (all:Bool) (p q:List Row):List Row:=
 let p:=if all then p else once p
 let q:=if all then q else once q
 let m:=matched p q
 if w == [105,110,116,101,114,115,101,99,116] then m.1 else if w == [101,120,99,101,112,116] then m.2 else if all then aI (p++q) else aI (m.2++q)
def isIn (v:Val) (l:List Val):Val:=
 if !Sv.isNull v&&l.contains v then Sv.bool true else if (!l.isEmpty&&Sv.isNull v)||l.any Sv.isNull then Sv.null else Sv.bool false
def single:List Val->Val
 | [v]=>v
 | _=>Sv.null
def rowsOf (T:List Tb) (src:List (Nm×Nm)):List (List Row):=src.map λs=>((aG s.1.1 T).getD iR).rows
def rn (T:List Tb):Nd->List (List Row)->List Row
 | .nil,_ => [[]]
 | .none,_ => []
 | .cons h t,env => [val (rn T h env)::(rn T t env).headD []]
 | .clause _ e,env=>rn T e env
 | .const v,_ => [[v]]
 | .col _ _ _ o sr ce,env => [[(((env[o]?).getD [])[sr]?.getD [])[ce.toNat]?.getD Sv.null]]
 | .op w _ args,env => [[Sv.of w ((rn T args env).headD [])]]
 | .dW arms els,env=>
  match (rn T arms env).headD [] with
  | v::_ => [[v]]
  | []=>(match els with | .clause _ _=>rn T els env | _ => [[Sv.null]])
 | .arms _ w _ t rest,env=>if Sv.isTrue (val (rn T w env)) then [[val (rn T t env)]] else rn T rest env
 | .within w _ args q,env=>
  let vs:=(rn T q env).map (·.headD Sv.null)
  if w == [101,120,105,115,116,115] then [[Sv.bool (!vs.isEmpty)]] else if w == [105,110] then [[isIn ((rn T args env).headD [] |>.headD Sv.null) vs]] else [[single vs]]
 | .comb w _ all p q,env=>combined w all (rn T p env) (rn T q env)
 | .sel di _ ex src wh,env=>
  let rows:=aI ((aK (rowsOf T src)).flatMap λtaken=>
   if (match wh with | .clause _ _=>Sv.isTrue (val (rn T wh (taken::env))) | _=>true) then [match ex with | .none=>taken.flatten | _=>(rn T ex (taken::env)).headD []] else [])
  if di then once rows else rows
def holds (T:List Tb) (wh:Nd) (env:List (List Row)):Bool:=match wh with | .clause _ e=>Sv.isTrue (val (rn T e env)) | _=>true
def width (T:List Tb):Nd->Nat
 | .sel _ _ ex src _=>match ex with | .none=>(src.map λs=>((aG s.1.1 T).getD iR).cols.length).sum | _=>ex.len
 | .comb _ _ _ p _=>width T p
 | _=>0
structure QP where
 err:Nat
 at_:Nat
 width:Nat
 rows:List Row
 count:Nat
def without (x:Bs) (T:List Tb):List Tb:=T.filter λt=>!(t.name == x)
def i8 (t:Tb) (T:List Tb):List Tb:=without t.name T ++ [t]
def JQ (T:List Tb) (t:Tb) (env:List (List Row)):List (Nm×Nat×Nd)->Row->Row
 | [],r=>r
 | (n,_,e)::l,r=>JQ T t env l (r.set (cellOf n.1 t.cols).toNat (val (rn T e env)))
def does (T:List Tb):wB->List Tb×QP
 | .create t cols=>(i8 ⟨t.1,cols.map λc=>(c.1.1,c.2), []⟩ T,⟨0,0,0, [],0⟩)
 | .drop t=>(without t.1 T,⟨0,0,0, [],0⟩)
 | .dH _ t rows=>add t (rows.map λr=>(rn T r.2 [[]]).headD [])
 | .eO _ t q=>add t (rn T q [[]])
 | .delete t wh=>
  let b:=(aG t.1 T).getD iR
  let l:=b.rows.filter λr=>!holds T wh [[r], []]
  (i8 { b with rows:=l } T,⟨0,0,0, [],b.rows.length - l.length⟩)
 | .update t sets wh=>
  let b:=(aG t.1 T).getD iR
  (i8 { b with rows:=b.rows.map λr=>if holds T wh [[r], []] then JQ T b [[r], []] sets r else r } T,⟨0,0,0, [],(b.rows.filter λr=>holds T wh [[r], []]).length⟩)
 | .trans _=>(T,⟨0,0,0, [],0⟩)
 | .query q=>(T,⟨0,0,width T q,rn T q [[]],0⟩)
 where
 add (t:Nm) (new:List Row):List Tb×QP:=
  let b:=(aG t.1 T).getD iR
  if 100<b.rows.length+new.length then (T,⟨8,0,0, [],0⟩) else (i8 { b with rows:=b.rows++new } T,⟨0,0,0, [],new.length⟩)
structure SF where
 T:List Tb
 begun:Bool
 old:List Tb
def bad (e a:Nat):QP:=⟨e,a,0, [],0⟩
def QQ (b:SF) (s:wB):SF×QP:=
 match s with
 | .trans w=>
  if b.begun == (w == [98,101,103,105,110]) then (b,bad 7 0)
  else if w == [98,101,103,105,110] then (⟨b.T,true,b.T⟩,bad 0 0)
  else if w == [114,111,108,108,98,97,99,107] then (⟨b.old,false, []⟩,bad 0 0)
  else (⟨b.T,false, []⟩,bad 0 0)
 | _=>
  let c:=check b.T s
  if c.1.out.1≠0 then (b,bad c.1.out.1 c.1.out.2)
  else let r:=does b.T c.2;({ b with T:=r.1 },r.2)
def exec (b:SF) (src:Bs):SF×QP:=
 if (parse src).1≠0 then (b,bad (parse src).1 (parse src).2) else QQ b (tree src)
end Go.Proofs.YtgnncnhkgmhngaaGreatDoor.Sp
namespace Go.Proofs.YtgnncnhkgmhngaaGreatDoor
open Go.RowKit Go.Sort
def BW (w:World) (tk:List (List Sv.Val)) (v:Value):Prop:=∃ a c,v = .slice a tk.length c/\(tk ≠ []->∃ rb ro,a=some ⟨rb,ro,none⟩/\ER w.heap.size w rb ro tk)
theorem ER.up {n₀ n₁:Nat} {w:World} {rb ro:Nat} {rs:List (List Sv.Val)} (h:ER n₀ w rb ro rs) (hn:n₀<=n₁):ER n₁ w rb ro rs:=
 ⟨bY h.lb hn,λi hi=>by
  obtain ⟨v,h1,h2⟩:=h.at_ i hi
  refine ⟨v,h1,?_⟩
  rcases h2 with h2 | ⟨b,off,c,e,hb,hv⟩
  ·exact .inl h2
  ·exact .inr ⟨b,off,c,e,bY hb hn,hv⟩⟩
theorem BW.gr {w w' : World} {tk:List (List Sv.Val)} {v:Value} (h:BW w tk v) (g:Gr w w'):BW w' tk v:=by
 obtain ⟨a,c,e,h⟩:=h
 refine ⟨a,c,e,λhne=>?_⟩
 obtain ⟨rb,ro,e1,hr⟩:=h hne
 exact ⟨rb,ro,e1,(hr.below g.below).up g.size⟩
theorem BW.sl {w:World} {tk:List (List Sv.Val)} {v:Value} (h:BW w tk v):∃ a c,v = .slice a tk.length c:=by obtain ⟨a,c,e,_⟩:=h;exact ⟨a,c,e⟩
def pW (w:World) (tv:Value):List (List (List Sv.Val))->Value->Prop
 | [],v=>∃ b,v = .pointer (some ⟨b,0,none⟩)/\b<w.heap.size/\w.cell? ⟨b,0,none⟩=some tv
 | tk::env,v=>∃ b sv ov,v = .pointer (some ⟨b,0,none⟩)/\b<w.heap.size/\w.cell? ⟨b,0,none⟩=some tv/\w.cell? ⟨b,1,none⟩=some sv/\w.cell? ⟨b,2,none⟩=some ov/\BW w tk sv/\pW w tv env ov
theorem pW.gr {w w' : World} {tv:Value} (g:Gr w w'):∀ {env:List (List (List Sv.Val))} {v:Value},pW w tv env v->pW w' tv env v
 | [],_,⟨b,e,hb,c0⟩=>⟨b,e,bY hb g.size,(g.cell (p:=⟨b,0,none⟩) hb).trans c0⟩
 | _::_,_,⟨b,sv,ov,e,hb,c0,c1,c2,ht,hr⟩=>⟨b,sv,ov,e,bY hb g.size,(g.cell (p:=⟨b,0,none⟩) hb).trans c0,(g.cell (p:=⟨b,1,none⟩) hb).trans c1,(g.cell (p:=⟨b,2,none⟩) hb).trans c2,ht.gr g,hr.gr g⟩
theorem pW.ptr {w:World} {tv:Value} : ∀ {env:List (List (List Sv.Val))} {v:Value},pW w tv env v->∃ b,v = .pointer (some ⟨b,0,none⟩)/\b<w.heap.size/\w.cell? ⟨b,0,none⟩=some tv
 | [],_,⟨b,e,hb,c0⟩=>⟨b,e,hb,c0⟩
 | _::_,_,⟨b,_sv,_ov,e,hb,c0,_⟩=>⟨b,e,hb,c0⟩
theorem rV (ta:Option Addr) (tn tc:Nat) (w:World) :
  Calls Tryz.prog 94 #[.slice ta tn tc] w λe w'=>∃ v,e = .returned v/\pW w' (.slice ta tn tc) [] v/\Gr w w':=by
 go_enter Tryz.func94,Tryz.ntmps94
 go_wp2_with fail
 go_ret
 exact ⟨_,rfl,⟨w.heap.size,rfl,by simp,by simp⟩,(Gr.refl w).alloc _⟩
theorem JR {ta:Option Addr} {tn tc:Nat} {env:List (List (List Sv.Val))} {tk:List (List Sv.Val)} {v sv:Value} {w:World} (h:pW w (.slice ta tn tc) env v) (ht:BW w tk sv) :
  Calls Tryz.prog 151 #[v,sv] w λe w'=>∃ v',e = .returned v'/\pW w' (.slice ta tn tc) (tk::env) v'/\Gr w w':=by
 obtain ⟨b,rfl,hb,c0⟩:=h.ptr
 obtain ⟨sa,sc,rfl⟩:=ht.sl
 have H:=hid h
 have HT:=hid ht
 clear h ht
 go_enter Tryz.func151,Tryz.ntmps151
 go_wp2_with fail
 go_ret
 have g:=(Gr.refl w).alloc (.cells #[.slice ta tn tc, .slice sa tk.length sc, .pointer (some ⟨b,0,none⟩)] 286)
 exact ⟨_,rfl,⟨w.heap.size,_,_,rfl,by simp,by simp,by simp,by simp,HT.out.gr g,H.out.gr g⟩,g⟩
theorem xM {P:Program} {f:FuncId} {args:Array Value} {w:World} {R:Value->World->Prop} (h:Calls P f args w λe w'=>∃ v,e = .returned v/\R v w'/\RowKit.Below w.heap.size w w'):Calls P f args w λe w'=>∃ v,e = .returned v/\R v w'/\Gr w w':=
 (Dr.rS h (λ_ hx=>by obtain ⟨v,e,_⟩:=hx;cases e)).mono λ_ _ hx=>by obtain ⟨⟨v,e,r,b⟩,d⟩:=hx;exact ⟨v,e,r,Gr.of b d⟩
def Al {α β:Type} (R:α->β->Prop):List α->List β->Prop
 | [], []=>True
 | a::l,b::m=>R a b/\Al R l m
 | _,_=>False
theorem Al.len {α β:Type} {R:α->β->Prop} : ∀ {l:List α} {m:List β},Al R l m->l.length=m.length
 | [], [],_=>rfl
 | _::_,_::_,h=>by simp [h.2.len]
 | [],_::_,h=>h.elim
 | _::_, [],h=>h.elim
theorem Al.app {α β:Type} {R:α->β->Prop} : ∀ {l:List α} {m:List β} {l' : List α} {m' : List β},Al R l m->Al R l' m'->Al R (l++l') (m++m')
 | [], [],_,_,_,h=>h
 | _::_,_::_,_,_,h,h'=>⟨h.1,h.2.app h'⟩
 | [],_::_,_,_,h,_=>h.elim
 | _::_, [],_,_,h,_=>h.elim
theorem Al.get {α β:Type} {R:α->β->Prop} : ∀ {l:List α} {m:List β},Al R l m->∀ i,(h:i<l.length)->(h' : i<m.length)->R l[i] m[i]
 | [], [],_,i,h,_=>by simp at h
 | _::_,_::_,h,0,_,_=>h.1
 | _::_,_::_,h,i+1,h1,h2=>h.2.get i (by simpa using h1) (by simpa using h2)
 | [],_::_,h,_,_,_=>h.elim
 | _::_, [],h,_,_,_=>h.elim
theorem Al.of {α β:Type} {R:α->β->Prop} : ∀ {l:List α} {m:List β},l.length=m.length->(∀ i,(h:i<l.length)->(h' : i<m.length)->R l[i] m[i])->Al R l m
 | [], [],_,_=>trivial
 | a::l,b::m,h,hr=>⟨hr 0 (by simp) (by simp),Al.of (by simpa using h) λi h1 h2=>hr (i+1) (by simpa using h1) (by simpa using h2)⟩
 | [],_::_,h,_=>by simp at h
 | _::_, [],h,_=>by simp at h
theorem Al.mono {α β:Type} {R R' : α->β->Prop} (hR:∀ a b,R a b->R' a b):∀ {l:List α} {m:List β},Al R l m->Al R' l m
 | [], [],_=>trivial
 | _::_,_::_,h=>⟨hR _ _ h.1,h.2.mono hR⟩
 | [],_::_,h=>h.elim
 | _::_, [],h=>h.elim
theorem Al.flat {α β:Type} {R:α->β->Prop} : ∀ {l:List (List α)} {m:List (List β)},Al (Al R) l m->Al R l.flatten m.flatten
 | [], [],_=>trivial
 | _::_,_::_,h=>by rw [List.flatten_cons,List.flatten_cons];exact h.1.app h.2.flat
 | [],_::_,h=>h.elim
 | _::_, [],h=>h.elim
theorem Al.Oj {α β:Type} {R:α->β->Prop} {l:List α} {m:List β} (h:Al R l m) {a:α} (ha:a∈l):∃ b∈m,R a b:=by
 obtain ⟨i,hi,rfl⟩:=List.mem_iff_getElem.1 ha
 have hl:=h.len
 exact ⟨m[i],jD (by omega),h.get i hi (by omega)⟩
def gU (C:Nat->Prop) (w:World) (v:Value) (vs:List Sv.Val):Prop:=(v = .slice none 0 0/\vs = [])\/∃ b off c,v = .slice (some ⟨b,off,none⟩) vs.length c/\C b/\Hv w b off vs
theorem gU.bel {C:Nat->Prop} {w w' : World} {v:Value} {r:List Sv.Val} (h:gU C w v r) (g:RowKit.Below w.heap.size w w'):gU C w' v r:=by
 rcases h with h | ⟨b,o,c,e,hb,hv⟩
 ·exact .inl h
 ·exact .inr ⟨b,o,c,e,hb,hv.below g g.size hv.lb⟩
theorem gU.to {C D:Nat->Prop} {w:World} {v:Value} {r:List Sv.Val} (h:gU C w v r) (hd:∀ b,C b->b<w.heap.size->D b):gU D w v r:=by
 rcases h with h | ⟨b,o,c,e,hb,hv⟩
 ·exact .inl h
 ·exact .inr ⟨b,o,c,e,hd b hb hv.lb,hv⟩
theorem gU.rw {C:Nat->Prop} {w:World} {v:Value} {r:List Sv.Val} (h:gU C w v r):Rw w.heap.size w v r:=h.to λ_ _ hb=>hb
theorem gU.one {C:Nat->Prop} {w:World} {v:Value} {r:List Sv.Val} (h:gU C w v r):v.oneCell'=true:=by
 rcases h with ⟨e,_⟩ | ⟨b,o,c,e,_⟩ <;> rw [e] <;> rfl
def xN (C:Nat->Prop) (w:World) (v:Value) (rows:List (List Sv.Val)):Prop:=∃ xs,sI w v xs/\Al (gU C w) xs rows
theorem xN.bel {C:Nat->Prop} {w w' : World} {v:Value} {rows:List (List Sv.Val)} (h:xN C w v rows) (g:RowKit.Below w.heap.size w w'):xN C w' v rows:=by
 obtain ⟨xs,h1,h2⟩:=h
 exact ⟨xs,h1.below g,h2.mono λa b hr=>hr.bel g⟩
theorem xN.nil (C:Nat->Prop) (w:World):xN C w (.slice none 0 0) []:=⟨[], .inl ⟨rfl,rfl⟩,trivial⟩
theorem xN.to {C D:Nat->Prop} {w:World} {v:Value} {rows:List (List Sv.Val)} (h:xN C w v rows) (hd:∀ b,C b->b<w.heap.size->D b):xN D w v rows:=by
 obtain ⟨xs,h1,h2⟩:=h
 exact ⟨xs,h1,h2.mono λa b hr=>hr.to hd⟩
def dS (base k:Nat) (w:World) (v:Value) (rows:List (List Sv.Val)):Prop:=
 (rows = []/\v = .slice none 0 0)\/∃ blk c,v = .slice (some ⟨blk,0,none⟩) rows.length (rows.length+c)/\base<=blk/\blk<w.heap.size/\RL blk 0 k w rows
theorem dS.lrs {base k:Nat} {w:World} {v:Value} {rows:List (List Sv.Val)} (h:dS base k w v rows):xN (λ_=>True) w v rows:=by
 rcases h with ⟨rfl,rfl⟩ | ⟨blk,c,rfl,h1,h2,h3⟩
 ·exact xN.nil _ w
 ·refine ⟨List.ofFn (n:=rows.length) λj=>Classical.choose (h3 j.1 j.2), .inr ⟨blk,0,_,by simp;rfl,h2,λi hi=>?_⟩,Al.of (by simp) λi h4 h5=>?_⟩
  ·simp only [List.getElem_ofFn]
   exact (Classical.choose_spec (h3 i (by simpa using hi))).1
  ·simp only [List.getElem_ofFn]
   exact (Classical.choose_spec (h3 i h5)).2.2.1.rw.elim .inl λ⟨b,o,c,e,_,hv⟩ => .inr ⟨b,o,c,e,trivial,hv⟩
theorem xN.tkn {C:Nat->Prop} {w:World} {v:Value} {rows:List (List Sv.Val)} (h:xN C w v rows):BW w rows v:=by
 obtain ⟨xs,h1,h2⟩:=h
 have hl:=h2.len
 rcases h1 with ⟨rfl,rfl⟩ | ⟨blk,o,c,rfl,hb,hc⟩
 ·refine ⟨none,0,by rw [<- hl];rfl,λhne=>absurd (Av (by rw [<- hl];rfl)) hne⟩
 ·exact ⟨_,c,by rw [hl],λ_=>⟨blk,o,rfl,hb,λi hi=>⟨xs[i]'(by omega),hc i (by omega),(h2.get i (by omega) hi).rw⟩⟩⟩
theorem jA {β:Type} (P:Nat->β->Prop):∀ n,(∀ i,i<n->∃ b,P i b)->∃ l:List β,l.length=n/\∀ i,(h:i<l.length)->P i l[i]
 | 0,_=>⟨[],rfl,λi h=>by simp at h⟩
 | n+1,h=>by
  obtain ⟨l,h1,h2⟩:=jA P n λi hi=>h i (by omega)
  obtain ⟨b,hb⟩:=h n (by omega)
  refine ⟨l ++ [b],by simp [h1],λi hi=>?_⟩
  by_cases e:i<l.length
  ·rw [List.getElem_append_left e];exact h2 i e
  ·have:i=l.length:=by simp at hi;omega
   subst this
   rw [List.getElem_append_right (aF _)]
   simp only [Nat.sub_self,List.getElem_cons_zero]
   rw [h1];exact hb
theorem rW {C:Nat->Prop} {b off n c:Nat} {vs:List Value} {q7:List (List (List Sv.Val))} {w:World} (hz:n=vs.length) (hz2:q7.length=vs.length) (hb:b<w.heap.size) (hc:∀ j,(h:j<vs.length)->w.cell? ⟨b,off+j,none⟩=some vs[j])
  (hs:∀ j,(h:j<vs.length)->xN C w vs[j] (q7[j]'(by omega))) (hbig:q7.flatten.length<=100000) (hn:n<=1000) :
  Calls Tryz.prog 190 #[.slice (some ⟨b,off,none⟩) n c] w λe w'=>∃ v,e = .returned v/\(∃ xs,w'.ownsRow w.heap.size 41 1 v xs.length xs/\(xs = []->v = .slice none 0 0)/\Al (gU C w') xs q7.flatten)/\RowKit.Below w.heap.size w w':=by
 obtain ⟨ls,hl1,hl2⟩:=jA (λj (xs:List Value)=>∃ h:j<vs.length,sI w vs[j] xs/\Al (gU C w) xs (q7[j]'(by omega))) vs.length (λj hj=>by obtain ⟨xs,h1,h2⟩:=hs j hj;exact ⟨xs,hj,h1,h2⟩)
 have hal:Al (Al (gU C w)) ls q7:=Al.of (by omega) λi h1 h2=>by obtain ⟨_,_,h⟩:=hl2 i h1;exact h
 have hfl:=hal.flat
 have hlen:=hfl.len
 refine (BV b off n c vs ls w hz hl1 hb hc (λj hj=>?_) (λl hl u hu=>?_) (by omega) hn).mono ?_
 ·rw [rI (by omega),Option.getD_some]
  exact (hl2 j (by omega)).2.1
 ·have:u∈ls.flatten:=List.mem_flatten.2 ⟨l,hl,hu⟩
  obtain ⟨r,_,hr⟩:=hfl.Oj this
  exact hr.one
 ·rintro e w' ⟨v,rfl,o,hnil,hbel⟩
  exact ⟨v,rfl,⟨ls.flatten,o,hnil,hfl.mono λa b hr=>hr.bel hbel⟩,hbel⟩
theorem RL.owned {base k:Nat} {w:World} {v:Value} {xs:List Value} {rows:List (List Sv.Val)} (o:w.ownsRow base 41 1 v xs.length xs) (hne:xs ≠ []) (ha:Al (gU (·<base) w) xs rows) (hk:∀ r∈rows,r.length=k):∃ blk c,v = .slice (some ⟨blk,0,none⟩) xs.length c/\base<=blk/\blk<w.heap.size/\RL blk 0 k w rows:=by
 have hb:=aB o
 have ho:=o
 obtain ⟨hl,h | ⟨g,cap,cur,hv,h0,hc,r1,r2,r3,r4⟩⟩:=o
 ·exact absurd (Av h.2) hne
 ·subst hv
  have hg:=(hb g rfl).2
  have hln:=ha.len
  refine ⟨g,cap,rfl,h0,hg,λj hj=>?_⟩
  have V7:j<xs.length:=by omega
  have hcell:w.cell? ⟨g,0+j,none⟩=some xs[j]:=by rw [Nat.zero_add];exact bO ho j xs[j] (rI V7)
  refine ⟨xs[j],hcell,by simp [World.frozen?,hc],?_,hk _ (jD hj)⟩
  rcases ha.get j V7 hj with h | ⟨b,o,c,e,hb',hv⟩
  ·exact .inl h
  ·exact .inr ⟨b,o,c,e,by omega,hv⟩
theorem oR {C:Nat->Prop} {b off n c k:Nat} {vs:List Value} {q7:List (List (List Sv.Val))} {w:World} (hz:n=vs.length) (hz2:q7.length=vs.length) (hb:b<w.heap.size) (hc:∀ j,(h:j<vs.length)->w.cell? ⟨b,off+j,none⟩=some vs[j])
  (hs:∀ j,(h:j<vs.length)->xN C w vs[j] (q7[j]'(by omega))) (hbig:q7.flatten.length<=100000) (hn:n<=1000) (hk:k<=100000) (hw:∀ r∈q7.flatten,r.length=k) :
  Calls Tryz.prog 198 #[.slice (some ⟨b,off,none⟩) n c] w λe w'=>∃ v,e = .returned v/\dS w.heap.size k w' v (aI q7.flatten)/\Gr w w':=by
 apply xM
 have HC:=hid (rW (C:=(·<w.heap.size)) (c:=c) hz hz2 hb hc (λj h=>(hs j h).to λ_ _ hb=>hb) hbig hn)
 clear hz hz2 hb hc hs hn
 generalize q7.flatten=rows at *
 have HW:=hid hw
 clear hw
 go_enter Tryz.func198,Tryz.ntmps198
 go_wp2_with fail
 refine HC.out.mono ?_
 rintro e w1 ⟨v,rfl,⟨xs,o,hnil,ha⟩,hbel⟩
 clear HC
 have hln:=ha.len
 by_cases hx:xs = []
 ·obtain rfl:=hnil hx
  have HR:Hid (rows = []):=Av (by rw [<- hln,hx];rfl)
  clear o hnil ha hln hx
  have HB:=hid hbel
  clear hbel
  go_wp2_with fail
  refine (JP w1).mono ?_
  rintro e w2 ⟨rfl,g2⟩
  have HB2:=hid (HB.out.trans (g2.below.mono HB.out.size))
  clear g2
  go_wp2_with fail
  go_ret
  exact ⟨_,rfl, .inl ⟨by rw [HR.out];simp [aI],rfl⟩,HB2.out⟩
 ·obtain ⟨blk,cc,rfl,h1,h2,hRL⟩:=RL.owned o hx ha HW.out
  have hpos:0<xs.length:=List.length_pos_iff.2 hx
  have hcc:xs.length<=cc:=by
   obtain ⟨_,h | ⟨_,_,_,e,_,_,r,_⟩⟩:=o
   ·cases h.1
   ·injection e with _ _ e;omega
  have HS:=hid (JN blk 0 xs.length cc k w1 rows hk hln hpos (by omega) h2 hRL)
  have HL:=hid hln
  have HB:=hid hbel
  clear o hnil ha hRL hbel hx hln
  go_wp2_with fail
  refine HS.out.mono ?_
  rintro e w2 ⟨rfl,kp,rl⟩
  have HB2:Hid (RowKit.Below w.heap.size w w2):=⟨kp.os.trans HB.out.os,kp.tape.trans HB.out.tape,kp.output.trans HB.out.output,cE HB.out.size kp.size,λq hq=>(kp.block q (bY hq HB.out.size) (by omega)).trans (HB.out.block q hq)⟩
  have HR:=hid rl
  have hz:=kp.size
  clear kp rl
  go_wp2_with fail
  go_ret
  refine ⟨_,rfl, .inr ⟨blk,cc - xs.length,by rw [(bF rows).length_eq,<- HL.out,Nat.add_sub_cancel' hcc];rfl,h1,by omega,HR.out⟩,HB2.out⟩
end Go.Proofs.YtgnncnhkgmhngaaGreatDoor
