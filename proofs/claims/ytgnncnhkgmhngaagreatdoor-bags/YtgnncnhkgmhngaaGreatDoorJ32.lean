import Derived.Test.YtgnncnhkgmhngaaGreatDoorJ29
set_option maxHeartbeats 4000000
namespace Go.Proofs.YtgnncnhkgmhngaaGreatDoor
open Sp
open Go.RowKit
theorem LD:(Tryz.prog.info? 155).map (λi=>(i.zero,i.size,i.bytes))=some (some (.agg #[.int .i64 0, .int .i64 0, .string ⟨#[]⟩]),3,32):=by kernel_rfl
theorem uC (s:ByteArray) (a:Nat):(s.extract a s.size).data.toList=s.data.toList.drop a:=by
 rw [Lib.extract_data,sD]
 rw [List.length_drop,size_data]
 exact aF _
def sP (s:Sp.Bs) (p:Nat) (wd:Sp.Bs):Prop:=qH s p wd/\(aD s p ≠ .bad->wd=bW s p)
structure gO (s:Sp.Bs) (k:Nat) (xs:List Value) (sQ:List ByteArray):Prop where
 len:sQ.length=k
 xl:xs.length=k*3
 at0:∀ j,(h:j<sQ.length)->xs[j*3]?=some (.int .i64 (kn (aD s (pos s j))))/\xs[j*3+1]?=some (.int .i64 (aO s (pos s j):Nat))/\xs[j*3+2]?=some (.string sQ[j])/\sP s (pos s j) sQ[j].toList
theorem D6 {w w' : World} {base:Nat} {e:TypeId} {size:Nat} {v:Value} {n:Nat} {xs:List Value} (h:w.ownsRow base e size v n xs) (hb:Below w.heap.size w w'):w'.ownsRow base e size v n xs:=by
 obtain ⟨h1,h2⟩:=h
 refine ⟨h1,?_⟩
 rcases h2 with h | ⟨g,cap,cur,hv,hg,hc,r⟩
 ·exact Or.inl h
 ·refine Or.inr ⟨g,cap,cur,hv,hg,?_,r⟩
  have hlt:g<w.heap.size:=by
   rcases Nat.lt_or_ge g w.heap.size with x | x
   ·exact x
   ·rw [Array.getElem?_eq_none x] at hc;cases hc
  rw [hb.block g hlt];exact hc
theorem owns_block {w:World} {base:Nat} {e:TypeId} {size:Nat} {v:Value} {n:Nat} {xs:List Value} (h:w.ownsRow base e size v n xs):∀ k,v.ownBlock=some k->base<=k/\k<w.heap.size:=by
 intro k hk
 rcases h.2 with ⟨rfl,_⟩ | ⟨g,cap,cur,rfl,hg,hc,_⟩
 ·cases hk
 ·have:g=k:=by simpa [Value.ownBlock] using hk
  subst this
  refine ⟨hg,?_⟩
  rcases Nat.lt_or_ge g w.heap.size with x | x
  ·exact x
  ·rw [Array.getElem?_eq_none x] at hc;cases hc
theorem GK {l:Sp.Bs} (h:(Sp.first l).1 ≠ .bad):(Sp.first l).2<=l.length:=by
 cases l with
 | nil=>exact aF _
 | cons c r=>
  cases h1:iP c
  ·cases h2:bV c
   ·cases h3:(c == 39)
    ·rw [kH h1 h2 h3] at h ⊢
     cases ht:aU (c::r) with
     | zero=>rw [ht] at h;exact absurd rfl h
     | succ k=>have:=tF (c::r);rw [ht] at this;exact this
    ·rw [nH h1 h2 h3] at h ⊢
     cases ht:bJ r with
     | none=>rw [ht] at h;exact absurd rfl h
     | some n=>have:=jN r n ht;simp;omega
   ·rw [nG h1 h2];exact nE _ _
  ·rw [kG h1];exact nE _ _
theorem uD {s:Sp.Bs} {k:Nat} {xs:List Value} {sQ:List ByteArray} (h:gO s k xs sQ) {wd:ByteArray} (ok:sP s (pos s k) wd.toList) {x y:Int} (hx:x=kn (aD s (pos s k))) (hy:y=(aO s (pos s k):Nat)) :
  gO s (k+1) (xs ++ [.int .i64 x, .int .i64 y, .string wd]) (sQ ++ [wd]):=by
 subst hx hy
 have hl:=h.len
 have hxl:=h.xl
 refine ⟨by simp [hl],by simp [hxl];omega,λj hj=>?_⟩
 have hj' : j<k+1:=by simpa [hl] using hj
 by_cases e:j=k
 ·subst e
  refine ⟨?_,?_,?_,?_⟩
  ·rw [List.getElem?_append_right (by omega)];simp [hxl]
  ·rw [List.getElem?_append_right (by omega)];simp [hxl]
  ·rw [List.getElem?_append_right (by omega)];simp [hxl,<- hl]
  ·have:(sQ ++ [wd])[j]=wd:=by simp [<- hl]
   rw [this];exact ok
 ·have hlt:j<sQ.length:=by omega
  obtain ⟨a,b,c,d⟩:=h.at0 j hlt
  have:(sQ ++ [wd])[j]=sQ[j]:=List.getElem_append_left hlt
  rw [this]
  refine ⟨?_,?_,?_,d⟩
  ·rw [List.getElem?_append_left (by omega)];exact a
  ·rw [List.getElem?_append_left (by omega)];exact b
  ·rw [List.getElem?_append_left (by omega)];exact c
theorem GL (s:ByteArray) (p m:Nat) (hm:many isSp (s.data.toList.drop p)=m) {wd:ByteArray} (tw:TW (s.extract (p+m) s.size).data.toList wd.toList) :
  (Sp.first (s.extract (p+m) s.size).data.toList).1=aD s.data.toList p/\aO s.data.toList p=p+m/\sP s.data.toList p wd.toList/\(aD s.data.toList p ≠ .bad->p+m<=s.size->fE s.data.toList p=p+m+wd.size/\p+m+wd.size<=s.size):=by
 have ha:aO s.data.toList p=p+m:=by unfold aO;rw [hm]
 have e:=uC s (p+m)
 rw [e] at tw ⊢
 have hc:(Sp.first (s.data.toList.drop (p+m))).1=aD s.data.toList p:=by unfold aD;rw [ha]
 refine ⟨hc,ha,?_,?_⟩
 ·refine ⟨?_,λhb=>?_⟩
  ·intro x hx
   rw [tw.ok x hx,hc]
   unfold bW lG
   rw [ha]
  ·rw [tw.eq (by rw [hc];exact hb)]
   unfold bW lG
   rw [ha]
 ·intro hb hle
  have h1:=tw.eq (by rw [hc];exact hb)
  have h2:=GK (l:=s.data.toList.drop (p+m)) (by rw [hc];exact hb)
  have h3:=congrArg List.length h1
  rw [List.length_take,pD,size_data] at h3
  have h4:fE s.data.toList p=p+m+(Sp.first (s.data.toList.drop (p+m))).2:=by unfold fE lG;rw [ha]
  rw [List.length_drop,size_data] at h2
  rw [List.length_drop,size_data] at h3
  rw [h4]
  omega
theorem Oe (w:World) (o:Obj) (x y z:Value) (t:TypeId):∀ j u, [x,y,z][j]?=some u->((w.alloc o).alloc (.cells #[x,y,z] t)).cell? (Addr.add ⟨w.heap.size+1,0,none⟩ j)=some u:=by
 intro j u hj
 have e:Addr.add ⟨w.heap.size+1,0,none⟩ j=⟨(w.alloc o).heap.size,j,none⟩:=by simp [Addr.add];omega
 rw [e,oZ,<- hj]
 simp
theorem behind {w2 w3:World} {o:Obj} {x y z:Value} {t:TypeId} {row:Option Nat} (hg:((w2.alloc (.cells #[x,y,z] t)).alloc o).grownBy w3 row) (hr:∀ k,row=some k->k<w2.heap.size) :
  w3.cell? ⟨w2.heap.size,0,none⟩=some x/\w3.cell? ⟨w2.heap.size,2,none⟩=some z:=by
 have hb:w3.heap[w2.heap.size]?=((w2.alloc (.cells #[x,y,z] t)).alloc o).heap[w2.heap.size]?:=hg.block _ (by simp;omega) (λe=>by have:=hr _ e.symm;omega)
 have hc:∀ i,w3.cell? ⟨w2.heap.size,i,none⟩=#[x,y,z][i]?:=λi=>by
  rw [fB (w:=(w2.alloc (.cells #[x,y,z] t)).alloc o) (a:=⟨w2.heap.size,i,none⟩) hb,World.cell?_alloc_lt _ _ _ (by simp),oZ]
 exact ⟨hc 0,hc 2⟩
theorem kO {base:Nat} {w w2 w3:World} {o o' : Obj} {row:Option Nat} (h:Below base w w2) (hbase:base<=w2.heap.size) (hg:((w2.alloc o).alloc o').grownBy w3 row) (hr:∀ k,row=some k->base<=k):Below base w w3:=
 ((h.alloc hbase _).alloc (by simp;omega) _).grown hg (by simp;omega) hr
theorem Na {s:Sp.Bs} {k:Nat} (hk:k<=2000) (h:∀ j,j<k->aD s (pos s j) ≠ .fin/\aD s (pos s j) ≠ .bad) (hl:aD s (pos s k) = .fin\/aD s (pos s k) = .bad):TK s (k+1):=
 ⟨by omega,by omega,λj hj=>h j (by omega),λj hj=>by obtain rfl:j=k:=(by omega);exact hl⟩
theorem GM (s:ByteArray) (w:World) (hs:s.size<=2000) (hr:VR w) :
  Calls Tryz.prog 47 #[.string s] w λe w'=>∃ (g len cap:Nat) (xs:List Value) (sQ:List ByteArray),e = .returned (.slice (some ⟨g,0,none⟩) len cap)/\TK s.data.toList len/\w.heap.size<=g/\w'.ownsRow w.heap.size 155 3 (.slice (some ⟨g,0,none⟩) len cap) len xs/\gO s.data.toList len xs sQ/\Below w.heap.size w w':=by
 obtain ⟨i0,hi,hz0,hz1,hz2⟩:=info_parts LD
 have hmax:s.size<=maxLen:=by unfold maxLen;omega
 go_enter Tryz.func47,Tryz.ntmps47
 go_wp2_with fail
 go_loopg [3,4] (s.size+1) (λgm v x wr=>∃ (k:Nat) (xs:List Value) (sQ:List ByteArray),x = .int .i64 (pos s.data.toList k:Nat)/\pos s.data.toList k<=s.size/\k<=pos s.data.toList k/\s.size+1 - pos s.data.toList k<=gm/\Hid (∀ j,j<k->aD s.data.toList (pos s.data.toList j) ≠ .fin/\aD s.data.toList (pos s.data.toList j) ≠ .bad)/\Hid (wr.ownsRow w.heap.size 155 3 v k xs)/\Hid (gO s.data.toList k xs sQ)/\Hid (Below w.heap.size w wr))
 case atStart=>exact ⟨0, [], [],rfl,fO _,aF _,by simp [pos],λj hj=>absurd hj (Nat.not_lt_zero _),World.ownsRow_nil _ _ _ _,⟨rfl,rfl,λj hj=>absurd hj (by simp)⟩,Below.refl _ _⟩
 case round=>
  obtain ⟨k,xs,sQ,rfl,hpk,hkp,hgm,HM,HO,HC,HB⟩:=hrel
  have ed:=uC s (pos s.data.toList k)
  have HS:Hid (many isSp (s.extract (pos s.data.toList k) s.size).data.toList=many isSp (s.data.toList.drop (pos s.data.toList k))):=by show _=_;rw [ed]
  have hsz:(s.extract (pos s.data.toList k) s.size).size<=maxLen:=by
   have:=congrArg List.length ed;rw [size_data,List.length_drop,size_data] at this;unfold maxLen;omega
  have hat:pos s.data.toList k+many isSp (s.data.toList.drop (pos s.data.toList k))<=s.size:=by
   have:=nE isSp (s.data.toList.drop (pos s.data.toList k));rw [List.length_drop,size_data] at this;omega
  clear ed
  generalize hpp:pos s.data.toList k=p at *
  have GN:=hid hpp
  clear hpp
  go_wp2_with fail
  refine (sZ _ _ hsz).mono ?_
  rintro r w1 ⟨rfl,rfl⟩
  rw [HS.out]
  generalize hmm:many isSp (s.data.toList.drop p)=m at *
  have VW:=hid hmm
  clear hmm
  go_wp2_with fail
  have hr1:VR w1:=by
   obtain ⟨te,pe,x,y⟩:=hr
   exact ⟨te,pe,(HB.out.cell (p:=⟨1,0,none⟩) y).trans x,bY y HB.out.size⟩
  have hs2:(s.extract (p+m) s.size).size<=100000:=by
   have:=congrArg List.length (uC s (p+m));rw [size_data,List.length_drop,size_data] at this;omega
  refine (tI _ _ hs2 hr1).mono ?_
  clear hr1 hs2
  rintro r w2 ⟨wd,rfl,tw,hb2⟩
  obtain ⟨VX,VY,VZ,V0⟩:=GL s p m VW.out tw
  have Jw:Hid (aO s.data.toList p=p+m/\sP s.data.toList p wd.toList/\(aD s.data.toList p ≠ .bad->p+m<=s.size->fE s.data.toList p=p+m+wd.size/\p+m+wd.size<=s.size)):=⟨VY,VZ,V0⟩
  rw [VX]
  have HB2:Hid (Below w.heap.size w w2):=HB.out.trans (hb2.mono HB.out.size)
  have fN:Hid (w2.ownsRow w.heap.size 155 3 u3 k xs):=D6 HO.out hb2
  clear tw hb2 VX VY VZ V0 HO HB HS VW
  by_cases hfin:aD s.data.toList p = .fin
  ·have hk0:(kn (aD s.data.toList p) == 0)=true:=by rw [hfin];rfl
   have HL:Hid (aD s.data.toList p = .fin\/aD s.data.toList p = .bad):=Or.inl hfin
   clear hfin
   go_wp2_with (at_builtin;refine wpList_append_own _ rfl (.tmp 18) (.tmp 20) 117 rfl w.heap.size 155 i0 (.agg #[.int .i64 0, .int .i64 0, .string ⟨#[]⟩]) 3 32 Tryz.underlying117 hi hz0 hz1 hz2 rfl (by decide) _ _ _ rfl ((fN.out.alloc _).alloc _) ⟨w2.heap.size+1,0,none⟩ 1 1 [.int .i64 (kn (aD s.data.toList p)), .int .i64 ((p:Int)+(m:Int)), .string wd] rfl rfl ?c1 ?c2 ?c3 ?c4 ?c5 ?_)
   case c1=>exact Oe _ _ _ _ _ _
   case c2=>intro u hu;simp at hu;rcases hu with rfl | rfl | rfl <;> rfl
   case c3=>unfold maxLen;omega
   case c4=>omega
   case c5=>have:=HB2.out.size;simp;omega
   intro v' w3 hown' hgrow hnil
   obtain ⟨c0,c2⟩:=behind hgrow (λk e=>(owns_block fN.out k e).2)
   have HB3:Hid (Below w.heap.size w w3):=kO HB2.out HB2.out.size hgrow (λk e=>(owns_block fN.out k e).1)
   have jG:=hid hown'
   have zA:Hid (gO s.data.toList (k+1) (xs ++ [.int .i64 (kn (aD s.data.toList p)), .int .i64 ((p:Int)+(m:Int)), .string wd]) (sQ ++ [wd])):=uD HC.out (by rw [GN.out];exact Jw.out.2.1) (by rw [GN.out]) (by rw [GN.out,Jw.out.1];rfl)
   clear hown' hgrow hnil HC fN HB2
   go_wp2_with fail
   have hv:∃ g cap,v' = .slice (some ⟨g,0,none⟩) (k+1) cap/\w.heap.size<=g:=by
    rcases jG.out.2 with ⟨_,h⟩ | ⟨g,cap,_,hv,hg,_⟩
    ·cases h
    ·exact ⟨g,cap,hv,hg⟩
   obtain ⟨g,cap,hv,hg⟩:=hv
   rw [hv]
   have vJ:Hid (w3.ownsRow w.heap.size 155 3 (.slice (some ⟨g,0,none⟩) (k+1) cap) (k+1) (xs ++ [.int .i64 (kn (aD s.data.toList p)), .int .i64 ((p:Int)+(m:Int)), .string wd])):=by rw [<- hv];exact jG.out
   go_ret
   exact ⟨g,k+1,cap,_,_,rfl,Na (by omega) HM.out (by rw [GN.out];exact HL.out),hg,vJ.out,zA.out,HB3.out⟩
  ·by_cases hbad:aD s.data.toList p = .bad
   ·have hk0:(kn (aD s.data.toList p) == 0)=false:=by rw [hbad];rfl
    have hk1:(kn (aD s.data.toList p) == 1)=true:=by rw [hbad];rfl
    have HL:Hid (aD s.data.toList p = .fin\/aD s.data.toList p = .bad):=Or.inr hbad
    clear hfin hbad
    go_wp2_with (at_builtin;refine wpList_append_own _ rfl (.tmp 18) (.tmp 20) 117 rfl w.heap.size 155 i0 (.agg #[.int .i64 0, .int .i64 0, .string ⟨#[]⟩]) 3 32 Tryz.underlying117 hi hz0 hz1 hz2 rfl (by decide) _ _ _ rfl ((fN.out.alloc _).alloc _) ⟨w2.heap.size+1,0,none⟩ 1 1 [.int .i64 (kn (aD s.data.toList p)), .int .i64 ((p:Int)+(m:Int)), .string wd] rfl rfl ?c1 ?c2 ?c3 ?c4 ?c5 ?_)
    case c1=>exact Oe _ _ _ _ _ _
    case c2=>intro u hu;simp at hu;rcases hu with rfl | rfl | rfl <;> rfl
    case c3=>unfold maxLen;omega
    case c4=>omega
    case c5=>have:=HB2.out.size;simp;omega
    intro v' w3 hown' hgrow hnil
    obtain ⟨c0,c2⟩:=behind hgrow (λk e=>(owns_block fN.out k e).2)
    have HB3:Hid (Below w.heap.size w w3):=kO HB2.out HB2.out.size hgrow (λk e=>(owns_block fN.out k e).1)
    have jG:=hid hown'
    have zA:Hid (gO s.data.toList (k+1) (xs ++ [.int .i64 (kn (aD s.data.toList p)), .int .i64 ((p:Int)+(m:Int)), .string wd]) (sQ ++ [wd])):=uD HC.out (by rw [GN.out];exact Jw.out.2.1) (by rw [GN.out]) (by rw [GN.out,Jw.out.1];rfl)
    clear hown' hgrow hnil HC fN HB2
    go_wp2_with fail
    have hv:∃ g cap,v' = .slice (some ⟨g,0,none⟩) (k+1) cap/\w.heap.size<=g:=by
     rcases jG.out.2 with ⟨_,h⟩ | ⟨g,cap,_,hv,hg,_⟩
     ·cases h
     ·exact ⟨g,cap,hv,hg⟩
    obtain ⟨g,cap,hv,hg⟩:=hv
    rw [hv]
    have vJ:Hid (w3.ownsRow w.heap.size 155 3 (.slice (some ⟨g,0,none⟩) (k+1) cap) (k+1) (xs ++ [.int .i64 (kn (aD s.data.toList p)), .int .i64 ((p:Int)+(m:Int)), .string wd])):=by rw [<- hv];exact jG.out
    go_ret
    exact ⟨g,k+1,cap,_,_,rfl,Na (by omega) HM.out (by rw [GN.out];exact HL.out),hg,vJ.out,zA.out,HB3.out⟩
   ·have hk0:(kn (aD s.data.toList p) == 0)=false:=by revert hfin;cases aD s.data.toList p <;> simp [kn]
    have hk1:(kn (aD s.data.toList p) == 1)=false:=by revert hbad;cases aD s.data.toList p <;> simp [kn]
    have HL:Hid (aD s.data.toList p ≠ .fin/\aD s.data.toList p ≠ .bad):=⟨hfin,hbad⟩
    obtain ⟨te,tz⟩:=Jw.out.2.2 hbad hat
    have hgt:=m9 hfin hbad
    have SD:Hid (pos s.data.toList (k+1)=p+m+wd.size):=by show fE s.data.toList (pos s.data.toList k)=_;rw [GN.out];exact te
    have Yp : p<p+m+wd.size:=by rw [<- te];exact hgt
    clear hfin hbad te hgt
    go_wp2_with (at_builtin;refine wpList_append_own _ rfl (.tmp 18) (.tmp 20) 117 rfl w.heap.size 155 i0 (.agg #[.int .i64 0, .int .i64 0, .string ⟨#[]⟩]) 3 32 Tryz.underlying117 hi hz0 hz1 hz2 rfl (by decide) _ _ _ rfl ((fN.out.alloc _).alloc _) ⟨w2.heap.size+1,0,none⟩ 1 1 [.int .i64 (kn (aD s.data.toList p)), .int .i64 ((p:Int)+(m:Int)), .string wd] rfl rfl ?c1 ?c2 ?c3 ?c4 ?c5 ?_)
    case c1=>exact Oe _ _ _ _ _ _
    case c2=>intro u hu;simp at hu;rcases hu with rfl | rfl | rfl <;> rfl
    case c3=>unfold maxLen;omega
    case c4=>omega
    case c5=>have:=HB2.out.size;simp;omega
    intro v' w3 hown' hgrow hnil
    obtain ⟨c0,c2⟩:=behind hgrow (λk e=>(owns_block fN.out k e).2)
    have HB3:Hid (Below w.heap.size w w3):=kO HB2.out HB2.out.size hgrow (λk e=>(owns_block fN.out k e).1)
    have jG:=hid hown'
    have zA:Hid (gO s.data.toList (k+1) (xs ++ [.int .i64 (kn (aD s.data.toList p)), .int .i64 ((p:Int)+(m:Int)), .string wd]) (sQ ++ [wd])):=uD HC.out (by rw [GN.out];exact Jw.out.2.1) (by rw [GN.out]) (by rw [GN.out,Jw.out.1];rfl)
    clear hown' hgrow hnil HC fN HB2
    go_wp2_with fail
    obtain ⟨gm,rfl⟩:∃ x,gk=x+1:=⟨gk - 1,by omega⟩
    go_roundg gm
    case measure=>omega
    case rel=>exact ⟨k+1,_,_,by rw [SD.out];go_num,by rw [SD.out];exact tz,by rw [SD.out];omega,by rw [SD.out];omega,λj hj=>by
     by_cases e:j=k
     ·subst e;rw [GN.out];exact HL.out
     ·exact HM.out j (by omega),jG.out,zA.out,HB3.out⟩
theorem Of (w:World) (c:Array Value) (t:TypeId) (o:Nat):(w.alloc (.cells c t)).frozen? ⟨w.heap.size,o,none⟩=false:=by go_simp
theorem nM.frame {w w' : World} (hs:w.heap.size<=w'.heap.size):∀ {z:wB} {lo hi:Nat} {v:Value},nM w z lo hi v->aQ v->(∀ k,lo<=k->k<hi->w'.heap[k]?=w.heap[k]?)->nM w' z lo hi v
 | .create t cols,lo,hi,v,h,_,hk=>by
  obtain ⟨p,e,q,sl,e',a1,a2,a3,a4⟩:=h
  exact ⟨p,e,q,sl,e',a1,a2,a3.same hs (hk q a1 a2),a4.frame hk⟩
 | .drop t,lo,hi,v,h,_,hk=>by
  obtain ⟨q,e,a1,a2,a3⟩:=h
  exact ⟨q,e,a1,a2,a3.same hs (hk q a1 a2)⟩
 | .dH a t rows,lo,hi,v,h,_,hk=>by
  obtain ⟨p,e,q,sl,e',a1,a2,a3,a4⟩:=h
  exact ⟨p,e,q,sl,e',a1,a2,a3.same hs (hk q a1 a2),a4.frame (λn x m1 m2 hp hk=>fL.frame hs n x m1 m2 hp hk) λk h1 h2=>hk k (by omega) h2⟩
 | .eO a t nd,lo,hi,v,h,_,hk=>by
  obtain ⟨p,e,q,y,e',a1,a2,a3,a4,a5⟩:=h
  exact ⟨p,e,q,y,e',a1,a2,a3.same hs (hk q a1 a2),a4,a5.frame hs _ _ _ _ (λk h1 h2=>hk k (by omega) h2) (λblk off n c ee=>(a4.bC _ _ _ ee).elim)⟩
 | .delete t wh,lo,hi,v,h,_,hk=>by
  obtain ⟨q,pv,e,a1,a2,a3,⟨pa,rfl⟩,a5⟩:=h
  exact ⟨q, .pointer pa,e,a1,a2,a3.same hs (hk q a1 a2),⟨pa,rfl⟩,a5.frame hs _ _ _ _ (λk h1 h2=>hk k h1 (by omega)) (λblk off n c ee=>by cases ee)⟩
 | .update t sets wh,lo,hi,v,h,_,hk=>by
  obtain ⟨p,e,q,sl,pv,mid,e',a1,a2,a3,a4,a5,⟨pa,rfl⟩,a7⟩:=h
  exact ⟨p,e,q,sl, .pointer pa,mid,e',a1,a2,a3,a4.same hs (hk q (by omega) a3),a5.frame (λn x m1 m2 hp hk=>lA.frame hs n x m1 m2 hp hk) λk h1 h2=>hk k h1 (by omega),⟨pa,rfl⟩,a7.frame hs _ _ _ _ (λk h1 h2=>hk k (by omega) (by omega)) (λblk off n c ee=>by cases ee)⟩
 | .trans z,lo,hi,v,h,_,hk=>by
  obtain ⟨q,e,a1,a2,a3⟩:=h
  exact ⟨q,e,a1,a2,a3.same hs (hk q a1 a2)⟩
 | .query nd,lo,hi,v,h,hv,hk=>Rp.frame hs _ _ _ _ h hk (λblk off n c ee=>(hv.bC _ _ _ ee).elim)
theorem Jy {s:ByteArray} {w w1:World} {g len cap:Nat} {xs:List Value} {sQ:List ByteArray} (tk:TK s.data.toList len) (h5:5<w.heap.size) (vm:∃ m:Int,w1.cell? ⟨5,0,none⟩=some (.int .i64 m)) (hz:w.heap.size<=w1.heap.size) (hown:w1.ownsRow w.heap.size 155 3 (.slice (some ⟨g,0,none⟩) len cap) len xs) (tc:gO s.data.toList len xs sQ) :
  PS w1.heap.size g cap len s.data.toList 0 (.live 0) (w1.alloc (.cells #[.slice (some ⟨g,0,none⟩) len cap, .int .i64 0, .int .i64 0, .int .i64 0, .int .i64 0] 120)):=by
 have hg:=(owns_block hown g rfl).2
 have hc:∀ o,(w1.alloc (.cells #[.slice (some ⟨g,0,none⟩) len cap, .int .i64 0, .int .i64 0, .int .i64 0, .int .i64 0] 120)).cell? ⟨w1.heap.size,o,none⟩=#[Value.slice (some ⟨g,0,none⟩) len cap, .int .i64 0, .int .i64 0, .int .i64 0, .int .i64 0][o]?:=λo=>oZ _ _ _ _
 have hcell:∀ i,i<len*3->(w1.alloc (.cells #[.slice (some ⟨g,0,none⟩) len cap, .int .i64 0, .int .i64 0, .int .i64 0, .int .i64 0] 120)).cell? ⟨g,i,none⟩=xs[i]?:=by
  intro i hi
  rw [World.cell?_alloc_lt _ _ _ hg]
  rcases hown.2 with ⟨h,_⟩ | ⟨g',cap',cur,hv,_,hb,hn,_,hsz,htk⟩
  ·cases h
  ·injection hv with h1 h2 h3
   injection h1 with h1
   injection h1 with h1
   subst h1
   rw [<- htk,List.getElem?_take_of_lt hi]
   simp [World.cell?,hb]
 refine ⟨by simp,by simp;omega,by omega,tk,hc 0,⟨0,⟨tk.one,rfl⟩,hc 1⟩,hc 2,hc 3,hc 4,λo=>?_,λj hj=>?_,⟨by have:=(owns_block hown g rfl).1;omega,by omega⟩,?_⟩
 ·exact Of _ _ _ _
 ·have hj' : j<sQ.length:=by rw [tc.len];exact hj
  obtain ⟨a,b,c,d⟩:=tc.at0 j hj'
  exact ⟨sQ[j],(hcell _ (by omega)).trans a,(hcell _ (by omega)).trans b,(hcell _ (by omega)).trans c,d.1,d.2⟩
 ·obtain ⟨m,hm⟩:=vm
  exact ⟨m,(World.cell?_alloc_lt _ _ _ (by show 5<_;omega)).trans hm⟩
theorem Jz (s:Sp.Bs) (h:¬ 2000<s.length):parse s=(if (stmt s (Sp.fuel s) (.live 0)).cG s .fin then stmt s (Sp.fuel s) (.live 0) else (stmt s (Sp.fuel s) (.live 0)).fail s 2).out:=by
 unfold parse;rw [if_neg h]
theorem nM.wide {w:World} : ∀ {z:wB} {lo hi lo' hi' : Nat} {v:Value},nM w z lo hi v->lo'<=lo->hi<=hi'->nM w z lo' hi' v
 | .create t cols,lo,hi,lo',hi',v,h,h1,h2=>by obtain ⟨p,e,q,sl,e',a1,a2,a3,a4⟩:=h;exact ⟨p,e,q,sl,e',by omega,by omega,a3,a4.wide h1 h2⟩
 | .drop t,lo,hi,lo',hi',v,h,h1,h2=>by obtain ⟨q,e,a,b,c⟩:=h;exact ⟨q,e,by omega,by omega,c⟩
 | .dH _ t rows,lo,hi,lo',hi',v,h,h1,h2=>by obtain ⟨p,e,q,sl,e',a1,a2,a3,a4⟩:=h;exact ⟨p,e,q,sl,e',by omega,by omega,a3,a4.wide (aF _) h2⟩
 | .eO _ t nd,lo,hi,lo',hi',v,h,h1,h2=>by obtain ⟨p,e,q,sl,e',a1,a2,a3,a4,a5⟩:=h;exact ⟨p,e,q,sl,e',by omega,by omega,a3,a4,Rp.wide _ _ _ _ _ _ a5 (aF _) h2⟩
 | .delete t wh,lo,hi,lo',hi',v,h,h1,h2=>by
  obtain ⟨q,pv,e,a1,a2,a3,a4,a5⟩:=h
  exact ⟨q,pv,e,by omega,by omega,a3,a4,Rp.wide _ _ _ _ _ _ a5 h1 (aF _)⟩
 | .update t sets wh,lo,hi,lo',hi',v,h,h1,h2=>by
  obtain ⟨p,e,q,sl,pv,mid,e',a1,a2,a3,a4,a5,a6,a7⟩:=h
  exact ⟨p,e,q,sl,pv,mid,e',by omega,a2,by omega,a4,a5.wide h1 (aF _),a6,a7⟩
 | .trans z,lo,hi,lo',hi',v,h,h1,h2=>by obtain ⟨q,e,a,b,c⟩:=h;exact ⟨q,e,by omega,by omega,c⟩
 | .query nd,lo,hi,lo',hi',v,h,h1,h2=>Rp.wide _ _ _ _ _ _ h h1 h2
theorem zR (s:ByteArray) (w:World) (hs:s.size<=maxLen) (hr:VR w) (hv:VM w) :
  Calls Tryz.prog 37 #[.string s] w λe w'=>∃ v,e = .returned (.tuple #[v, .int .i64 ((parse s.data.toList).1:Nat), .int .i64 ((parse s.data.toList).2:Nat)])/\Below w.heap.size w w'/\aQ v/\((parse s.data.toList).1=0->nM w' (tree s.data.toList) w.heap.size w'.heap.size v):=by
 unfold maxLen at hs
 by_cases hl:2000<s.size
 ·have HV:Hid (parse s.data.toList=(1,0)):=by show _=_;unfold parse;rw [if_pos (by rw [size_data];exact hl)]
  go_enter Tryz.func37,Tryz.ntmps37
  go_wp2_with fail
  exact cL (v := .tuple #[.nilIface, .int .i64 1, .int .i64 0]) (by simp [results,Tryz.results37,go_sem, *]) rfl ⟨_,by rw [HV.out];rfl,Below.refl _ _,Or.inl rfl,λh=>by rw [HV.out] at h;cases h⟩
 ·have HV:Hid (parse s.data.toList=(if (stmt s.data.toList (Sp.fuel s.data.toList) (.live 0)).cG s.data.toList .fin then stmt s.data.toList (Sp.fuel s.data.toList) (.live 0) else (stmt s.data.toList (Sp.fuel s.data.toList) (.live 0)).fail s.data.toList 2).out):=Jz _ (by rw [size_data];exact hl)
  have hfu:Sp.fuel s.data.toList=32*(s.size+4):=by unfold Sp.fuel;rw [size_data]
  obtain ⟨m,hm⟩:∃ m,Sp.fuel s.data.toList=m+1:=⟨Sp.fuel s.data.toList - 1,by omega⟩
  have HF:Hid (m+1<=900000/\32*rem s.data.toList (.live 0)+31<=m+1):=by
   have:rem s.data.toList (.live 0)=s.size+1:=by simp [rem]
   exact ⟨by omega,by rw [this];omega⟩
  have HT:Hid (tree s.data.toList=sC s.data.toList (m+1) (.live 0)):=by show _=_;unfold tree;rw [hm]
  rw [hm] at HV
  have HL:Hid (s.data.toList.length<=100000):=by show _<=_;rw [size_data];omega
  have V2:=hid hv
  clear hfu hm hv
  go_enter Tryz.func37,Tryz.ntmps37
  go_wp2_with fail
  refine (GM _ _ (by omega) hr).mono ?_
  rintro r w1 ⟨g,len,cap,xs,sQ,rfl,tk,hg,hown,tc,hb⟩
  have HP:Hid (PS w1.heap.size g cap len s.data.toList 0 (.live 0) (w1.alloc (.cells #[.slice (some ⟨g,0,none⟩) len cap, .int .i64 0, .int .i64 0, .int .i64 0, .int .i64 0] 120))):=Jy tk (by obtain ⟨_,_,h⟩:=V2.out;exact h) (by obtain ⟨x,h,_⟩:=V2.out.below hb;exact ⟨x,h⟩) hb.size hown tc
  have HB:=hid hb
  clear tk hown tc hb
  go_wp2_with fail
  refine (vS (qP _ _ _ _ _ HL.out (m+1) (m+1) (aF _)) (qP _ _ _ _ _ HL.out m m (aF _)) HF.out.1 HF.out.2 HP.out).mono ?_
  rintro r w2 ⟨v2,rfl,hp2,hk2,hi2,hq2⟩
  have KD:Hid ((stmt s.data.toList (m+1) (.live 0)).aA=true->nM w2 (sC s.data.toList (m+1) (.live 0)) (w1.heap.size+1) w2.heap.size v2):=λhl=>by have:=hq2 hl;simpa using this
  have HI2:=hid hi2
  generalize hσ:stmt s.data.toList (m+1) (.live 0)=σ at *
  clear hσ hq2 hi2
  have HP2:=hid hp2
  have aY:Hid (Kept w1.heap.size w1 w2):=((Kept.refl _ _).alloc _).trans hk2
  clear hp2 hk2 HP
  go_wp2_with fail
  refine (vE HP2.out).mono ?_
  rintro r w3 ⟨rfl,hp3,hk3⟩
  have QJ:=hid hk3
  generalize V3:(if σ.cG s.data.toList .fin then σ else σ.fail s.data.toList 2)=τ at *
  have Yq:Hid (τ.aA=true->σ.aA=true):=λh=>by
   rw [<- V3] at h
   split at h
   ·exact h
   ·exact (eV h).elim
  clear V3
  have hbl:Below w.heap.size w w3:=by
   have bH:=aY.out.trans hk3
   exact ⟨bH.os.trans HB.out.os,bH.tape.trans HB.out.tape,bH.output.trans HB.out.output,cE HB.out.size bH.size,λk hk=>(bH.block k (bY hk HB.out.size) (by have:=HB.out.size;omega)).trans (HB.out.block k hk)⟩
  have V5:=hid hbl
  have c3:=hp3.h3
  have c4:=hp3.h4
  have hix:=hp3.h1
  clear hp3 hk3 HP2 aY hbl
  cases τ with
  | live e=>
   have HST:Hid (nM w3 (tree s.data.toList) w.heap.size w3.heap.size v2):=by
    show nM _ _ _ _ _
    rw [HT.out]
    have hz:=HB.out.size
    have hz3:=QJ.out.size
    have q:=KD.out (Yq.out rfl)
    exact (q.frame hz3 HI2.out λk h1 h2=>QJ.out.block k h2 (by omega)).wide (by omega) hz3
   have he:((er (St.live e):Int) != 0)=false:=rfl
   clear hix
   go_wp2_with fail
   exact cL (v := .tuple #[v2, .int .i64 0, .int .i64 0]) (by simp [results,Tryz.results37,go_sem, *]) rfl ⟨_,by rw [HV.out];rfl,V5.out,HI2.out,λ_=>HST.out⟩
  | dead x y=>
   have hx:x≠0:=by obtain ⟨i,h,_⟩:=hix;exact h.2
   have he:((er (St.dead x y):Int) != 0)=true:=by
    show ((x:Int) != 0)=true
    simp;omega
   have HX:=hid hx
   clear hix hx
   go_wp2_with fail
   go_quiet (fail)
   go_wp2_with fail
   exact cL (v := .tuple #[.nilIface, .int .i64 (er (St.dead x y):Nat), .int .i64 (ea (St.dead x y):Nat)]) (by simp [results,Tryz.results37,go_sem, *]) rfl ⟨_,by rw [HV.out];rfl,below_drewN V5.out _,Or.inl rfl,λh=>by rw [HV.out] at h;exact (HX.out h).elim⟩
end Go.Proofs.YtgnncnhkgmhngaaGreatDoor
