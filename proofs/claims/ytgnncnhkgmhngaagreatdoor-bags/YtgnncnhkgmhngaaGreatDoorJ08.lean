import Derived.Test.YtgnncnhkgmhngaaGreatDoorJ06
set_option maxHeartbeats 2000000
set_option maxRecDepth 100000
namespace Go.Proofs.YtgnncnhkgmhngaaGreatDoor
open Go.RowKit Go.Sort
def Rw (n₀:Nat) (w:World) (v:Value) (vs:List Sv.Val):Prop:=
 (v = .slice none 0 0/\vs = [])\/∃ b off c,v = .slice (some ⟨b,off,none⟩) vs.length c/\b<n₀/\Hv w b off vs
theorem Hv.below {n₀:Nat} {w w' : World} {b off:Nat} {vs:List Sv.Val} (h:Hv w b off vs) (g:Below n₀ w w') (hs:w.heap.size<=w'.heap.size) (hb:b<n₀):Hv w' b off vs:=
 ⟨bY h.lb hs,λj hj=>(g.cell (p:=⟨b,_,none⟩) hb).trans (h.k j hj),λj hj=>(g.cell (p:=⟨b,_,none⟩) hb).trans (h.n j hj),λj hj=>(g.cell (p:=⟨b,_,none⟩) hb).trans (h.s j hj)⟩
theorem Rw.below {n₀:Nat} {w w' : World} {v:Value} {vs:List Sv.Val} (h:Rw n₀ w v vs) (g:Below n₀ w w'):Rw n₀ w' v vs:=by
 rcases h with h | ⟨b,off,c,e,hb,hv⟩
 ·exact .inl h
 ·exact .inr ⟨b,off,c,e,hb,hv.below g g.size hb⟩
structure ER (n₀:Nat) (w:World) (rb ro:Nat) (rs:List (List Sv.Val)):Prop where
 lb:rb<n₀
 at_:∀ i,(h:i<rs.length)->∃ v,w.cell? ⟨rb,ro+i,none⟩=some v/\Rw n₀ w v rs[i]
theorem ER.below {n₀:Nat} {w w' : World} {rb ro:Nat} {rs:List (List Sv.Val)} (h:ER n₀ w rb ro rs) (g:Below n₀ w w'):ER n₀ w' rb ro rs:=
 ⟨h.lb,λi hi=>by obtain ⟨v,h1,h2⟩:=h.at_ i hi;exact ⟨v,(g.cell (p:=⟨rb,_,none⟩) h.lb).trans h1,h2.below g⟩⟩
structure TV where
 name:ByteArray
 ca:Option Addr
 cl:Nat
 cc:Nat
 ra:Option Addr
 rl:Nat
 rc:Nat
abbrev TV.cv (t:TV):Value := .slice t.ca t.cl t.cc
abbrev TV.rv (t:TV):Value := .slice t.ra t.rl t.rc
abbrev sE (t:TV):Value := .agg #[.string t.name,t.cv,t.rv]
def noT:TV:=⟨⟨#[]⟩,none,0,0,none,0,0⟩
structure Lt (w:World) (b off:Nat) (ts:List TV):Prop where
 lb:b<w.heap.size
 n:∀ j,(h:j<ts.length)->w.cell? ⟨b,off+j*3,none⟩=some (.string ts[j].name)
 c:∀ j,(h:j<ts.length)->w.cell? ⟨b,off+j*3+1,none⟩=some ts[j].cv
 r:∀ j,(h:j<ts.length)->w.cell? ⟨b,off+j*3+2,none⟩=some ts[j].rv
theorem Lt.gr {w w' : World} {b off:Nat} {ts:List TV} (h:Lt w b off ts) (g:Gr w w'):Lt w' b off ts:=
 ⟨bY h.lb g.size,λj hj=>(g.cell (p:=⟨b,_,none⟩) h.lb).trans (h.n j hj),λj hj=>(g.cell (p:=⟨b,_,none⟩) h.lb).trans (h.c j hj),λj hj=>(g.cell (p:=⟨b,_,none⟩) h.lb).trans (h.r j hj)⟩
def gI (x:Sp.Bs):List TV->Option TV
 | []=>none
 | t::l=>if t.name.toList == x then some t else gI x l
theorem Df (x:Sp.Bs) (ts:List TV) (k:Nat) (h:k<ts.length) (e:(ts[k].name.toList == x)=false):gI x (ts.drop k)=gI x (ts.drop (k+1)):=by
 rw [nS h,gI,if_neg (by rw [e];decide)]
theorem FX (x:Sp.Bs) (ts:List TV) (k:Nat) (h:k<ts.length) (e:(ts[k].name.toList == x)=true):gI x (ts.drop k)=some ts[k]:=by
 rw [nS h,gI,if_pos e]
def Iv:Option TV->Value
 | some t => .tuple #[sE t, .bool true]
 | none => .tuple #[sE noT, .bool false]
theorem tC (b off n c:Nat) (ts:List TV) (x:ByteArray) (w:World) (hz:n=ts.length) (hbig:n<=100000) (hl:Lt w b off ts) :
  Calls Tryz.prog 146 #[.slice (some ⟨b,off,none⟩) n c, .string x] w λe w'=>e = .returned (Iv (gI x.toList ts))/\Gr w w':=by
 have HV:=hid hl
 have HZ:=hid hz
 clear hl hz
 have R0:Hid (B3 (w.alloc (.cells #[.string ⟨#[]⟩, .slice none 0 0, .slice none 0 0] 187)) w.heap.size (.string ⟨#[]⟩) (.slice none 0 0) (.slice none 0 0)):=B3.new w _ _ _ _
 have G0:Hid (Gr w (w.alloc (.cells #[.string ⟨#[]⟩, .slice none 0 0, .slice none 0 0] 187))):=(Gr.refl w).alloc _
 have HD:Hid (gI x.toList ts=gI x.toList (ts.drop 0)):=rfl
 generalize gI x.toList ts=dv at *
 go_enter Tryz.func146,Tryz.ntmps146
 go_wp2
 generalize w.alloc (.cells #[.string ⟨#[]⟩, .slice none 0 0, .slice none 0 0] 187)=w1 at *
 go_loopw [10] (λi wr=>∃ k:Nat,k<=n/\i = .int .i64 k/\Hid (Gr w wr)/\Hid (B3 wr w.heap.size (.string ⟨#[]⟩) (.slice none 0 0) (.slice none 0 0))/\Hid (dv=gI x.toList (ts.drop k))) (λi _=>n - (intOf i).toNat)
 case atStart=>exact ⟨0,fO _,rfl,G0,R0,HD⟩
 case round=>
  obtain ⟨k,hk,rfl,HG,HB,HR⟩:=hrel
  by_cases hlt:k<n
  ·have hkz:k<ts.length:=by have:=HZ.out;omega
   have fQ:=HV.out.gr HG.out
   have c0:=fQ.n k hkz
   have c1:=fQ.c k hkz
   have c2:=fQ.r k hkz
   clear fQ
   have HS:Hid ((ts[k].name.toList == x.toList)=false->dv=gI x.toList (ts.drop (k+1))):=λh=>HR.out.trans (Df _ ts k hkz h)
   have HT:Hid ((ts[k].name.toList == x.toList)=true->dv=some ts[k]):=λh=>HR.out.trans (FX _ ts k hkz h)
   obtain ⟨⟨tn,ta,tl,tc,ra,rl,rc⟩,ht⟩:∃ t,ts[k]=t:=⟨_,rfl⟩
   rw [ht] at c0 c1 c2 HS HT
   clear ht HR
   dsimp only [TV.cv,TV.rv] at c0 c1 c2 HS HT
   have HB' : Hid (B3 (wr.alloc (.cells #[.string tn, .slice ta tl tc, .slice ra rl rc] 187)) w.heap.size (.string ⟨#[]⟩) (.slice none 0 0) (.slice none 0 0)):=HB.out.alloc _
   have uW : Hid (Gr w (wr.alloc (.cells #[.string tn, .slice ta tl tc, .slice ra rl rc] 187))):=HG.out.alloc _
   cases he:(tn.toList == x.toList)
   ·rw [he] at HS HT
    go_wp2_with fail
    go_roundw
    case rel=>exact ⟨k+1,by omega,by go_num,uW,HB',HS.out (by trivial)⟩
    case measure=>simp [intOf];omega
   ·rw [he] at HS HT
    obtain ⟨Vd,r0,r1,r2,r3,r4,r5⟩:=HB'.out
    go_wp2_with fail
    exact cL (v := .tuple #[sE ⟨tn,ta,tl,tc,ra,rl,rc⟩, .bool true]) (by simp [results,Tryz.results146,go_sem, *]) rfl ⟨by rw [HT.out (by trivial)];rfl,uW.out.fG (aF _) _ _ _⟩
  ·have HF:Hid (dv=none):=by show _=_;rw [HR.out,Aw (by have:=HZ.out;omega)];rfl
   obtain ⟨Vd,r0,r1,r2,r3,r4,r5⟩:=HB.out
   go_wp2_with fail
   exact cL (v := .tuple #[sE noT, .bool false]) (by simp [results,Tryz.results146,go_sem,noT, *]) rfl ⟨by rw [HF.out];rfl,HG.out.fG (aF _) _ _ _⟩
theorem AR (x:ByteArray) (w:World) :
  Calls Tryz.prog 146 #[.slice none 0 0, .string x] w λe w'=>e = .returned (Iv none)/\Gr w w':=by
 have R0:Hid (B3 (w.alloc (.cells #[.string ⟨#[]⟩, .slice none 0 0, .slice none 0 0] 187)) w.heap.size (.string ⟨#[]⟩) (.slice none 0 0) (.slice none 0 0)):=B3.new w _ _ _ _
 have G0:Hid (Gr w (w.alloc (.cells #[.string ⟨#[]⟩, .slice none 0 0, .slice none 0 0] 187))):=(Gr.refl w).alloc _
 go_enter Tryz.func146,Tryz.ntmps146
 go_wp2
 generalize w.alloc (.cells #[.string ⟨#[]⟩, .slice none 0 0, .slice none 0 0] 187)=w1 at *
 go_loopw [10] (λi wr=>i = .int .i64 0/\wr=w1) (λ_ _=>0)
 case atStart=>exact ⟨rfl,rfl⟩
 case round=>
  obtain ⟨rfl,rfl⟩:=hrel
  obtain ⟨Vd,r0,r1,r2,r3,r4,r5⟩:=R0.out
  go_wp2_with fail
  exact cL (v := .tuple #[sE noT, .bool false]) (by simp [results,Tryz.results146,go_sem,noT, *]) rfl ⟨rfl,G0.out.fG (aF _) _ _ _⟩
structure oD (w:World) (b off:Nat) (cs:List (ByteArray×Int)):Prop where
 lb:b<w.heap.size
 n:∀ j,(h:j<cs.length)->w.cell? ⟨b,off+j*2,none⟩=some (.string cs[j].1)
 t:∀ j,(h:j<cs.length)->w.cell? ⟨b,off+j*2+1,none⟩=some (.int .i64 cs[j].2)
theorem oD.gr {w w' : World} {b off:Nat} {cs:List (ByteArray×Int)} (h:oD w b off cs) (g:Gr w w'):oD w' b off cs:=
 ⟨bY h.lb g.size,λj hj=>(g.cell (p:=⟨b,_,none⟩) h.lb).trans (h.n j hj),λj hj=>(g.cell (p:=⟨b,_,none⟩) h.lb).trans (h.t j hj)⟩
def dT (x:Sp.Bs):Nat->List (ByteArray×Int)->Int
 | _, []=>-1
 | k,c::l=>if c.1.toList == x then (k:Int) else dT x (k+1) l
def oE (x:Sp.Bs) (cs:List (ByteArray×Int)):Int:=dT x 0 cs
theorem FY (x:Sp.Bs) (cs:List (ByteArray×Int)) (k:Nat) (h:k<cs.length) (e:(cs[k].1.toList == x)=false):dT x k (cs.drop k)=dT x (k+1) (cs.drop (k+1)):=by
 rw [nS h,dT,if_neg (by rw [e];decide)]
theorem Iw (x:Sp.Bs) (cs:List (ByteArray×Int)) (k:Nat) (h:k<cs.length) (e:(cs[k].1.toList == x)=true):dT x k (cs.drop k)=(k:Int):=by
 rw [nS h,dT,if_pos e]
theorem F4 (x:ByteArray) (p:Nat) (cn:ByteArray) (ct:Int) (w:World) (hp:p<w.heap.size) (hx:w.cell? ⟨p,0,none⟩=some (.string x)) :
  Calls Tryz.prog 219 #[.agg #[.string cn, .int .i64 ct], .pointer (some ⟨p,0,none⟩)] w λe w'=>e = .returned (.bool (cn.toList == x.toList))/\Gr w w':=by
 have hx1:(w.alloc (.cells #[.string cn, .int .i64 ct] 264)).cell? ⟨p,0,none⟩=some (.string x):=(((Gr.refl w).alloc _).cell (p:=⟨p,0,none⟩) hp).trans hx
 go_enter Tryz.func219,Tryz.ntmps219
 go_wp2
 go_ret
 exact ⟨rfl,(Gr.refl w).alloc _⟩
theorem yS (b off n c p:Nat) (cs:List (ByteArray×Int)) (x:ByteArray) (w:World) (hz:n=cs.length) (hbig:n<=100000) (hl:oD w b off cs) (hp:p<w.heap.size) (hx:w.cell? ⟨p,0,none⟩=some (.string x)) :
  Calls Tryz.prog 218 #[.slice (some ⟨b,off,none⟩) n c, .func (.func 219) #[] #[.pointer (some ⟨p,0,none⟩)]] w λe w'=>e = .returned (.int .i64 (oE x.toList cs))/\Gr w w':=by
 have HV:=hid hl
 have HZ:=hid hz
 have HP:=hid hx
 clear hl hz hx
 have HD:Hid (oE x.toList cs=dT x.toList 0 (cs.drop 0)):=rfl
 generalize oE x.toList cs=dv at *
 go_enter Tryz.func218,Tryz.ntmps218
 go_wp2
 go_loopw [8] (λi wr=>∃ k:Nat,k<=n/\i = .int .i64 k/\Hid (Gr w wr)/\Hid (dv=dT x.toList k (cs.drop k))) (λi _=>n - (intOf i).toNat)
 case atStart=>exact ⟨0,fO _,rfl,Gr.refl _,HD⟩
 case round=>
  obtain ⟨k,hk,rfl,HG,HR⟩:=hrel
  by_cases hlt:k<n
  ·have hkz:k<cs.length:=by have:=HZ.out;omega
   have fQ:=HV.out.gr HG.out
   have c0:=fQ.n k hkz
   have c1:=fQ.t k hkz
   clear fQ
   have HS:Hid ((cs[k].1.toList == x.toList)=false->dv=dT x.toList (k+1) (cs.drop (k+1))):=λh=>HR.out.trans (FY _ cs k hkz h)
   have HT:Hid ((cs[k].1.toList == x.toList)=true->dv=(k:Int)):=λh=>HR.out.trans (Iw _ cs k hkz h)
   have HC:Hid (Calls Tryz.prog 219 #[.agg #[.string cs[k].1, .int .i64 cs[k].2], .pointer (some ⟨p,0,none⟩)] wr λe w'=>e = .returned (.bool (cs[k].1.toList == x.toList))/\Gr wr w'):=F4 x p _ _ wr (bY hp HG.out.size) ((HG.out.cell (p:=⟨p,0,none⟩) hp).trans HP.out)
   generalize (cs[k].1.toList == x.toList)=bb at HC HS HT
   generalize cs[k].1=cn at c0 HC
   generalize cs[k].2=ct at c1 HC
   clear HR
   go_wp2_with fail
   refine Calls.mono HC.out ?_
   rintro e w2 ⟨rfl,g2⟩
   have uW:=hid (HG.out.trans g2)
   clear g2
   cases bb
   ·go_wp2_with fail
    go_roundw
    case rel=>exact ⟨k+1,by omega,by go_num,uW,HS.out (by trivial)⟩
    case measure=>simp [intOf];omega
   ·go_wp2_with fail
    go_ret
    exact ⟨aP (HT.out (by trivial)).symm,uW.out⟩
  ·have HF:Hid (dv=-1):=by show _=_;rw [HR.out,Aw (by have:=HZ.out;omega)];rfl
   go_wp2_with fail
   go_ret
   exact ⟨aP HF.out.symm,HG.out⟩
theorem F6 (t:TV) (b off:Nat) (cs:List (ByteArray×Int)) (x:ByteArray) (w:World) (hca:t.ca=some ⟨b,off,none⟩) (hcl:t.cl=cs.length) (hbig:cs.length<=100000) (hl:oD w b off cs) :
  Calls Tryz.prog 178 #[sE t, .string x] w λe w'=>e = .returned (.int .i64 (oE x.toList cs))/\Gr w w':=by
 obtain ⟨tn,ta,tl,tc,ra,rl,rc⟩:=t
 simp only [] at hca hcl
 subst hca hcl
 have G0:Hid (Gr w ((w.alloc (.cells #[.string tn, .slice (some ⟨b,off,none⟩) cs.length tc, .slice ra rl rc] 187)).alloc (.cells #[.string x] 9))):=((Gr.refl w).alloc _).alloc _
 have HC:Hid (Calls Tryz.prog 218 #[.slice (some ⟨b,off,none⟩) cs.length tc, .func (.func 219) #[] #[.pointer (some ⟨w.heap.size+1,0,none⟩)]] ((w.alloc (.cells #[.string tn, .slice (some ⟨b,off,none⟩) cs.length tc, .slice ra rl rc] 187)).alloc (.cells #[.string x] 9)) λe w'=>e = .returned (.int .i64 (oE x.toList cs))/\Gr ((w.alloc (.cells #[.string tn, .slice (some ⟨b,off,none⟩) cs.length tc, .slice ra rl rc] 187)).alloc (.cells #[.string x] 9)) w'):=
  yS b off cs.length tc (w.heap.size+1) cs x _ rfl hbig (hl.gr G0.out) (by simp) (by
   have h:=oZ (w.alloc (.cells #[.string tn, .slice (some ⟨b,off,none⟩) cs.length tc, .slice ra rl rc] 187)) #[Value.string x] 9 0
   rw [World.size_alloc] at h
   exact h)
 go_enter Tryz.func178,Tryz.ntmps178
 go_wp2_with fail
 refine Calls.mono HC.out ?_
 rintro e w2 ⟨rfl,g2⟩
 go_wp2_with fail
 go_ret
 exact ⟨rfl,G0.out.trans g2⟩
namespace Sv
def reckoned (w:Sp.Bs):List Val->Val
 | []=>null
 | [a]=>int (wrap64 (-a.n))
 | a::d::_=>
  if w == [43] then int (wrap64 (a.n+d.n)) else if w == [45] then int (wrap64 (a.n - d.n)) else if w == [42] then int (wrap64 (a.n*d.n))
  else if d.n=0 then null else int (wrap64 (a.n.tdiv d.n))
end Sv
theorem F7 (b off c:Nat) (x:ByteArray) (a:Sv.Val) (w:World) (hv:Hv w b off [a]) :
  Calls Tryz.prog 268 #[.string x, .slice (some ⟨b,off,none⟩) 1 c] w λe w'=>e = .returned (dI (Sv.reckoned x.toList [a]))/\Gr w w':=by
 have HD:Hid (Sv.reckoned x.toList [a]=Sv.int (wrap64 (-a.n))):=rfl
 generalize Sv.reckoned x.toList [a]=dv at *
 have R0:Hid (B3 (w.alloc (.cells #[.int .i64 0, .int .i64 0, .string ⟨#[]⟩] 40)) w.heap.size (.int .i64 0) (.int .i64 0) (.string ⟨#[]⟩)):=B3.new w _ _ _ _
 have G0:Hid (Gr w (w.alloc (.cells #[.int .i64 0, .int .i64 0, .string ⟨#[]⟩] 40))):=(Gr.refl w).alloc _
 have c1:(w.alloc (.cells #[.int .i64 0, .int .i64 0, .string ⟨#[]⟩] 40)).cell? ⟨b,off+1,none⟩=some (.int .i64 a.n):=by
  have:=(hv.gr G0.out).n 0 (by simp);simpa using this
 clear hv
 go_enter Tryz.func268,Tryz.ntmps268
 go_wp2_with fail
 refine (lV _ _).mono ?_
 rintro e w3 ⟨rfl,g3⟩
 obtain ⟨rl,r0,r1,r2,r3,r4,r5⟩:=R0.out.gr g3
 go_wp2_with fail
 exact cL (v:=dI (Sv.int (wrap64 (-a.n)))) (by simp [results,Tryz.results268,go_sem, *]) rfl ⟨by rw [HD.out],(G0.out.trans g3).fG (aF _) _ _ _⟩
theorem F8 (b off n c:Nat) (x:ByteArray) (a d:Sv.Val) (l:List Sv.Val) (w:World) (hn:n=l.length+2) (hbig:n<=100000) (hv:Hv w b off (a::d::l)) :
  Calls Tryz.prog 268 #[.string x, .slice (some ⟨b,off,none⟩) n c] w λe w'=>e = .returned (dI (Sv.reckoned x.toList (a::d::l)))/\Gr w w':=by
 have HD:Hid (Sv.reckoned x.toList (a::d::l)=if x.toList == [43] then Sv.int (wrap64 (a.n+d.n)) else if x.toList == [45] then Sv.int (wrap64 (a.n - d.n)) else if x.toList == [42] then Sv.int (wrap64 (a.n*d.n)) else if d.n=0 then Sv.null else Sv.int (wrap64 (a.n.tdiv d.n))):=rfl
 generalize Sv.reckoned x.toList (a::d::l)=dv at *
 have R0:Hid (B3 (w.alloc (.cells #[.int .i64 0, .int .i64 0, .string ⟨#[]⟩] 40)) w.heap.size (.int .i64 0) (.int .i64 0) (.string ⟨#[]⟩)):=B3.new w _ _ _ _
 have G0:Hid (Gr w (w.alloc (.cells #[.int .i64 0, .int .i64 0, .string ⟨#[]⟩] 40))):=(Gr.refl w).alloc _
 have c1:(w.alloc (.cells #[.int .i64 0, .int .i64 0, .string ⟨#[]⟩] 40)).cell? ⟨b,off+1,none⟩=some (.int .i64 a.n):=by
  have:=(hv.gr G0.out).n 0 (by simp);simpa using this
 have c2:(w.alloc (.cells #[.int .i64 0, .int .i64 0, .string ⟨#[]⟩] 40)).cell? ⟨b,off+3+1,none⟩=some (.int .i64 d.n):=by
  have:=(hv.gr G0.out).n 1 (by simp);simpa using this
 have hn1:((n:Int) == 1)=false:=by simp;omega
 have hn2:(0:Int)<(n:Int):=by omega
 have hn3:(1:Int)<(n:Int):=by omega
 have hm:=mixed
 generalize a.n=an at *
 generalize d.n=dn at *
 clear hv hn
 go_enter Tryz.func268,Tryz.ntmps268
 go_wp2_with fail
 go_quiet (fail)
 have R1:Hid (B3 ((w.alloc (.cells #[.int .i64 0, .int .i64 0, .string ⟨#[]⟩] 40)).drewN nq) w.heap.size (.int .i64 0) (.int .i64 0) (.string ⟨#[]⟩)):=R0.out.gr ((Gr.refl _).drewN _)
 have G1:Hid (Gr w ((w.alloc (.cells #[.int .i64 0, .int .i64 0, .string ⟨#[]⟩] 40)).drewN nq)):=G0.out.drewN _
 clear R0 G0
 cases h1:(x.toList == [43])
 ·cases h2:(x.toList == [45])
  ·cases h3:(x.toList == [42])
   ·by_cases h4:dn=0
    ·have h5:(dn == 0)=true:=by simp [h4]
     have HV:Hid (dv=Sv.null):=by show _=_;rw [HD.out,h1,h2,h3,if_pos h4];rfl
     clear h4
     go_wp2_with fail
     refine (pG _).mono ?_
     rintro e w3 ⟨rfl,g3⟩
     obtain ⟨rl,r0,r1,r2,r3,r4,r5⟩:=R1.out.gr g3
     go_wp2_with fail
     exact cL (v:=dI (Sv.null)) (by simp [results,Tryz.results268,go_sem, *]) rfl ⟨by rw [HV.out],(G1.out.trans g3).fG (aF _) _ _ _⟩
    ·have h5:(dn == 0)=false:=by simp [h4]
     have HV:Hid (dv=Sv.int (wrap64 (an.tdiv dn))):=by show _=_;rw [HD.out,h1,h2,h3,if_neg h4];rfl
     go_wp2_with fail
     refine (lV _ _).mono ?_
     rintro e w3 ⟨rfl,g3⟩
     obtain ⟨rl,r0,r1,r2,r3,r4,r5⟩:=R1.out.gr g3
     go_wp2_with fail
     exact cL (v:=dI (Sv.int (wrap64 (an.tdiv dn)))) (by simp [results,Tryz.results268,go_sem, *]) rfl ⟨by rw [HV.out],(G1.out.trans g3).fG (aF _) _ _ _⟩
   ·have HV:Hid (dv=Sv.int (wrap64 (an*dn))):=by show _=_;rw [HD.out,h1,h2,h3];rfl
    go_wp2_with fail
    refine (lV _ _).mono ?_
    rintro e w3 ⟨rfl,g3⟩
    obtain ⟨rl,r0,r1,r2,r3,r4,r5⟩:=R1.out.gr g3
    go_wp2_with fail
    exact cL (v:=dI (Sv.int (wrap64 (an*dn)))) (by simp [results,Tryz.results268,go_sem, *]) rfl ⟨by rw [HV.out],(G1.out.trans g3).fG (aF _) _ _ _⟩
  ·have HV:Hid (dv=Sv.int (wrap64 (an - dn))):=by show _=_;rw [HD.out,h1,h2];rfl
   go_wp2_with fail
   refine (lV _ _).mono ?_
   rintro e w3 ⟨rfl,g3⟩
   obtain ⟨rl,r0,r1,r2,r3,r4,r5⟩:=R1.out.gr g3
   go_wp2_with fail
   exact cL (v:=dI (Sv.int (wrap64 (an - dn)))) (by simp [results,Tryz.results268,go_sem, *]) rfl ⟨by rw [HV.out],(G1.out.trans g3).fG (aF _) _ _ _⟩
 ·have HV:Hid (dv=Sv.int (wrap64 (an+dn))):=by show _=_;rw [HD.out,h1];rfl
  go_wp2_with fail
  refine (lV _ _).mono ?_
  rintro e w3 ⟨rfl,g3⟩
  obtain ⟨rl,r0,r1,r2,r3,r4,r5⟩:=R1.out.gr g3
  go_wp2_with fail
  exact cL (v:=dI (Sv.int (wrap64 (an+dn)))) (by simp [results,Tryz.results268,go_sem, *]) rfl ⟨by rw [HV.out],(G1.out.trans g3).fG (aF _) _ _ _⟩
theorem Ix (b off n c:Nat) (x:ByteArray) (vs:List Sv.Val) (w:World) (hn:n=vs.length) (h1:1<=n) (hbig:n<=100000) (hv:Hv w b off vs) :
  Calls Tryz.prog 268 #[.string x, .slice (some ⟨b,off,none⟩) n c] w λe w'=>e = .returned (dI (Sv.reckoned x.toList vs))/\Gr w w':=by
 match vs,hn,hv with
 | [],hn,_=>simp at hn;omega
 | [a],hn,hv=>subst hn;exact F7 b off c x a w hv
 | a::d::l,hn,hv=>exact F8 b off n c x a d l w (by simpa using hn) hbig hv
namespace Sv
def nY (w:Sp.Bs):Bool:=w == [43]||w == [45]||w == [42]||w == [47]
def of (w:Sp.Bs) (l:List Val):Val:=
 if w == [97,110,100] then decided (bool false) l
 else if w == [111,114] then decided (bool true) l
 else if w == [105,115] then bool (isNull (l.headD null))
 else if w == [99,111,97,108,101,115,99,101] then bL l
 else if l.any isNull then null
 else if w == [110,111,116] then bool (!isTrue (l.headD null))
 else if nY w then reckoned w l
 else bool (compared w (cmp (l.headD null) (l.tail.headD null)))
def hZ (w:Sp.Bs):Bool:=!(w == [97,110,100]||w == [111,114]||w == [105,115]||w == [99,111,97,108,101,115,99,101]||w == [110,111,116]||nY w)
end Sv
theorem F9 (w:Sp.Bs) (h:Sv.nY w=true):(w == [43])=true\/((w == [43])=false/\(w == [45])=true)\/((w == [43])=false/\(w == [45])=false/\(w == [42])=true)\/((w == [43])=false/\(w == [45])=false/\(w == [42])=false/\(w == [47])=true):=by
 unfold Sv.nY at h
 generalize (w == [43])=a at *
 generalize (w == [45])=b at *
 generalize (w == [42])=c at *
 generalize (w == [47])=d at *
 cases a <;> cases b <;> cases c <;> cases d <;> simp at h ⊢
theorem NA (b off n c:Nat) (x:ByteArray) (vs:List Sv.Val) (w:World) (hn:n=vs.length) (h1:1<=n) (h2:Sv.hZ x.toList=true->2<=n) (hbig:n<=100000) (hv:Hv w b off vs) :
  Calls Tryz.prog 233 #[.string x, .slice (some ⟨b,off,none⟩) n c] w λe w'=>e = .returned (dI (Sv.of x.toList vs))/\Gr w w':=by
 have HD:Hid (Sv.of x.toList vs=Sv.of x.toList vs):=rfl
 have D1:Hid (∀ t w1,Gr w w1->Calls Tryz.prog 264 #[dI t, .slice (some ⟨b,off,none⟩) n c] w1 λe w'=>e = .returned (dI (Sv.decided t vs))/\Gr w1 w'):=λt w1 g=>AQ b off n c vs t w1 hn hbig (hv.gr g)
 have D2:Hid (∀ w1,Gr w w1->Calls Tryz.prog 267 #[.slice (some ⟨b,off,none⟩) n c, .func (.func 265) #[] #[]] w1 λe w'=>e = .returned (.bool (vs.any Sv.isNull))/\Gr w1 w'):=λw1 g=>s8 b off n c vs w1 hn hbig (hv.gr g)
 have D3:Hid (∀ w1,Gr w w1->Calls Tryz.prog 266 #[.slice (some ⟨b,off,none⟩) n c] w1 λe w'=>e = .returned (dI (Sv.bL vs))/\Gr w1 w'):=λw1 g=>s9 b off n c vs w1 hn hbig (hv.gr g)
 have D4:Hid (∀ w1,Gr w w1->Calls Tryz.prog 268 #[.string x, .slice (some ⟨b,off,none⟩) n c] w1 λe w'=>e = .returned (dI (Sv.reckoned x.toList vs))/\Gr w1 w'):=λw1 g=>Ix b off n c x vs w1 hn h1 hbig (hv.gr g)
 have hne:0<vs.length:=by omega
 have HA:=hid hv
 have HB:Hid (vs.headD Sv.null=vs[0]):=by show _=_;cases vs with | nil=>simp at hne | cons a l=>rfl
 have HC:Hid ((h:1<vs.length)->vs.tail.headD Sv.null=vs[1]):=λh=>by
  match vs,h with
  | a::d::l,_=>rfl
 have HN:=hid hn
 have hn2:(0:Int)<(n:Int):=by omega
 have R0:Hid (B3 (w.alloc (.cells #[.int .i64 0, .int .i64 0, .string ⟨#[]⟩] 40)) w.heap.size (.int .i64 0) (.int .i64 0) (.string ⟨#[]⟩)):=B3.new w _ _ _ _
 have G0:Hid (Gr w (w.alloc (.cells #[.int .i64 0, .int .i64 0, .string ⟨#[]⟩] 40))):=(Gr.refl w).alloc _
 have H2:=hid h2
 clear hv hn h2
 cases e1:(x.toList == [97,110,100])
 ·cases e2:(x.toList == [111,114])
  ·cases e3:(x.toList == [105,115])
   ·cases e4:(x.toList == [99,111,97,108,101,115,99,101])
    ·cases e5:vs.any Sv.isNull
     ·rw [e5] at D2
      cases e6:(x.toList == [110,111,116])
      ·cases e7:Sv.nY x.toList
       ·have h2:2<=n:=H2.out (by simp [Sv.hZ,e1,e2,e3,e4,e6,e7])
        have HV:Hid (Sv.of x.toList vs=Sv.bool (Sv.compared x.toList (Sv.cmp vs[0] (vs[1]'(by have:=HN.out;omega))))):=by show _=_;simp only [Sv.of,e1,e2,e3,e4,e5,e6,e7];rw [HB.out,HC.out (by have:=HN.out;omega)];rfl
        generalize Sv.of x.toList vs=dv at *
        have C1:Hid (∀ w,Calls Tryz.prog 270 #[.agg #[.int .i64 vs[0].k, .int .i64 vs[0].n, .string vs[0].s], .agg #[.int .i64 (vs[1]'(by have:=HN.out;omega)).k, .int .i64 (vs[1]'(by have:=HN.out;omega)).n, .string (vs[1]'(by have:=HN.out;omega)).s]] w λe w'=>e = .returned (.int .i64 (Sv.cmp vs[0] (vs[1]'(by have:=HN.out;omega))))/\Gr w w'):=λw=>AP vs[0] _ w
        have hn3:(1:Int)<(n:Int):=by omega
        have s1:(x.toList == [43])=false:=by simp only [Sv.nY,Bool.or_eq_false_iff] at e7;exact e7.1.1.1
        have s2:(x.toList == [45])=false:=by simp only [Sv.nY,Bool.or_eq_false_iff] at e7;exact e7.1.1.2
        have s3:(x.toList == [42])=false:=by simp only [Sv.nY,Bool.or_eq_false_iff] at e7;exact e7.1.2
        have s4:(x.toList == [47])=false:=by simp only [Sv.nY,Bool.or_eq_false_iff] at e7;exact e7.2
        have hm:=mixed
        clear e5 e7
        go_enter Tryz.func233,Tryz.ntmps233
        go_wp2_with fail
        refine (D2.out _ G0.out).mono ?_
        rintro e w1 ⟨rfl,g⟩
        have R1:Hid (B3 w1 w.heap.size (.int .i64 0) (.int .i64 0) (.string ⟨#[]⟩)):=R0.out.gr g
        have G1:Hid (Gr w w1):=G0.out.trans g
        clear g R0 G0
        have fQ:=HA.out.gr G1.out
        have u0:=fQ.k 0 (by have:=HN.out;omega)
        have u1:=fQ.n 0 (by have:=HN.out;omega)
        have u2:=fQ.s 0 (by have:=HN.out;omega)
        clear fQ
        have fQ:=HA.out.gr G1.out
        have v0:=fQ.k 1 (by have:=HN.out;omega)
        have v1:=fQ.n 1 (by have:=HN.out;omega)
        have v2:=fQ.s 1 (by have:=HN.out;omega)
        clear fQ
        simp only [Nat.zero_mul,Nat.add_zero,Nat.one_mul] at u0 u1 u2 v0 v1 v2
        generalize vs[0].k=ak at u0 C1
        generalize vs[0].n=aN at u1 C1
        generalize vs[0].s=aS at u2 C1
        generalize (vs[1]'(by have:=HN.out;omega)).k=bk at v0 C1
        generalize (vs[1]'(by have:=HN.out;omega)).n=bN at v1 C1
        generalize (vs[1]'(by have:=HN.out;omega)).s=bS at v2 C1
        generalize Sv.cmp vs[0] (vs[1]'(by have:=HN.out;omega))=cv at *
        go_wp2_with fail
        go_region_with (first | (go_at_call 270;refine (C1.out _).mono ?_;rintro e w2 ⟨rfl,g2⟩) | (go_at_call 269;refine (yP _ _ _).mono ?_;rintro e w3 ⟨rfl,rfl⟩) | (go_at_call 231;refine (fW _ _).mono ?_;rintro e w4 ⟨rfl,g4⟩;obtain ⟨rl,r0,r1,r2,r3,r4,r5⟩:=R1.out.gr (((Gr.refl w1).drew.trans g2).trans g4)))
        all_goals go_wp2_with fail
        all_goals exact cL (v:=dI (Sv.bool (Sv.compared x.toList cv))) (by simp [results,Tryz.results233,go_sem, *]) rfl ⟨by rw [HV.out],(((G1.out.drew).trans g2).trans g4).fG (aF _) _ _ _⟩
       ·have HV:Hid (Sv.of x.toList vs=Sv.reckoned x.toList vs):=by show _=_;simp only [Sv.of,e1,e2,e3,e4,e5,e6,e7];rfl
        generalize Sv.of x.toList vs=dv at *
        generalize Sv.reckoned x.toList vs=rv at *
        have e8:=F9 _ e7
        clear e7 e5
        go_enter Tryz.func233,Tryz.ntmps233
        go_wp2_with fail
        refine (D2.out _ G0.out).mono ?_
        rintro e w1 ⟨rfl,g⟩
        have R1:Hid (B3 w1 w.heap.size (.int .i64 0) (.int .i64 0) (.string ⟨#[]⟩)):=R0.out.gr g
        have G1:Hid (Gr w w1):=G0.out.trans g
        clear g R0 G0
        rcases e8 with e8 | ⟨e8,e9⟩ | ⟨e8,e9,e10⟩ | ⟨e8,e9,e10,e11⟩
        all_goals go_wp2_with fail
        all_goals refine (D4.out _ G1.out).mono ?_
        all_goals rintro e w2 ⟨rfl,g⟩
        all_goals obtain ⟨rl,r0,r1,r2,r3,r4,r5⟩:=R1.out.gr g
        all_goals go_wp2_with fail
        all_goals exact cL (v:=dI rv) (by simp [results,Tryz.results233,go_sem, *]) rfl ⟨by rw [HV.out],(G1.out.trans g).fG (aF _) _ _ _⟩
      ·have HV:Hid (Sv.of x.toList vs=Sv.bool (!Sv.isTrue vs[0])):=by show _=_;simp only [Sv.of,e1,e2,e3,e4,e5,e6];rw [HB.out];rfl
       generalize Sv.of x.toList vs=dv at *
       have C1:Hid (∀ w,Calls Tryz.prog 193 #[.agg #[.int .i64 vs[0].k, .int .i64 vs[0].n, .string vs[0].s]] w λe w'=>e = .returned (.bool (Sv.isTrue vs[0]))/\Gr w w'):=λw=>oC vs[0] w
       clear e5
       go_enter Tryz.func233,Tryz.ntmps233
       go_wp2_with fail
       refine (D2.out _ G0.out).mono ?_
       rintro e w1 ⟨rfl,g⟩
       have R1:Hid (B3 w1 w.heap.size (.int .i64 0) (.int .i64 0) (.string ⟨#[]⟩)):=R0.out.gr g
       have G1:Hid (Gr w w1):=G0.out.trans g
       clear g R0 G0
       have fQ:=HA.out.gr G1.out
       have u0:=fQ.k 0 (by have:=HN.out;omega)
       have u1:=fQ.n 0 (by have:=HN.out;omega)
       have u2:=fQ.s 0 (by have:=HN.out;omega)
       clear fQ
       simp only [Nat.zero_mul,Nat.add_zero] at u0 u1 u2
       generalize vs[0].k=ak at u0 C1
       generalize vs[0].n=aN at u1 C1
       generalize vs[0].s=aS at u2 C1
       generalize Sv.isTrue vs[0]=tv at *
       go_wp2_with fail
       refine (C1.out _).mono ?_
       rintro e w2 ⟨rfl,g⟩
       have R2:Hid (B3 w2 w.heap.size (.int .i64 0) (.int .i64 0) (.string ⟨#[]⟩)):=R1.out.gr g
       have G2:Hid (Gr w w2):=G1.out.trans g
       clear g R1 G1
       clear u0 u1 u2
       go_wp2_with fail
       refine (fW _ _).mono ?_
       rintro e w3 ⟨rfl,g⟩
       have R3:Hid (B3 w3 w.heap.size (.int .i64 0) (.int .i64 0) (.string ⟨#[]⟩)):=R2.out.gr g
       have G3:Hid (Gr w w3):=G2.out.trans g
       clear g R2 G2
       obtain ⟨rl,r0,r1,r2,r3,r4,r5⟩:=R3.out
       go_wp2_with fail
       exact cL (v:=dI (Sv.bool (!tv))) (by simp [results,Tryz.results233,go_sem, *]) rfl ⟨by rw [HV.out],G3.out.fG (aF _) _ _ _⟩
     ·rw [e5] at D2
      have HV:Hid (Sv.of x.toList vs=Sv.null):=by show _=_;simp only [Sv.of,e1,e2,e3,e4,e5];rfl
      generalize Sv.of x.toList vs=dv at *
      clear e5
      go_enter Tryz.func233,Tryz.ntmps233
      go_wp2_with fail
      refine (D2.out _ G0.out).mono ?_
      rintro e w1 ⟨rfl,g⟩
      have R1:Hid (B3 w1 w.heap.size (.int .i64 0) (.int .i64 0) (.string ⟨#[]⟩)):=R0.out.gr g
      have G1:Hid (Gr w w1):=G0.out.trans g
      clear g R0 G0
      go_wp2_with fail
      refine (pG _).mono ?_
      rintro e w2 ⟨rfl,g⟩
      have R2:Hid (B3 w2 w.heap.size (.int .i64 0) (.int .i64 0) (.string ⟨#[]⟩)):=R1.out.gr g
      have G2:Hid (Gr w w2):=G1.out.trans g
      clear g R1 G1
      obtain ⟨rl,r0,r1,r2,r3,r4,r5⟩:=R2.out
      go_wp2_with fail
      exact cL (v:=dI (Sv.null)) (by simp [results,Tryz.results233,go_sem, *]) rfl ⟨by rw [HV.out],G2.out.fG (aF _) _ _ _⟩
    ·have HV:Hid (Sv.of x.toList vs=Sv.bL vs):=by show _=_;simp only [Sv.of,e1,e2,e3,e4];rfl
     generalize Sv.of x.toList vs=dv at *
     generalize Sv.bL vs=fv at *
     go_enter Tryz.func233,Tryz.ntmps233
     go_wp2_with fail
     refine (D3.out _ G0.out).mono ?_
     rintro e w1 ⟨rfl,g⟩
     have R1:Hid (B3 w1 w.heap.size (.int .i64 0) (.int .i64 0) (.string ⟨#[]⟩)):=R0.out.gr g
     have G1:Hid (Gr w w1):=G0.out.trans g
     clear g R0 G0
     obtain ⟨rl,r0,r1,r2,r3,r4,r5⟩:=R1.out
     go_wp2_with fail
     exact cL (v:=dI (fv)) (by simp [results,Tryz.results233,go_sem, *]) rfl ⟨by rw [HV.out],G1.out.fG (aF _) _ _ _⟩
   ·have HV:Hid (Sv.of x.toList vs=Sv.bool (Sv.isNull vs[0])):=by show _=_;simp only [Sv.of,e1,e2,e3];rw [HB.out];rfl
    generalize Sv.of x.toList vs=dv at *
    have C1:Hid (∀ w,Calls Tryz.prog 265 #[.agg #[.int .i64 vs[0].k, .int .i64 vs[0].n, .string vs[0].s]] w λe w'=>e = .returned (.bool (Sv.isNull vs[0]))/\Gr w w'):=λw=>lW vs[0] w
    have fQ:=HA.out.gr G0.out
    have u0:=fQ.k 0 (by have:=HN.out;omega)
    have u1:=fQ.n 0 (by have:=HN.out;omega)
    have u2:=fQ.s 0 (by have:=HN.out;omega)
    clear fQ
    simp only [Nat.zero_mul,Nat.add_zero] at u0 u1 u2
    generalize vs[0].k=ak at u0 C1
    generalize vs[0].n=aN at u1 C1
    generalize vs[0].s=aS at u2 C1
    generalize Sv.isNull vs[0]=tv at *
    go_enter Tryz.func233,Tryz.ntmps233
    go_wp2_with fail
    refine (C1.out _).mono ?_
    rintro e w1 ⟨rfl,g⟩
    have R1:Hid (B3 w1 w.heap.size (.int .i64 0) (.int .i64 0) (.string ⟨#[]⟩)):=R0.out.gr g
    have G1:Hid (Gr w w1):=G0.out.trans g
    clear g R0 G0
    clear u0 u1 u2
    go_wp2_with fail
    refine (fW _ _).mono ?_
    rintro e w2 ⟨rfl,g⟩
    have R2:Hid (B3 w2 w.heap.size (.int .i64 0) (.int .i64 0) (.string ⟨#[]⟩)):=R1.out.gr g
    have G2:Hid (Gr w w2):=G1.out.trans g
    clear g R1 G1
    obtain ⟨rl,r0,r1,r2,r3,r4,r5⟩:=R2.out
    go_wp2_with fail
    exact cL (v:=dI (Sv.bool tv)) (by simp [results,Tryz.results233,go_sem, *]) rfl ⟨by rw [HV.out],G2.out.fG (aF _) _ _ _⟩
  ·have HV:Hid (Sv.of x.toList vs=Sv.decided (Sv.bool true) vs):=by show _=_;simp only [Sv.of,e1,e2];rfl
   generalize Sv.of x.toList vs=dv at *
   go_enter Tryz.func233,Tryz.ntmps233
   go_wp2_with fail
   refine (fW _ _).mono ?_
   rintro e w1 ⟨rfl,g⟩
   have R1:Hid (B3 w1 w.heap.size (.int .i64 0) (.int .i64 0) (.string ⟨#[]⟩)):=R0.out.gr g
   have G1:Hid (Gr w w1):=G0.out.trans g
   clear g R0 G0
   go_wp2_with fail
   refine (D1.out _ _ G1.out).mono ?_
   rintro e w2 ⟨rfl,g⟩
   have R2:Hid (B3 w2 w.heap.size (.int .i64 0) (.int .i64 0) (.string ⟨#[]⟩)):=R1.out.gr g
   have G2:Hid (Gr w w2):=G1.out.trans g
   clear g R1 G1
   generalize Sv.decided (Sv.bool true) vs=fv at *
   obtain ⟨rl,r0,r1,r2,r3,r4,r5⟩:=R2.out
   go_wp2_with fail
   exact cL (v:=dI (fv)) (by simp [results,Tryz.results233,go_sem, *]) rfl ⟨by rw [HV.out],G2.out.fG (aF _) _ _ _⟩
 ·have HV:Hid (Sv.of x.toList vs=Sv.decided (Sv.bool false) vs):=by show _=_;simp only [Sv.of,e1];rfl
  generalize Sv.of x.toList vs=dv at *
  go_enter Tryz.func233,Tryz.ntmps233
  go_wp2_with fail
  refine (fW _ _).mono ?_
  rintro e w1 ⟨rfl,g⟩
  have R1:Hid (B3 w1 w.heap.size (.int .i64 0) (.int .i64 0) (.string ⟨#[]⟩)):=R0.out.gr g
  have G1:Hid (Gr w w1):=G0.out.trans g
  clear g R0 G0
  go_wp2_with fail
  refine (D1.out _ _ G1.out).mono ?_
  rintro e w2 ⟨rfl,g⟩
  have R2:Hid (B3 w2 w.heap.size (.int .i64 0) (.int .i64 0) (.string ⟨#[]⟩)):=R1.out.gr g
  have G2:Hid (Gr w w2):=G1.out.trans g
  clear g R1 G1
  generalize Sv.decided (Sv.bool false) vs=fv at *
  obtain ⟨rl,r0,r1,r2,r3,r4,r5⟩:=R2.out
  go_wp2_with fail
  exact cL (v:=dI (fv)) (by simp [results,Tryz.results233,go_sem, *]) rfl ⟨by rw [HV.out],G2.out.fG (aF _) _ _ _⟩
end Go.Proofs.YtgnncnhkgmhngaaGreatDoor
