import Derived.Test.YtgnncnhkgmhngaaGreatDoorJ05
set_option maxHeartbeats 1000000
set_option maxRecDepth 100000
namespace Go.Proofs.YtgnncnhkgmhngaaGreatDoor
open Go.RowKit Go.Sort
theorem drawn_setCell (w:World) (p:Addr) (u:Value):(w.setCell p u).drawn=w.drawn:=rfl
theorem Gr.drawn {w w' : World} (h:Gr w w'):w.drawn≤w'.drawn:=by
 obtain ⟨q,os,rfl⟩:=h
 show w.drawn≤w.drawn+q
 omega
theorem Gr.setNew {a w:World} (h:Gr a w) {p:Addr} (hp:a.heap.size≤p.block) (u:Value):Gr a (w.setCell p u):=
 Gr.of (h.below.setCell hp u) (by rw [drawn_setCell];exact h.drawn)
structure B3 (w:World) (b:Nat) (x y z:Value):Prop where
 lt:b<w.heap.size
 c0:w.cell? ⟨b,0,none⟩=some x
 c1:w.cell? ⟨b,1,none⟩=some y
 c2:w.cell? ⟨b,2,none⟩=some z
 f0:w.frozen? ⟨b,0,none⟩=false
 f1:w.frozen? ⟨b,1,none⟩=false
 f2:w.frozen? ⟨b,2,none⟩=false
theorem B3.new (w:World) (x y z:Value) (t:TypeId):B3 (w.alloc (.cells #[x,y,z] t)) w.heap.size x y z:=⟨by simp,by simp,by simp,by simp,by simp,by simp,by simp⟩
theorem B3.gr {w w' : World} {b:Nat} {x y z:Value} (h:B3 w b x y z) (g:Gr w w'):B3 w' b x y z:=
 ⟨Nat.lt_of_lt_of_le h.lt g.size,(g.cell (p:=⟨b,_,none⟩) h.lt).trans h.c0,(g.cell (p:=⟨b,_,none⟩) h.lt).trans h.c1,(g.cell (p:=⟨b,_,none⟩) h.lt).trans h.c2,(g.frozen (p:=⟨b,_,none⟩) h.lt).trans h.f0,(g.frozen (p:=⟨b,_,none⟩) h.lt).trans h.f1,(g.frozen (p:=⟨b,_,none⟩) h.lt).trans h.f2⟩
theorem B3.alloc {w:World} {b:Nat} {x y z:Value} (h:B3 w b x y z) (o:Obj):B3 (w.alloc o) b x y z:=h.gr ((Gr.refl w).alloc o)
theorem Gr.set3 {a w:World} (h:Gr a w) {b:Nat} (hp:a.heap.size≤b) (x y z:Value):Gr a (((w.setCell ⟨b,0,none⟩ x).setCell ⟨b,1,none⟩ y).setCell ⟨b,2,none⟩ z):=
 ((h.setNew (p:=⟨b,0,none⟩) hp x).setNew (p:=⟨b,1,none⟩) hp y).setNew (p:=⟨b,2,none⟩) hp z
theorem fk_skip (vs:List Sv.Val) (k:Nat) (h:k<vs.length) (e:Sv.isNull vs[k]=true):Sv.firstKnown (vs.drop k)=Sv.firstKnown (vs.drop (k+1)):=by
 rw [List.drop_eq_getElem_cons h,Sv.firstKnown,if_pos e]
theorem fk_hit (vs:List Sv.Val) (k:Nat) (h:k<vs.length) (e:Sv.isNull vs[k]=false):Sv.firstKnown (vs.drop k)=vs[k]:=by
 rw [List.drop_eq_getElem_cons h,Sv.firstKnown,if_neg (by rw [e];decide)]
theorem firstKnown_any (b off n c:Nat) (vs:List Sv.Val) (w:World) (hz:n=vs.length) (hbig:n≤100000) (hv:Hv w b off vs) :
  Calls Tryz.prog 266 #[.slice (some ⟨b,off,none⟩) n c] w fun e w'=>e = .returned (enV (Sv.firstKnown vs))∧Gr w w':=by
 have HV:=hid hv
 clear hv
 have HZ:=hid hz
 clear hz
 have R0:Hid (B3 (w.alloc (.cells #[.int .i64 0, .int .i64 0, .string ⟨#[]⟩] 40)) w.heap.size (.int .i64 0) (.int .i64 0) (.string ⟨#[]⟩)):=B3.new w _ _ _ _
 have G0:Hid (Gr w (w.alloc (.cells #[.int .i64 0, .int .i64 0, .string ⟨#[]⟩] 40))):=(Gr.refl w).alloc _
 have HD:Hid (Sv.firstKnown vs=Sv.firstKnown (vs.drop 0)):=rfl
 generalize Sv.firstKnown vs=dv at *
 go_enter Tryz.func266,Tryz.ntmps266
 go_wp2
 generalize w.alloc (.cells #[.int .i64 0, .int .i64 0, .string ⟨#[]⟩] 40)=w1 at *
 go_loopw [7] (fun i wr=>∃ k:Nat,k≤n∧i = .int .i64 k∧Hid (Gr w wr)∧Hid (B3 wr w.heap.size (.int .i64 0) (.int .i64 0) (.string ⟨#[]⟩))∧Hid (dv=Sv.firstKnown (vs.drop k))) (fun i _=>n - (intOf i).toNat)
 case atStart=>exact ⟨0,Nat.zero_le _,rfl,G0,R0,HD⟩
 case round=>
  obtain ⟨k,hk,rfl,HG,HB,HR⟩:=hrel
  by_cases hlt:k<n
  ·have hkz:k<vs.length:=by have:=HZ.out;omega
   have HVr:=HV.out.gr HG.out
   have c0:=HVr.k k hkz
   have c1:=HVr.n k hkz
   have c2:=HVr.s k hkz
   have HC:Hid (∀ w,Calls Tryz.prog 265 #[.agg #[.int .i64 vs[k].k, .int .i64 vs[k].n, .string vs[k].s]] w fun e w'=>e = .returned (.bool (Sv.isNull vs[k]))∧Gr w w'):=fun w=>visNull_any vs[k] w
   clear HVr
   have HS:Hid (Sv.isNull vs[k]=true→dv=Sv.firstKnown (vs.drop (k+1))):=fun h=>HR.out.trans (fk_skip vs k hkz h)
   have HT:Hid (Sv.isNull vs[k]=false→dv=⟨vs[k].k,vs[k].n,vs[k].s⟩):=fun h=>HR.out.trans (fk_hit vs k hkz h)
   generalize Sv.isNull vs[k]=bb at HC HS HT
   generalize vs[k].k=yk at c0 HC HT
   generalize vs[k].n=yn at c1 HC HT
   generalize vs[k].s=ys at c2 HC HT
   clear HR
   go_wp2_with fail
   refine (HC.out _).mono ?_
   rintro e w2 ⟨rfl,g2⟩
   have B1:Hid (B3 w2 wr.heap.size (.int .i64 yk) (.int .i64 yn) (.string ys)):=(B3.new wr _ _ _ _).gr g2
   have HB' : Hid (B3 w2 w.heap.size (.int .i64 0) (.int .i64 0) (.string ⟨#[]⟩)):=(HB.out.alloc _).gr g2
   have HG' : Hid (Gr w w2):=(HG.out.alloc _).trans g2
   clear g2 HB HG
   cases bb
   ·obtain ⟨rl,r0,r1,r2,r3,r4,r5⟩:=HB'.out
    obtain ⟨tl,t0,t1,t2,t3,t4,t5⟩:=B1.out
    go_wp2_with fail
    exact bodyPost_ret (v:=enV ⟨yk,yn,ys⟩) (by simp [results,Tryz.results266,go_sem, *]) rfl ⟨by rw [HT.out (by trivial)],HG'.out.set3 (Nat.le_refl _) _ _ _⟩
   ·go_wp2_with fail
    go_roundw
    case rel=>exact ⟨k+1,by omega,by go_num,HG',HB',HS.out (by trivial)⟩
    case measure=>simp [intOf];omega
  ·have HF:Hid (dv=Sv.null):=by show _=_;rw [HR.out,List.drop_of_length_le (by have:=HZ.out;omega)];rfl
   go_wp2_with fail
   refine (null_any _).mono ?_
   rintro e w3 ⟨rfl,g3⟩
   obtain ⟨rl,r0,r1,r2,r3,r4,r5⟩:=HB.out.gr g3
   go_wp2_with fail
   exact bodyPost_ret (v:=enV Sv.null) (by simp [results,Tryz.results266,go_sem, *]) rfl ⟨by rw [HF.out],(HG.out.trans g3).set3 (Nat.le_refl _) _ _ _⟩
theorem compared_any (x:ByteArray) (o:Int) (w:World) :
  Calls Tryz.prog 269 #[.string x, .int .i64 o] w fun e w'=>e = .returned (.bool (Sv.compared x.toList o))∧w'=w:=by
 go_enter Tryz.func269,Tryz.ntmps269
 go_wp2
 all_goals go_ret
 all_goals refine ⟨ret_bool ?_,rfl⟩
 all_goals simp_all [Sv.compared]
 all_goals (rw [Bool.eq_iff_iff];simp)
theorem decided_any (b off n c:Nat) (vs:List Sv.Val) (t:Sv.Val) (w:World) (hz:n=vs.length) (hbig:n≤100000) (hv:Hv w b off vs) :
  Calls Tryz.prog 264 #[enV t, .slice (some ⟨b,off,none⟩) n c] w fun e w'=>e = .returned (enV (Sv.decided t vs))∧Gr w w':=by
 have H1:Hid (∀ w1,Gr w w1→Calls Tryz.prog 288 #[.slice (some ⟨b,off,none⟩) n c,enV t] w1 fun e w'=>e = .returned (.bool (vs.contains t))∧Gr w1 w'):=fun w1 g=>vcontains_any b off n c vs t w1 hz hbig (hv.gr g)
 have H2:Hid (∀ w1,Gr w w1→Calls Tryz.prog 267 #[.slice (some ⟨b,off,none⟩) n c, .func (.func 265) #[] #[]] w1 fun e w'=>e = .returned (.bool (vs.any Sv.isNull))∧Gr w1 w'):=fun w1 g=>nullIn_any b off n c vs w1 hz hbig (hv.gr g)
 have H3:Hid (∀ w1,Calls Tryz.prog 193 #[enV t] w1 fun e w'=>e = .returned (.bool (Sv.isTrue t))∧Gr w1 w'):=fun w1=>isTrue_any t w1
 clear hz hv
 have HD:Hid (Sv.decided t vs=if vs.contains t then t else if vs.any Sv.isNull then Sv.null else Sv.bool (!Sv.isTrue t)):=rfl
 generalize Sv.decided t vs=dv at *
 generalize vs.contains t=c1 at *
 generalize vs.any Sv.isNull=c2 at *
 generalize Sv.isTrue t=c3 at *
 obtain ⟨xk,xn,xs⟩:=t
 have T0:Hid (B3 ((w.alloc (.cells #[.int .i64 xk, .int .i64 xn, .string xs] 40)).alloc (.cells #[.int .i64 0, .int .i64 0, .string ⟨#[]⟩] 40)) w.heap.size (.int .i64 xk) (.int .i64 xn) (.string xs)):=(B3.new w _ _ _ _).alloc _
 have R0:Hid (B3 ((w.alloc (.cells #[.int .i64 xk, .int .i64 xn, .string xs] 40)).alloc (.cells #[.int .i64 0, .int .i64 0, .string ⟨#[]⟩] 40)) (w.heap.size+1) (.int .i64 0) (.int .i64 0) (.string ⟨#[]⟩)):=by
  have:=B3.new (w.alloc (.cells #[.int .i64 xk, .int .i64 xn, .string xs] 40)) (.int .i64 0) (.int .i64 0) (.string ⟨#[]⟩) 40
  rwa [World.size_alloc] at this
 have G0:Hid (Gr w ((w.alloc (.cells #[.int .i64 xk, .int .i64 xn, .string xs] 40)).alloc (.cells #[.int .i64 0, .int .i64 0, .string ⟨#[]⟩] 40))):=((Gr.refl w).alloc _).alloc _
 go_enter Tryz.func264,Tryz.ntmps264
 go_wp2_with fail
 refine (H1.out _ G0.out).mono ?_
 rintro e w1 ⟨rfl,g1⟩
 have T1:Hid (B3 w1 w.heap.size (.int .i64 xk) (.int .i64 xn) (.string xs)):=T0.out.gr g1
 have R1:Hid (B3 w1 (w.heap.size+1) (.int .i64 0) (.int .i64 0) (.string ⟨#[]⟩)):=R0.out.gr g1
 have G1:Hid (Gr w w1):=G0.out.trans g1
 clear g1 T0 R0 G0
 cases c1
 ·go_wp2_with fail
  refine (H2.out _ G1.out).mono ?_
  rintro e w2 ⟨rfl,g2⟩
  have T2:Hid (B3 w2 w.heap.size (.int .i64 xk) (.int .i64 xn) (.string xs)):=T1.out.gr g2
  have R2:Hid (B3 w2 (w.heap.size+1) (.int .i64 0) (.int .i64 0) (.string ⟨#[]⟩)):=R1.out.gr g2
  have G2:Hid (Gr w w2):=G1.out.trans g2
  clear g2 T1 R1 G1
  cases c2
  ·obtain ⟨tl,t0,t1,t2,t3,t4,t5⟩:=T2.out
   go_wp2_with fail
   refine (H3.out _).mono ?_
   rintro e w3 ⟨rfl,g3⟩
   have R3:Hid (B3 w3 (w.heap.size+1) (.int .i64 0) (.int .i64 0) (.string ⟨#[]⟩)):=R2.out.gr g3
   have G3:Hid (Gr w w3):=G2.out.trans g3
   clear g3 T2 R2 G2 tl t0 t1 t2 t3 t4 t5
   go_wp2_with fail
   refine (vbool_any _ _).mono ?_
   rintro e w4 ⟨rfl,g4⟩
   have G4:Hid (Gr w w4):=G3.out.trans g4
   obtain ⟨rl,r0,r1,r2,r3,r4,r5⟩:=R3.out.gr g4
   clear g4 R3 G3
   go_wp2_with fail
   exact bodyPost_ret (v:=enV (Sv.bool (!c3))) (by simp [results,Tryz.results264,go_sem, *]) rfl ⟨by rw [HD.out];rfl,G4.out.set3 (Nat.le_succ _) _ _ _⟩
  ·go_wp2_with fail
   refine (null_any _).mono ?_
   rintro e w3 ⟨rfl,g3⟩
   have G3:Hid (Gr w w3):=G2.out.trans g3
   obtain ⟨rl,r0,r1,r2,r3,r4,r5⟩:=R2.out.gr g3
   clear g3 R2 G2
   go_wp2_with fail
   exact bodyPost_ret (v:=enV Sv.null) (by simp [results,Tryz.results264,go_sem, *]) rfl ⟨by rw [HD.out];rfl,G3.out.set3 (Nat.le_succ _) _ _ _⟩
 ·obtain ⟨tl,t0,t1,t2,t3,t4,t5⟩:=T1.out
  obtain ⟨rl,r0,r1,r2,r3,r4,r5⟩:=R1.out
  go_wp2_with fail
  exact bodyPost_ret (v:=enV ⟨xk,xn,xs⟩) (by simp [results,Tryz.results264,go_sem, *]) rfl ⟨by rw [HD.out];rfl,G1.out.set3 (Nat.le_succ _) _ _ _⟩
def Rw (n₀:Nat) (w:World) (v:Value) (vs:List Sv.Val):Prop:=
 (v = .slice none 0 0∧vs = [])∨∃ b off c,v = .slice (some ⟨b,off,none⟩) vs.length c∧b<n₀∧Hv w b off vs
theorem Hv.below {n₀:Nat} {w w' : World} {b off:Nat} {vs:List Sv.Val} (h:Hv w b off vs) (g:Below n₀ w w') (hs:w.heap.size≤w'.heap.size) (hb:b<n₀):Hv w' b off vs:=
 ⟨Nat.lt_of_lt_of_le h.lb hs,fun j hj=>(g.cell (p:=⟨b,_,none⟩) hb).trans (h.k j hj),fun j hj=>(g.cell (p:=⟨b,_,none⟩) hb).trans (h.n j hj),fun j hj=>(g.cell (p:=⟨b,_,none⟩) hb).trans (h.s j hj)⟩
theorem Rw.below {n₀:Nat} {w w' : World} {v:Value} {vs:List Sv.Val} (h:Rw n₀ w v vs) (g:Below n₀ w w'):Rw n₀ w' v vs:=by
 rcases h with h | ⟨b,off,c,e,hb,hv⟩
 ·exact .inl h
 ·exact .inr ⟨b,off,c,e,hb,hv.below g g.size hb⟩
structure Rws (n₀:Nat) (w:World) (rb ro:Nat) (rs:List (List Sv.Val)):Prop where
 lb:rb<n₀
 at_:∀ i,(h:i<rs.length)→∃ v,w.cell? ⟨rb,ro+i,none⟩=some v∧Rw n₀ w v rs[i]
theorem Rws.below {n₀:Nat} {w w' : World} {rb ro:Nat} {rs:List (List Sv.Val)} (h:Rws n₀ w rb ro rs) (g:Below n₀ w w'):Rws n₀ w' rb ro rs:=
 ⟨h.lb,fun i hi=>by obtain ⟨v,h1,h2⟩:=h.at_ i hi;exact ⟨v,(g.cell (p:=⟨rb,_,none⟩) h.lb).trans h1,h2.below g⟩⟩
structure TV where
 name:ByteArray
 ca:Option Addr
 cl:Nat
 cc:Nat
 ra:Option Addr
 rl:Nat
 rc:Nat
abbrev TV.cv (t:TV):Value := .slice t.ca t.cl t.cc
abbrev TV.rv (t:TV):Value := .slice t.ra t.rl t.rc
abbrev enT (t:TV):Value := .agg #[.string t.name,t.cv,t.rv]
def noT:TV:=⟨⟨#[]⟩,none,0,0,none,0,0⟩
structure Lt (w:World) (b off:Nat) (ts:List TV):Prop where
 lb:b<w.heap.size
 n:∀ j,(h:j<ts.length)→w.cell? ⟨b,off+j*3,none⟩=some (.string ts[j].name)
 c:∀ j,(h:j<ts.length)→w.cell? ⟨b,off+j*3+1,none⟩=some ts[j].cv
 r:∀ j,(h:j<ts.length)→w.cell? ⟨b,off+j*3+2,none⟩=some ts[j].rv
theorem Lt.gr {w w' : World} {b off:Nat} {ts:List TV} (h:Lt w b off ts) (g:Gr w w'):Lt w' b off ts:=
 ⟨Nat.lt_of_lt_of_le h.lb g.size,fun j hj=>(g.cell (p:=⟨b,_,none⟩) h.lb).trans (h.n j hj),fun j hj=>(g.cell (p:=⟨b,_,none⟩) h.lb).trans (h.c j hj),fun j hj=>(g.cell (p:=⟨b,_,none⟩) h.lb).trans (h.r j hj)⟩
def findT (x:Sp.Bs):List TV→Option TV
 | []=>none
 | t::l=>if t.name.toList == x then some t else findT x l
theorem findT_skip (x:Sp.Bs) (ts:List TV) (k:Nat) (h:k<ts.length) (e:(ts[k].name.toList == x)=false):findT x (ts.drop k)=findT x (ts.drop (k+1)):=by
 rw [List.drop_eq_getElem_cons h,findT,if_neg (by rw [e];decide)]
theorem findT_hit (x:Sp.Bs) (ts:List TV) (k:Nat) (h:k<ts.length) (e:(ts[k].name.toList == x)=true):findT x (ts.drop k)=some ts[k]:=by
 rw [List.drop_eq_getElem_cons h,findT,if_pos e]
def foundT:Option TV→Value
 | some t => .tuple #[enT t, .bool true]
 | none => .tuple #[enT noT, .bool false]
theorem find_any (b off n c:Nat) (ts:List TV) (x:ByteArray) (w:World) (hz:n=ts.length) (hbig:n≤100000) (hl:Lt w b off ts) :
  Calls Tryz.prog 146 #[.slice (some ⟨b,off,none⟩) n c, .string x] w fun e w'=>e = .returned (foundT (findT x.toList ts))∧Gr w w':=by
 have HV:=hid hl
 have HZ:=hid hz
 clear hl hz
 have R0:Hid (B3 (w.alloc (.cells #[.string ⟨#[]⟩, .slice none 0 0, .slice none 0 0] 187)) w.heap.size (.string ⟨#[]⟩) (.slice none 0 0) (.slice none 0 0)):=B3.new w _ _ _ _
 have G0:Hid (Gr w (w.alloc (.cells #[.string ⟨#[]⟩, .slice none 0 0, .slice none 0 0] 187))):=(Gr.refl w).alloc _
 have HD:Hid (findT x.toList ts=findT x.toList (ts.drop 0)):=rfl
 generalize findT x.toList ts=dv at *
 go_enter Tryz.func146,Tryz.ntmps146
 go_wp2
 generalize w.alloc (.cells #[.string ⟨#[]⟩, .slice none 0 0, .slice none 0 0] 187)=w1 at *
 go_loopw [10] (fun i wr=>∃ k:Nat,k≤n∧i = .int .i64 k∧Hid (Gr w wr)∧Hid (B3 wr w.heap.size (.string ⟨#[]⟩) (.slice none 0 0) (.slice none 0 0))∧Hid (dv=findT x.toList (ts.drop k))) (fun i _=>n - (intOf i).toNat)
 case atStart=>exact ⟨0,Nat.zero_le _,rfl,G0,R0,HD⟩
 case round=>
  obtain ⟨k,hk,rfl,HG,HB,HR⟩:=hrel
  by_cases hlt:k<n
  ·have hkz:k<ts.length:=by have:=HZ.out;omega
   have HVr:=HV.out.gr HG.out
   have c0:=HVr.n k hkz
   have c1:=HVr.c k hkz
   have c2:=HVr.r k hkz
   clear HVr
   have HS:Hid ((ts[k].name.toList == x.toList)=false→dv=findT x.toList (ts.drop (k+1))):=fun h=>HR.out.trans (findT_skip _ ts k hkz h)
   have HT:Hid ((ts[k].name.toList == x.toList)=true→dv=some ts[k]):=fun h=>HR.out.trans (findT_hit _ ts k hkz h)
   obtain ⟨⟨tn,ta,tl,tc,ra,rl,rc⟩,ht⟩:∃ t,ts[k]=t:=⟨_,rfl⟩
   rw [ht] at c0 c1 c2 HS HT
   clear ht HR
   dsimp only [TV.cv,TV.rv] at c0 c1 c2 HS HT
   have HB' : Hid (B3 (wr.alloc (.cells #[.string tn, .slice ta tl tc, .slice ra rl rc] 187)) w.heap.size (.string ⟨#[]⟩) (.slice none 0 0) (.slice none 0 0)):=HB.out.alloc _
   have HG' : Hid (Gr w (wr.alloc (.cells #[.string tn, .slice ta tl tc, .slice ra rl rc] 187))):=HG.out.alloc _
   cases he:(tn.toList == x.toList)
   ·rw [he] at HS HT
    go_wp2_with fail
    go_roundw
    case rel=>exact ⟨k+1,by omega,by go_num,HG',HB',HS.out (by trivial)⟩
    case measure=>simp [intOf];omega
   ·rw [he] at HS HT
    obtain ⟨rl0,r0,r1,r2,r3,r4,r5⟩:=HB'.out
    go_wp2_with fail
    exact bodyPost_ret (v := .tuple #[enT ⟨tn,ta,tl,tc,ra,rl,rc⟩, .bool true]) (by simp [results,Tryz.results146,go_sem, *]) rfl ⟨by rw [HT.out (by trivial)];rfl,HG'.out.set3 (Nat.le_refl _) _ _ _⟩
  ·have HF:Hid (dv=none):=by show _=_;rw [HR.out,List.drop_of_length_le (by have:=HZ.out;omega)];rfl
   obtain ⟨rl0,r0,r1,r2,r3,r4,r5⟩:=HB.out
   go_wp2_with fail
   exact bodyPost_ret (v := .tuple #[enT noT, .bool false]) (by simp [results,Tryz.results146,go_sem,noT, *]) rfl ⟨by rw [HF.out];rfl,HG.out.set3 (Nat.le_refl _) _ _ _⟩
theorem find_nil (x:ByteArray) (w:World) :
  Calls Tryz.prog 146 #[.slice none 0 0, .string x] w fun e w'=>e = .returned (foundT none)∧Gr w w':=by
 have R0:Hid (B3 (w.alloc (.cells #[.string ⟨#[]⟩, .slice none 0 0, .slice none 0 0] 187)) w.heap.size (.string ⟨#[]⟩) (.slice none 0 0) (.slice none 0 0)):=B3.new w _ _ _ _
 have G0:Hid (Gr w (w.alloc (.cells #[.string ⟨#[]⟩, .slice none 0 0, .slice none 0 0] 187))):=(Gr.refl w).alloc _
 go_enter Tryz.func146,Tryz.ntmps146
 go_wp2
 generalize w.alloc (.cells #[.string ⟨#[]⟩, .slice none 0 0, .slice none 0 0] 187)=w1 at *
 go_loopw [10] (fun i wr=>i = .int .i64 0∧wr=w1) (fun _ _=>0)
 case atStart=>exact ⟨rfl,rfl⟩
 case round=>
  obtain ⟨rfl,rfl⟩:=hrel
  obtain ⟨rl0,r0,r1,r2,r3,r4,r5⟩:=R0.out
  go_wp2_with fail
  exact bodyPost_ret (v := .tuple #[enT noT, .bool false]) (by simp [results,Tryz.results146,go_sem,noT, *]) rfl ⟨rfl,G0.out.set3 (Nat.le_refl _) _ _ _⟩
structure Cols (w:World) (b off:Nat) (cs:List (ByteArray×Int)):Prop where
 lb:b<w.heap.size
 n:∀ j,(h:j<cs.length)→w.cell? ⟨b,off+j*2,none⟩=some (.string cs[j].1)
 t:∀ j,(h:j<cs.length)→w.cell? ⟨b,off+j*2+1,none⟩=some (.int .i64 cs[j].2)
theorem Cols.gr {w w' : World} {b off:Nat} {cs:List (ByteArray×Int)} (h:Cols w b off cs) (g:Gr w w'):Cols w' b off cs:=
 ⟨Nat.lt_of_lt_of_le h.lb g.size,fun j hj=>(g.cell (p:=⟨b,_,none⟩) h.lb).trans (h.n j hj),fun j hj=>(g.cell (p:=⟨b,_,none⟩) h.lb).trans (h.t j hj)⟩
def cellFrom (x:Sp.Bs):Nat→List (ByteArray×Int)→Int
 | _, []=>-1
 | k,c::l=>if c.1.toList == x then (k:Int) else cellFrom x (k+1) l
def cellNo (x:Sp.Bs) (cs:List (ByteArray×Int)):Int:=cellFrom x 0 cs
theorem cell_skip (x:Sp.Bs) (cs:List (ByteArray×Int)) (k:Nat) (h:k<cs.length) (e:(cs[k].1.toList == x)=false):cellFrom x k (cs.drop k)=cellFrom x (k+1) (cs.drop (k+1)):=by
 rw [List.drop_eq_getElem_cons h,cellFrom,if_neg (by rw [e];decide)]
theorem cell_hit (x:Sp.Bs) (cs:List (ByteArray×Int)) (k:Nat) (h:k<cs.length) (e:(cs[k].1.toList == x)=true):cellFrom x k (cs.drop k)=(k:Int):=by
 rw [List.drop_eq_getElem_cons h,cellFrom,if_pos e]
theorem cell1_any (x:ByteArray) (p:Nat) (cn:ByteArray) (ct:Int) (w:World) (hp:p<w.heap.size) (hx:w.cell? ⟨p,0,none⟩=some (.string x)) :
  Calls Tryz.prog 219 #[.agg #[.string cn, .int .i64 ct], .pointer (some ⟨p,0,none⟩)] w fun e w'=>e = .returned (.bool (cn.toList == x.toList))∧Gr w w':=by
 have hx1:(w.alloc (.cells #[.string cn, .int .i64 ct] 264)).cell? ⟨p,0,none⟩=some (.string x):=(((Gr.refl w).alloc _).cell (p:=⟨p,0,none⟩) hp).trans hx
 go_enter Tryz.func219,Tryz.ntmps219
 go_wp2
 go_ret
 exact ⟨rfl,(Gr.refl w).alloc _⟩
theorem colIndex_any (b off n c p:Nat) (cs:List (ByteArray×Int)) (x:ByteArray) (w:World) (hz:n=cs.length) (hbig:n≤100000) (hl:Cols w b off cs) (hp:p<w.heap.size) (hx:w.cell? ⟨p,0,none⟩=some (.string x)) :
  Calls Tryz.prog 218 #[.slice (some ⟨b,off,none⟩) n c, .func (.func 219) #[] #[.pointer (some ⟨p,0,none⟩)]] w fun e w'=>e = .returned (.int .i64 (cellNo x.toList cs))∧Gr w w':=by
 have HV:=hid hl
 have HZ:=hid hz
 have HP:=hid hx
 clear hl hz hx
 have HD:Hid (cellNo x.toList cs=cellFrom x.toList 0 (cs.drop 0)):=rfl
 generalize cellNo x.toList cs=dv at *
 go_enter Tryz.func218,Tryz.ntmps218
 go_wp2
 go_loopw [8] (fun i wr=>∃ k:Nat,k≤n∧i = .int .i64 k∧Hid (Gr w wr)∧Hid (dv=cellFrom x.toList k (cs.drop k))) (fun i _=>n - (intOf i).toNat)
 case atStart=>exact ⟨0,Nat.zero_le _,rfl,Gr.refl _,HD⟩
 case round=>
  obtain ⟨k,hk,rfl,HG,HR⟩:=hrel
  by_cases hlt:k<n
  ·have hkz:k<cs.length:=by have:=HZ.out;omega
   have HVr:=HV.out.gr HG.out
   have c0:=HVr.n k hkz
   have c1:=HVr.t k hkz
   clear HVr
   have HS:Hid ((cs[k].1.toList == x.toList)=false→dv=cellFrom x.toList (k+1) (cs.drop (k+1))):=fun h=>HR.out.trans (cell_skip _ cs k hkz h)
   have HT:Hid ((cs[k].1.toList == x.toList)=true→dv=(k:Int)):=fun h=>HR.out.trans (cell_hit _ cs k hkz h)
   have HC:Hid (Calls Tryz.prog 219 #[.agg #[.string cs[k].1, .int .i64 cs[k].2], .pointer (some ⟨p,0,none⟩)] wr fun e w'=>e = .returned (.bool (cs[k].1.toList == x.toList))∧Gr wr w'):=cell1_any x p _ _ wr (Nat.lt_of_lt_of_le hp HG.out.size) ((HG.out.cell (p:=⟨p,0,none⟩) hp).trans HP.out)
   generalize (cs[k].1.toList == x.toList)=bb at HC HS HT
   generalize cs[k].1=cn at c0 HC
   generalize cs[k].2=ct at c1 HC
   clear HR
   go_wp2_with fail
   refine Calls.mono HC.out ?_
   rintro e w2 ⟨rfl,g2⟩
   have HG':=hid (HG.out.trans g2)
   clear g2
   cases bb
   ·go_wp2_with fail
    go_roundw
    case rel=>exact ⟨k+1,by omega,by go_num,HG',HS.out (by trivial)⟩
    case measure=>simp [intOf];omega
   ·go_wp2_with fail
    go_ret
    exact ⟨ret_int (HT.out (by trivial)).symm,HG'.out⟩
  ·have HF:Hid (dv=-1):=by show _=_;rw [HR.out,List.drop_of_length_le (by have:=HZ.out;omega)];rfl
   go_wp2_with fail
   go_ret
   exact ⟨ret_int HF.out.symm,HG.out⟩
theorem tcell_any (t:TV) (b off:Nat) (cs:List (ByteArray×Int)) (x:ByteArray) (w:World) (hca:t.ca=some ⟨b,off,none⟩) (hcl:t.cl=cs.length) (hbig:cs.length≤100000) (hl:Cols w b off cs) :
  Calls Tryz.prog 178 #[enT t, .string x] w fun e w'=>e = .returned (.int .i64 (cellNo x.toList cs))∧Gr w w':=by
 obtain ⟨tn,ta,tl,tc,ra,rl,rc⟩:=t
 simp only [] at hca hcl
 subst hca hcl
 have G0:Hid (Gr w ((w.alloc (.cells #[.string tn, .slice (some ⟨b,off,none⟩) cs.length tc, .slice ra rl rc] 187)).alloc (.cells #[.string x] 9))):=((Gr.refl w).alloc _).alloc _
 have HC:Hid (Calls Tryz.prog 218 #[.slice (some ⟨b,off,none⟩) cs.length tc, .func (.func 219) #[] #[.pointer (some ⟨w.heap.size+1,0,none⟩)]] ((w.alloc (.cells #[.string tn, .slice (some ⟨b,off,none⟩) cs.length tc, .slice ra rl rc] 187)).alloc (.cells #[.string x] 9)) fun e w'=>e = .returned (.int .i64 (cellNo x.toList cs))∧Gr ((w.alloc (.cells #[.string tn, .slice (some ⟨b,off,none⟩) cs.length tc, .slice ra rl rc] 187)).alloc (.cells #[.string x] 9)) w'):=
  colIndex_any b off cs.length tc (w.heap.size+1) cs x _ rfl hbig (hl.gr G0.out) (by simp) (by
   have h:=World.cell?_alloc_new (w.alloc (.cells #[.string tn, .slice (some ⟨b,off,none⟩) cs.length tc, .slice ra rl rc] 187)) #[Value.string x] 9 0
   rw [World.size_alloc] at h
   exact h)
 go_enter Tryz.func178,Tryz.ntmps178
 go_wp2_with fail
 refine Calls.mono HC.out ?_
 rintro e w2 ⟨rfl,g2⟩
 go_wp2_with fail
 go_ret
 exact ⟨rfl,G0.out.trans g2⟩
structure Fc (cb lo hi:Nat) (w w' : World):Prop where
 os:w'.os=w.os
 tape:w'.tape=w.tape
 output:w'.output=w.output
 size:w.heap.size≤w'.heap.size
 block:∀ k,k<w.heap.size→k≠cb→¬ (lo≤k∧k<hi)→w'.heap[k]?=w.heap[k]?
 slc:∀ k,k<w.heap.size→k≠cb→(∃ a n c,w.cell? ⟨k,0,none⟩=some (.slice a n c))→w'.heap[k]?=w.heap[k]?
theorem Fc.refl (cb lo hi:Nat) (w:World):Fc cb lo hi w w:=⟨rfl,rfl,rfl,Nat.le_refl _,fun _ _ _ _=>rfl,fun _ _ _ _=>rfl⟩
theorem Fc.trans {cb lo hi:Nat} {x y z:World} (h:Fc cb lo hi x y) (k:Fc cb lo hi y z):Fc cb lo hi x z:=
 ⟨k.os.trans h.os,k.tape.trans h.tape,k.output.trans h.output,Nat.le_trans h.size k.size,fun i hi hb hn=>(k.block i (Nat.lt_of_lt_of_le hi h.size) hb hn).trans (h.block i hi hb hn),
  fun i hi hb hs=>(k.slc i (Nat.lt_of_lt_of_le hi h.size) hb (by obtain ⟨a,n,c,e⟩:=hs;exact ⟨a,n,c,(World.cell?_of_block (w:=x) (a:=⟨i,0,none⟩) (h.slc i hi hb ⟨a,n,c,e⟩)).trans e⟩)).trans (h.slc i hi hb hs)⟩
theorem Fc.of {cb lo hi:Nat} {w w' : World} (h:Kept cb w w'):Fc cb lo hi w w':=⟨h.os,h.tape,h.output,h.size,fun k hk hb _=>h.block k hk hb,fun k hk hb _=>h.block k hk hb⟩
theorem Fc.gr {cb lo hi:Nat} {w w' : World} (g:Gr w w'):Fc cb lo hi w w':=Fc.of (Kept.below g.below)
theorem Fc.wide {cb lo hi lo' hi' : Nat} {w w' : World} (h:Fc cb lo hi w w') (a:lo'≤lo) (b:hi≤hi'):Fc cb lo' hi' w w':=⟨h.os,h.tape,h.output,h.size,fun k hk hb hn=>h.block k hk hb (by omega),h.slc⟩
theorem Fc.cell {cb lo hi:Nat} {w w' : World} (h:Fc cb lo hi w w') {p:Addr} (hp:p.block<w.heap.size) (hb:p.block≠cb) (hn:¬ (lo≤p.block∧p.block<hi)):w'.cell? p=w.cell? p:=World.cell?_of_block (w:=w) (h.block p.block hp hb hn)
theorem Fc.frozen {cb lo hi:Nat} {w w' : World} (h:Fc cb lo hi w w') {p:Addr} (hp:p.block<w.heap.size) (hb:p.block≠cb) (hn:¬ (lo≤p.block∧p.block<hi)):w'.frozen? p=w.frozen? p:=World.frozen?_of_block (w:=w) (h.block p.block hp hb hn)
theorem Fc.alloc {cb lo hi:Nat} {a w:World} (h:Fc cb lo hi a w) (o:Obj):Fc cb lo hi a (w.alloc o):=h.trans (Fc.gr ((Gr.refl w).alloc o))
theorem Fc.drewN {cb lo hi:Nat} {a w:World} (h:Fc cb lo hi a w) (n:Nat):Fc cb lo hi a (w.drewN n):=h.trans (Fc.gr ((Gr.refl w).drewN n))
theorem Kept.gr {b:Nat} {w w' : World} (g:Gr w w'):Kept b w w':=Kept.below g.below
structure CB (cb:Nat) (tv:Value) (c:Sp.CS) (w:World):Prop where
 lt:cb<w.heap.size
 c0:w.cell? ⟨cb,0,none⟩=some tv
 c1:w.cell? ⟨cb,1,none⟩=some (.int .i64 (c.err:Nat))
 c2:w.cell? ⟨cb,2,none⟩=some (.int .i64 (c.at_:Nat))
 c3:w.cell? ⟨cb,3,none⟩=some (.bool c.much)
 fz:∀ o,w.frozen? ⟨cb,o,none⟩=false
theorem CB.same {cb:Nat} {tv:Value} {c:Sp.CS} {w w' : World} (h:CB cb tv c w) (hs:w.heap.size≤w'.heap.size) (e:w'.heap[cb]?=w.heap[cb]?):CB cb tv c w':=by
 have hc:∀ o,w'.cell? ⟨cb,o,none⟩=w.cell? ⟨cb,o,none⟩:=fun o=>World.cell?_of_block (w:=w) (a:=⟨cb,o,none⟩) e
 exact ⟨Nat.lt_of_lt_of_le h.lt hs,(hc 0).trans h.c0,(hc 1).trans h.c1,(hc 2).trans h.c2,(hc 3).trans h.c3,fun o=>(World.frozen?_of_block (w:=w) (a:=⟨cb,o,none⟩) e).trans (h.fz o)⟩
theorem CB.gr {cb:Nat} {tv:Value} {c:Sp.CS} {w w' : World} (h:CB cb tv c w) (g:Gr w w'):CB cb tv c w':=h.same g.size (g.below.block cb h.lt)
theorem CB.alloc {cb:Nat} {tv:Value} {c:Sp.CS} {w:World} (h:CB cb tv c w) (o:Obj):CB cb tv c (w.alloc o):=h.gr ((Gr.refl w).alloc o)
theorem CB.drewN {cb:Nat} {tv:Value} {c:Sp.CS} {w:World} (h:CB cb tv c w) (n:Nat):CB cb tv c (w.drewN n):=h.gr ((Gr.refl w).drewN n)
theorem CB.put {cb:Nat} {tv:Value} {c:Sp.CS} {w:World} (h:CB cb tv c w) (q o:Nat) (hq:q≠cb) (u:Value):CB cb tv c (w.setCell ⟨q,o,none⟩ u):=h.same (by simp [World.setCell]) (Below.heap_setCell _ _ _ _ (Ne.symm hq))
def Cp (cb:Nat) (tv:Value) (c:Sp.CS) (w w' : World):Prop:=CB cb tv c w'∧Kept cb w w'
theorem cfail_any {cb:Nat} {tv:Value} {c:Sp.CS} {w:World} (h:CB cb tv c w) (x a:Nat) :
  Calls Tryz.prog 177 #[.pointer (some ⟨cb,0,none⟩), .int .i64 (x:Nat), .int .i64 (a:Nat)] w fun r w'=>r = .returned (.tuple #[])∧CB cb tv (c.fail x a) w'∧Kept cb w w':=by
 have HH:=hid h
 obtain ⟨lt,c0,c1,c2,c3,fz⟩:=h
 have f1:=fz 1
 have f2:=fz 2
 have FZ:=hid fz
 clear fz
 obtain ⟨ce,ca,cm⟩:=c
 simp only [] at c1 c2 c3
 by_cases hc:ce=0
 ·subst hc
  have c1' : w.cell? ⟨cb,1,none⟩=some (.int .i64 0):=c1
  clear c1
  go_enter Tryz.func177,Tryz.ntmps177
  go_wp2
  go_end0
  refine ⟨rfl,⟨by simpa [World.setCell] using lt,by go_simp,?_,?_,?_,fun o=>by have:=FZ.out o;go_simp⟩,((Kept.refl cb w).setCell 1 _).setCell 2 _⟩
  all_goals simp only [Sp.CS.fail]
  all_goals go_simp
  all_goals rfl
 ·have hn:((ce:Int) != 0)=true:=by simp;omega
  have HC:Hid ((⟨ce,ca,cm⟩:Sp.CS).fail x a=⟨ce,ca,cm⟩):=by show _=_;simp [Sp.CS.fail,hc]
  go_enter Tryz.func177,Tryz.ntmps177
  go_wp2
  go_end0
  exact ⟨rfl,by rw [HC.out];exact HH.out,Kept.refl cb w⟩
structure Hi (w:World) (b off:Nat) (l:List Int):Prop where
 lb:b<w.heap.size
 n:∀ j,(h:j<l.length)→w.cell? ⟨b,off+j,none⟩=some (.int .i64 l[j])
theorem Hi.gr {w w' : World} {b off:Nat} {l:List Int} (h:Hi w b off l) (g:Gr w w'):Hi w' b off l:=
 ⟨Nat.lt_of_lt_of_le h.lb g.size,fun j hj=>(g.cell (p:=⟨b,_,none⟩) h.lb).trans (h.n j hj)⟩
theorem Hi.kept {cb:Nat} {w w' : World} {b off:Nat} {l:List Int} (h:Hi w b off l) (k:Kept cb w w') (hb:b≠cb):Hi w' b off l:=
 ⟨Nat.lt_of_lt_of_le h.lb k.size,fun j hj=>(k.cell (p:=⟨b,_,none⟩) h.lb hb).trans (h.n j hj)⟩
def Si (w:World) (v:Value) (l:List Int):Prop:=(v = .slice none 0 0∧l = [])∨∃ b off c,v = .slice (some ⟨b,off,none⟩) l.length c∧Hi w b off l
theorem Si.gr {w w' : World} {v:Value} {l:List Int} (h:Si w v l) (g:Gr w w'):Si w' v l:=by
 rcases h with h | ⟨b,off,c,e,h⟩
 ·exact .inl h
 ·exact .inr ⟨b,off,c,e,h.gr g⟩
theorem fit_stop (f t:Int) (l:List Int) (h1:f≠0) (h2:t≠0) (h3:t≠f):Sp.fitF f (t::l)=(0,false):=by
 simp [Sp.fitF,h1,h2,h3]
theorem fit_go (f t:Int) (l:List Int) (h1:f≠0) (h2:t=0∨t=f):Sp.fitF f (t::l)=Sp.fitF f l:=by
 rcases h2 with h | h <;> simp [Sp.fitF,h1,h]
theorem fit_none (t:Int) (l:List Int):Sp.fitF 0 (t::l)=Sp.fitF t l:=by simp [Sp.fitF]
theorem fitS_any (b off n c:Nat) (l:List Int) (w:World) (hz:n=l.length) (hbig:n≤100000) (hl:Hi w b off l) :
  Calls Tryz.prog 220 #[.slice (some ⟨b,off,none⟩) n c] w fun e w'=>e = .returned (.tuple #[.int .i64 (Sp.fit l).1, .bool (Sp.fit l).2])∧Gr w w':=by
 have HV:=hid hl
 have HZ:=hid hz
 clear hl hz
 have HD:Hid (Sp.fit l=Sp.fitF 0 (l.drop 0)):=rfl
 generalize Sp.fit l=dv at *
 go_enter Tryz.func220,Tryz.ntmps220
 go_wp2
 go_loopw [4,9] (fun f i wr=>∃ (k:Nat) (q:Int),k≤n∧i = .int .i64 k∧f = .int .i64 q∧Hid (Gr w wr)∧Hid (dv=Sp.fitF q (l.drop k))) (fun _ i _=>n - (intOf i).toNat)
 case atStart=>exact ⟨0,0,Nat.zero_le _,rfl,rfl,Gr.refl _,HD⟩
 case round=>
  obtain ⟨k,q,hk,rfl,rfl,HG,HR⟩:=hrel
  by_cases hlt:k<n
  ·have hkz:k<l.length:=by have:=HZ.out;omega
   have HVr:=HV.out.gr HG.out
   have c0:=HVr.n k hkz
   clear HVr
   have HS:Hid (dv=Sp.fitF q (l[k]::l.drop (k+1))):=by show _=_;rw [HR.out,List.drop_eq_getElem_cons hkz]
   generalize l[k]=t at c0 HS
   clear HR
   by_cases h1:q=0
   ·subst h1
    have HN:Hid (dv=Sp.fitF t (l.drop (k+1))):=by show _=_;rw [HS.out,fit_none]
    clear HS
    go_wp2_with fail
    go_roundw
    case rel=>exact ⟨k+1,t,by omega,by go_num,rfl,HG,HN⟩
    case measure=>simp [intOf];omega
   ·have e1:(q == 0)=false:=by simpa using h1
    by_cases h2:t=0
    ·subst h2
     have HN:Hid (dv=Sp.fitF q (l.drop (k+1))):=by show _=_;rw [HS.out,fit_go _ _ _ h1 (.inl rfl)]
     clear HS
     go_wp2_with fail
     go_roundw
     case rel=>exact ⟨k+1,q,by omega,by go_num,rfl,HG,HN⟩
     case measure=>simp [intOf];omega
    ·have e2:(t != 0)=true:=by simpa using h2
     by_cases h3:t=q
     ·subst h3
      have HN:Hid (dv=Sp.fitF t (l.drop (k+1))):=by show _=_;rw [HS.out,fit_go _ _ _ h1 (.inr rfl)]
      clear HS
      go_wp2_with fail
      go_roundw
      case rel=>exact ⟨k+1,t,by omega,by go_num,rfl,HG,HN⟩
      case measure=>simp [intOf];omega
     ·have e3:(t != q)=true:=by simpa using h3
      have HN:Hid (dv=(0,false)):=by show _=_;rw [HS.out,fit_stop _ _ _ h1 h2 h3]
      clear HS
      go_wp2_with fail
      exact bodyPost_ret (v := .tuple #[.int .i64 0, .bool false]) (by simp [results,Tryz.results220,go_sem, *]) rfl ⟨by rw [HN.out],HG.out⟩
  ·have HF:Hid (dv=(q,true)):=by show _=_;rw [HR.out,List.drop_of_length_le (by have:=HZ.out;omega)];rfl
   go_wp2_with fail
   exact bodyPost_ret (v := .tuple #[.int .i64 q, .bool true]) (by simp [results,Tryz.results220,go_sem, *]) rfl ⟨by rw [HF.out],HG.out⟩
theorem fitN_any (w:World) :
  Calls Tryz.prog 220 #[.slice none 0 0] w fun e w'=>e = .returned (.tuple #[.int .i64 (Sp.fit []).1, .bool (Sp.fit []).2])∧Gr w w':=by
 go_enter Tryz.func220,Tryz.ntmps220
 go_wp2
 go_loopw [4,9] (fun f i wr=>i = .int .i64 0∧f = .int .i64 0∧wr=w) (fun _ _ _=>0)
 case atStart=>exact ⟨rfl,rfl,rfl⟩
 case round=>
  obtain ⟨rfl,rfl,rfl⟩:=hrel
  go_wp2_with fail
  exact bodyPost_ret (v := .tuple #[.int .i64 0, .bool true]) (by simp [results,Tryz.results220,go_sem, *]) rfl ⟨rfl,Gr.refl _⟩
theorem fit_any {w:World} {v:Value} {l:List Int} (h:Si w v l) (hb:l.length≤100000) :
  Calls Tryz.prog 220 #[v] w fun e w'=>e = .returned (.tuple #[.int .i64 (Sp.fit l).1, .bool (Sp.fit l).2])∧Gr w w':=by
 rcases h with ⟨rfl,rfl⟩ | ⟨b,off,c,rfl,h⟩
 ·exact fitN_any w
 ·exact fitS_any b off _ c l w rfl hb h
theorem Si.kept {cb:Nat} {w w' : World} {v:Value} {l:List Int} (h:Si w v l) (k:Kept cb w w') (hb:∀ b off n c,v = .slice (some ⟨b,off,none⟩) n c→b≠cb):Si w' v l:=by
 rcases h with h | ⟨b,off,c,e,h⟩
 ·exact .inl h
 ·exact .inr ⟨b,off,c,e,h.kept k (hb _ _ _ _ e)⟩
theorem expectFit_any {cb:Nat} {tv:Value} {c:Sp.CS} {w:World} (h:CB cb tv c w) (a:Nat) {v:Value} {l:List Int} (hl:Si w v l) (hbig:l.length≤100000) :
  Calls Tryz.prog 181 #[.pointer (some ⟨cb,0,none⟩), .int .i64 (a:Nat),v] w fun r w'=>r = .returned (.int .i64 (c.fit a l).1)∧CB cb tv (c.fit a l).2 w'∧Kept cb w w':=by
 have HH:=hid h
 have HF:Hid (Calls Tryz.prog 220 #[v] w fun e w'=>e = .returned (.tuple #[.int .i64 (Sp.fit l).1, .bool (Sp.fit l).2])∧Gr w w'):=fit_any hl hbig
 obtain ⟨sa,sn,sc,rfl⟩:∃ sa sn sc,v = .slice sa sn sc:=by
  rcases hl with ⟨e,_⟩ | ⟨b,off,c,e,_⟩ <;> exact ⟨_,_,_,e⟩
 clear h hl
 have HV:Hid ((c.fit a l).1=(Sp.fit l).1∧(c.fit a l).2=if (Sp.fit l).2 then c else c.fail 5 a):=⟨rfl,rfl⟩
 generalize (c.fit a l).1=r1 at *
 generalize (c.fit a l).2=r2 at *
 generalize (Sp.fit l).1=q1 at *
 generalize (Sp.fit l).2=q2 at *
 go_enter Tryz.func181,Tryz.ntmps181
 go_wp2_with fail
 refine Calls.mono HF.out ?_
 rintro e w1 ⟨rfl,g1⟩
 have H1:Hid (CB cb tv c w1):=HH.out.gr g1
 have K1:Hid (Kept cb w w1):=Kept.gr g1
 clear g1 HF
 cases q2
 ·go_wp2_with fail
  refine (cfail_any H1.out 5 a).mono ?_
  rintro e w2 ⟨rfl,h2,k2⟩
  have H2:Hid (CB cb tv (c.fail 5 a) w2∧Kept cb w w2):=⟨h2,K1.out.trans k2⟩
  clear h2 k2
  go_wp2_with fail
  go_ret
  exact ⟨by rw [HV.out.1];rfl,by rw [HV.out.2];exact H2.out.1,H2.out.2⟩
 ·go_wp2_with fail
  go_ret
  exact ⟨by rw [HV.out.1];rfl,by rw [HV.out.2];exact H1.out,K1.out⟩
end Go.Proofs.YtgnncnhkgmhngaaGreatDoor
