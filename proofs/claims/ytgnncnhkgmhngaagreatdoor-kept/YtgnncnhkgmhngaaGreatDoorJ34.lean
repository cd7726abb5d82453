import Derived.Test.YtgnncnhkgmhngaaGreatDoorJ33
set_option maxHeartbeats 2000000
set_option maxRecDepth 100000
namespace Go.Proofs.YtgnncnhkgmhngaaGreatDoor.Sp
def okS (N:Nat):Stm->Prop
 | .create _ cols=>cols.length<=7
 | .drop _=>True
 | .insertV _ _ rows=>rows.length<=N/\∀ x∈rows,wf N x.2 .list/\x.2.len<=N/\x.2.dep<=N
 | .insertQ _ _ _=>False
 | .delete _ wh=>wf N wh .cl/\wh.dep<=N
 | .update _ _ _=>False
 | .trans _=>True
 | .query q=>wf N q .query/\q.dep<=N
theorem len_parse {s:Bs} (hp:parse s=(0,0)):s.length<=2000:=by
 unfold parse at hp
 split at hp
 ·simp at hp
 ·omega
end Go.Proofs.YtgnncnhkgmhngaaGreatDoor.Sp
namespace Go.Proofs.YtgnncnhkgmhngaaGreatDoor
open Go.RowKit Go.Sort
def LtV (w:World) (v:Value) (V:List TV):Prop:=(V = []/\v = .slice none 0 0)\/∃ b off c,v = .slice (some ⟨b,off,none⟩) V.length c/\Lt w b off V
theorem tdelete_nil (fv:Value) (w:World):Calls Tryz.prog 187 #[.slice none 0 0,fv] w fun e w'=>e = .returned (.int .i64 (-1))/\w'=w:=by
 go_enter Tryz.func187,Tryz.ntmps187
 go_wp2
 go_loopw [8] (fun i wr=>i = .int .i64 0/\wr=w) (fun _ _=>0)
 case atStart=>exact ⟨rfl,rfl⟩
 case round=>
  obtain ⟨rfl,rfl⟩:=hrel
  go_wp2_with fail
  go_ret
  exact ⟨rfl,rfl⟩
theorem tdel_nil (fv:Value) (w:World):Calls Tryz.prog 143 #[.slice none 0 0,fv] w fun e w'=>e = .returned (.slice none 0 0)/\w'=w:=by
 go_enter Tryz.func143,Tryz.ntmps143
 go_wp2_with fail
 refine (tdelete_nil _ _).mono ?_
 rintro e w1 ⟨rfl,rfl⟩
 go_wp2_with fail
 go_ret
 exact ⟨rfl,rfl⟩
theorem without_any {V:List TV} {v:Value} {x:ByteArray} {w:World} (h:LtV w v V) (hbig:V.length<=1000) :
  Calls Tryz.prog 88 #[v, .string x] w fun e w'=>∃ v',e = .returned v'/\OwT w.heap.size w' v' (keptT x.toList V)/\RowKit.Below w.heap.size w w':=by
 have GA:=hid ((Gr.refl w).alloc (.cells #[.string x] 9))
 rcases h with ⟨rfl,rfl⟩ | ⟨b,off,c,rfl,hl⟩
 ·go_enter Tryz.func88,Tryz.ntmps88
  go_wp2_with fail
  refine (tclone_nil _).mono ?_
  rintro e w1 ⟨rfl,rfl⟩
  go_wp2_with fail
  refine (tdel_nil _ _).mono ?_
  rintro e w1 ⟨rfl,rfl⟩
  go_wp2_with fail
  go_ret
  exact ⟨_,rfl,OwT.nil _ _,GA.out.below⟩
 ·have HC:=hid (tclone_any (c:=c) (hl.gr GA.out) hbig)
  go_enter Tryz.func88,Tryz.ntmps88
  go_wp2_with fail
  refine HC.out.mono ?_
  rintro e w1 ⟨v1,rfl,⟨o1,hne⟩,b1⟩
  have hz1:w.heap.size+1<=w1.heap.size:=by have:=b1.size;simpa using this
  obtain ⟨g,cap,rfl,hgz⟩:∃ g cap,v1 = .slice (some ⟨g,0,none⟩) V.length cap/\w.heap.size+1<=g:=by
   obtain ⟨_,h | ⟨g',cap,cur,hv,h0,_⟩⟩:=o1
   ·exact absurd h.1 hne
   ·exact ⟨g',cap,hv,by simpa using h0⟩
  have cx:w1.cell? ⟨w.heap.size,0,none⟩=some (.string x):=(b1.cell (p:=⟨w.heap.size,0,none⟩) (by simp)).trans (by simp)
  have HB1:Hid (RowKit.Below w.heap.size w w1):=GA.out.below.trans (b1.mono GA.out.size)
  have HD:=hid (tdelete_any o1 hbig (by omega) (by omega) cx)
  clear hne b1 o1 cx HC
  go_wp2_with fail
  refine HD.out.mono ?_
  rintro e w2 ⟨v2,rfl,⟨o2,rfl⟩,k2⟩
  have HO:Hid (OwT w.heap.size w2 (.slice (some ⟨g,0,none⟩) (keptT x.toList V).length cap) (keptT x.toList V)):=by
   obtain ⟨h1,h | ⟨g',cap',cur,hv,h0,r⟩⟩:=o2
   ·cases h.1
   ·exact ⟨h1, .inr ⟨g',cap',cur,hv,by have:w.heap.size+1<=g':=(by simpa using h0);omega,r⟩⟩
  have HB2:Hid (RowKit.Below w.heap.size w w2):=⟨k2.os.trans HB1.out.os,k2.tape.trans HB1.out.tape,k2.output.trans HB1.out.output,Nat.le_trans HB1.out.size k2.size,fun q hq=>(k2.block q (Nat.lt_of_lt_of_le hq HB1.out.size) (by omega)).trans (HB1.out.block q hq)⟩
  clear o2 k2 HD
  go_wp2_with fail
  go_ret
  exact ⟨_,rfl,HO.out,HB2.out⟩
theorem OwT.sl {base:Nat} {w:World} {v:Value} {V:List TV} (h:OwT base w v V):∃ a c,v = .slice a V.length c:=by
 obtain ⟨hl,h | ⟨g',cap,cur,hv,_⟩⟩:=h
 ·exact ⟨none,0,by rw [h.1,h.2]⟩
 ·exact ⟨_,_,hv⟩
theorem ownsT_lower {w:World} {base base' size:Nat} {e:TypeId} {v:Value} {n:Nat} {xs:List Value} (h:w.ownsRow base e size v n xs) (hb:base'<=base):w.ownsRow base' e size v n xs:=by
 obtain ⟨h1,h | ⟨g,cap,cur,hv,h0,r⟩⟩:=h
 ·exact ⟨h1, .inl h⟩
 ·exact ⟨h1, .inr ⟨g,cap,cur,hv,by omega,r⟩⟩
theorem below_grown {w w1 w5:World} {n size k:Nat} {e:TypeId} {v:Value} {xs:List Value} (b:RowKit.Below n w w1) (g:w1.grownBy w5 v.ownBlock) (o:w1.ownsRow n e size v k xs) (hn:n<=w.heap.size):RowKit.Below n w w5:=
 ⟨g.os.trans b.os,g.tape.trans b.tape,g.output.trans b.output,Nat.le_trans b.size g.size,fun q hq=>(g.block q (by have:=b.size;omega) (fun ee=>by have:=(ownsV_block o q ee.symm).1;omega)).trans (b.block q hq)⟩
theorem keptT_le (x:Sp.Bs) (V:List TV):(keptT x V).length<=V.length:=List.length_filter_le _ _
theorem newT3 (w:World) (x y z:Value) (t:TypeId):∀ j u, [x,y,z][j]?=some u->(w.alloc (.cells #[x,y,z] t)).cell? (Addr.add ⟨w.heap.size,0,none⟩ j)=some u:=by
 intro j u hj
 rw [Addr.add_lit,Nat.zero_add,World.cell?_alloc_new,<- hj]
 match j with
 | 0=>rfl
 | 1=>rfl
 | 2=>rfl
 | j+3=>rfl
theorem twith_any {V:List TV} {v:Value} {t:TV} {w:World} (h:LtV w v V) (hbig:V.length<=900) :
  Calls Tryz.prog 86 #[v,enT t] w fun e w'=>∃ v',e = .returned v'/\OwT w.heap.size w' v' (keptT t.name.toList V ++ [t])/\RowKit.Below w.heap.size w w':=by
 obtain ⟨i0,ji,jz0,jz1,jz2⟩:=info_parts infoTab
 have HX:=hid (fun (W:World) (g:Gr w W)=>without_any (x:=t.name) (show LtV W v V by
  rcases h with h | ⟨b,off,c,e,hl⟩
  ·exact .inl h
  ·exact .inr ⟨b,off,c,e,hl.gr g⟩) (by omega))
 have hvs:∃ a n c,v = .slice a n c:=by
  rcases h with ⟨_,h⟩ | ⟨b,off,c,e,hl⟩
  ·exact ⟨_,_,_,h⟩
  ·exact ⟨_,_,_,e⟩
 obtain ⟨va,vn,vc,rfl⟩:=hvs
 clear h
 have HTl:=hid (keptT_le t.name.toList V)
 have HE:Hid (enTs (keptT t.name.toList V ++ [t])=enTs (keptT t.name.toList V) ++ [.string t.name,t.cv,t.rv]/\(keptT t.name.toList V ++ [t]).length=(keptT t.name.toList V).length+1):=⟨by rw [enTs_app];rfl,by simp⟩
 unfold OwT at HX ⊢
 rw [HE.out.1,HE.out.2]
 generalize keptT t.name.toList V=U at *
 obtain ⟨tn,ca,cl,cc,ra,rl,rc⟩:=t
 simp only [TV.cv,TV.rv] at HX ⊢
 have hUl:U.length<=900:=by have:=HTl.out;omega
 have GA:=hid (((Gr.refl w).alloc (.cells #[.string tn, .slice ca cl cc, .slice ra rl rc] 187)).drew)
 have GB:=hid ((((Gr.refl w).alloc (.cells #[.string tn, .slice ca cl cc, .slice ra rl rc] 187)).alloc (.cells #[.string tn, .slice ca cl cc, .slice ra rl rc] 187)).drew)
 have HXa:=hid (HX.out _ GA.out)
 have HXb:=hid (HX.out _ GB.out)
 clear HX
 generalize hA:(w.alloc (.cells #[.string tn, .slice ca cl cc, .slice ra rl rc] 187)).drew=WA at GA HXa
 generalize hB:((w.alloc (.cells #[.string tn, .slice ca cl cc, .slice ra rl rc] 187)).alloc (.cells #[.string tn, .slice ca cl cc, .slice ra rl rc] 187)).drew=WB at GB HXb
 subst hA hB
 have hone:∀ u∈([.string tn, .slice ca cl cc, .slice ra rl rc]:List Value),u.oneCell'=true:=by intro u hu;simp at hu;rcases hu with rfl | rfl | rfl <;> rfl
 have HOne:=hid hone
 clear hone
 have nA:Hid (∀ j,((w.alloc (.cells #[.string tn, .slice ca cl cc, .slice ra rl rc] 187)).drew).cell? ⟨w.heap.size,j,none⟩=(#[.string tn, .slice ca cl cc, .slice ra rl rc]:Array Value)[j]?):=fun j=>World.cell?_alloc_new w _ _ j
 have nB:Hid (∀ j,(((w.alloc (.cells #[.string tn, .slice ca cl cc, .slice ra rl rc] 187)).alloc (.cells #[.string tn, .slice ca cl cc, .slice ra rl rc] 187)).drew).cell? ⟨w.heap.size,j,none⟩=(#[.string tn, .slice ca cl cc, .slice ra rl rc]:Array Value)[j]?):=fun j=>(((Gr.refl (w.alloc (.cells #[.string tn, .slice ca cl cc, .slice ra rl rc] 187))).alloc _).cell (p:=⟨w.heap.size,j,none⟩) (by simp)).trans (World.cell?_alloc_new w _ _ j)
 have nC:Hid (∀ j,(((w.alloc (.cells #[.string tn, .slice ca cl cc, .slice ra rl rc] 187)).alloc (.cells #[.string tn, .slice ca cl cc, .slice ra rl rc] 187)).drew).cell? ⟨w.heap.size+1,j,none⟩=(#[.string tn, .slice ca cl cc, .slice ra rl rc]:Array Value)[j]?):=fun j=>by
  have h:=World.cell?_alloc_new (w.alloc (.cells #[.string tn, .slice ca cl cc, .slice ra rl rc] 187)) #[.string tn, .slice ca cl cc, .slice ra rl rc] 187 j
  rw [World.size_alloc] at h
  exact h
 go_enter Tryz.func86,Tryz.ntmps86
 go_wp2_with fail
 go_region_law (first
  | (have _hx:=hO5;refine step_append_lies _ (by rfl) _ _ _ (by rfl) w.heap.size 187 i0 (.agg #[.string ⟨#[]⟩, .slice none 0 0, .slice none 0 0]) 3 64 Tryz.underlying113 ji jz0 jz1 jz2 rfl (by omega) v1 U.length (enTs U) (by rfl) hO5 ⟨w1.heap.size,0,none⟩ 1 1 [.string tn, .slice ca cl cc, .slice ra rl rc] (by rfl) (by rfl) (World.news_of_block (cs:=#[.string tn, .slice ca cl cc, .slice ra rl rc]) (t:=187) (fr:=(0,0)) (heap_alloc_new w1 _)) HOne.out (by omega) (by unfold maxLen;omega) (by omega) (by simp;omega) (w1.heap.size+1) (by simp) ?_;intro g' kc' w5 hown hgrow hat hlt';have hBl:=below_grown (hB5.alloc hz5 _) hgrow hO5 (Nat.le_refl _))
  | (have _hx:=hO6;refine step_append_lies _ (by rfl) _ _ _ (by rfl) w.heap.size 187 i0 (.agg #[.string ⟨#[]⟩, .slice none 0 0, .slice none 0 0]) 3 64 Tryz.underlying113 ji jz0 jz1 jz2 rfl (by omega) v1 U.length (enTs U) (by rfl) hO6 ⟨w.heap.size+1,0,none⟩ 1 1 [.string tn, .slice ca cl cc, .slice ra rl rc] (by rfl) (by rfl) hN6 HOne.out (by omega) (by unfold maxLen;omega) (by omega) (by omega) w1.heap.size rfl ?_;intro g' kc' w5 hown hgrow hat hlt';have hBl:=below_grown hB6 hgrow hO6 (Nat.le_refl _))
  | (go_simp;go_at_call 88;refine HXb.out.mono ?_;rintro e1 w1 ⟨v1,rfl,o1,b1⟩;have x0:=(b1.cell (p:=⟨w.heap.size,0,none⟩) (by simp <;> omega)).trans (nB.out 0);have x1:=(b1.cell (p:=⟨w.heap.size,1,none⟩) (by simp <;> omega)).trans (nB.out 1);have x2:=(b1.cell (p:=⟨w.heap.size,2,none⟩) (by simp <;> omega)).trans (nB.out 2);simp only [List.getElem?_toArray,List.getElem?_cons_zero,List.getElem?_cons_succ] at x0 x1 x2;have hO6:w1.ownsRow w.heap.size 187 3 v1 U.length (enTs U):=ownsT_lower o1 (by simp <;> omega);have hN6:(∀ j u,([.string tn, .slice ca cl cc, .slice ra rl rc]:List Value)[j]?=some u->w1.cell? ((⟨w.heap.size+1,0,none⟩:Addr).add j)=some u):=(fun j u hj=>by rw [Addr.add_lit,Nat.zero_add];refine (b1.cell (p:=⟨w.heap.size+1,j,none⟩) (by simp)).trans ((nC.out j).trans ?_);simpa using hj);have hz6:w.heap.size<=w1.heap.size:=Nat.le_trans GB.out.size b1.size;have hB6:RowKit.Below w.heap.size w w1:=GB.out.below.trans (b1.mono GB.out.size))
  | (go_simp;go_at_call 88;refine HXa.out.mono ?_;rintro e1 w1 ⟨v1,rfl,o1,b1⟩;have x0:=(b1.cell (p:=⟨w.heap.size,0,none⟩) (by simp)).trans (nA.out 0);have x1:=(b1.cell (p:=⟨w.heap.size,1,none⟩) (by simp)).trans (nA.out 1);have x2:=(b1.cell (p:=⟨w.heap.size,2,none⟩) (by simp)).trans (nA.out 2);simp only [List.getElem?_toArray,List.getElem?_cons_zero,List.getElem?_cons_succ] at x0 x1 x2;have hO5:(w1.alloc (.cells #[.string tn, .slice ca cl cc, .slice ra rl rc] 187)).ownsRow w.heap.size 187 3 v1 U.length (enTs U):=ownsT_lower (ownsV_below o1 ((Gr.refl w1).alloc _).below) (by simp);have hz5:w.heap.size<=w1.heap.size:=Nat.le_trans GA.out.size b1.size;have hB5:RowKit.Below w.heap.size w w1:=GA.out.below.trans (b1.mono GA.out.size)))
 all_goals
  have HX5:=hid hown
  have HX6:=hid hBl
  clear hown hgrow hat hBl x0 x1 x2 b1 o1 _hx
  go_wp2_with fail
  go_ret
  exact ⟨_,rfl,HX5.out,HX6.out⟩
end Go.Proofs.YtgnncnhkgmhngaaGreatDoor
