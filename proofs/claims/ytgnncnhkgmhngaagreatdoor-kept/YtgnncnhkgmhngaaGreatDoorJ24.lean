import Derived.Test.YtgnncnhkgmhngaaGreatDoorJ20
set_option maxHeartbeats 2000000
namespace Go.Proofs.YtgnncnhkgmhngaaGreatDoor
open Go.RowKit
attribute [local go_sem ↓] Go.wp_at_zero Go.wp_at_succ
def IsSr (v:Value):Prop:=∃ x a y c,v = .agg #[.string x, .int .i64 a, .string y, .int .i64 c]
abbrev enS (x:Sp.Nm×Sp.Nm):Value := .agg #[.string (bz x.1.1), .int .i64 (x.1.2:Nat), .string (bz x.2.1), .int .i64 (x.2.2:Nat)]
def srcT (s:Sp.Bs) (σ:Sp.St):Sp.St:=if (σ.nameT s).isCl s .name then (σ.nameT s).step s else σ.nameT s
def srcN (s:Sp.Bs) (σ:Sp.St):Sp.Nm×Sp.Nm:=(σ.nm s,if (σ.nameT s).isCl s .name then (σ.nameT s).nm s else σ.nm s)
theorem live_srcT {s:Sp.Bs} {σ:Sp.St} (h:(srcT s σ).isLive=true):(σ.nameT s).isLive=true:=by
 unfold srcT at h
 split at h
 ·exact Sp.live_step h
 ·exact h
theorem rem_srcT (s:Sp.Bs) (σ:Sp.St):Sp.rem s (srcT s σ)<=Sp.rem s σ:=by
 unfold srcT
 split
 ·exact Nat.le_trans (Sp.rem_step_le _ _) (Sp.rem_nameT _ _)
 ·exact Sp.rem_nameT _ _
theorem kind_of {c:Nat} {s:Sp.Bs} {len i:Nat} {σ:Sp.St} {w:World} {wd:ByteArray} (tk:TK s len) (hi:IX s len i σ) (_tc:TC c s w i wd):(kn (Sp.tokCl s (pos s i)) == 3)=σ.isCl s .name:=by
 cases σ with
 | live e=>
  rw [hi.2]
  show _=(Sp.tokCl s e == .name)
  cases Sp.tokCl s e <;> rfl
 | dead x a=>
  rcases tk.last i hi.1 with h | h <;> rw [h] <;> rfl
theorem agg2n {x y:ByteArray} {a c:Int} (h:Value.agg #[.string x, .int .i64 a] = .agg #[.string y, .int .i64 c]):x=y/\a=c:=by
 simp only [Value.agg.injEq] at h
 have e0:=congrArg (fun x:Array Value=>x[0]?) h
 have e1:=congrArg (fun x:Array Value=>x[1]?) h
 simp at e0 e1
 exact ⟨e0,e1⟩
theorem source_any {b c cap len:Nat} {s:Sp.Bs} {d:Nat} {σ:Sp.St} {w:World} (h:PS b c cap len s d σ w) :
  Calls Tryz.prog 217 #[.pointer (some ⟨b,0,none⟩)] w (PostV b c cap len s d (srcT s σ) w IsSr fun _ v=>v=enS (srcN s σ)):=by
 have hbw:=h.lb
 have hcw:=h.lc
 have HH:Hid (PS b c cap len s d σ (w.alloc (.cells #[.string ⟨#[]⟩, .int .i64 0, .string ⟨#[]⟩, .int .i64 0] 337))):=h.alloc _
 have HK0:Hid (Kept b w (w.alloc (.cells #[.string ⟨#[]⟩, .int .i64 0, .string ⟨#[]⟩, .int .i64 0] 337))):=(Kept.refl b w).alloc _
 have HB0:Hid (Bk (w.alloc (.cells #[.string ⟨#[]⟩, .int .i64 0, .string ⟨#[]⟩, .int .i64 0] 337)) w.heap.size [.string ⟨#[]⟩, .int .i64 0, .string ⟨#[]⟩, .int .i64 0]):=Bk.new _ _ _
 clear h
 have hfd:=tokF0
 go_enter Tryz.func217,Tryz.ntmps217
 go_wp2_with fail
 generalize w.alloc (.cells #[.string ⟨#[]⟩, .int .i64 0, .string ⟨#[]⟩, .int .i64 0] 337)=w0 at *
 refine (name_any HH.out).mono ?_
 rintro r w1 ⟨v1,rfl,hp1,hk1,⟨wd1,a1,rfl⟩,hr1⟩
 have HP1:Hid (PS b c cap len s d (σ.nameT s) (w1.alloc (.cells #[.string wd1, .int .i64 a1] 165))):=hp1.alloc _
 have HK1:Hid (Kept b w (w1.alloc (.cells #[.string wd1, .int .i64 a1] 165))):=(HK0.out.trans hk1).alloc _
 have HB1:Hid (Bk (w1.alloc (.cells #[.string wd1, .int .i64 a1] 165)) w.heap.size [.string ⟨#[]⟩, .int .i64 0, .string ⟨#[]⟩, .int .i64 0]):=(HB0.out.kept hk1 (by omega)).alloc _
 have HX1:Hid (Bk (w1.alloc (.cells #[.string wd1, .int .i64 a1] 165)) w1.heap.size [.string wd1, .int .i64 a1]):=Bk.new _ _ _
 have hz1:w.heap.size<=w1.heap.size:=(HK0.out.trans hk1).size
 have hzs:w.heap.size+1<=w1.heap.size:=Nat.lt_of_lt_of_le HB0.out.lt hk1.size
 have hne:w.heap.size≠w1.heap.size:=by omega
 have hne' : w1.heap.size≠w.heap.size:=by omega
 have HR1:Hid ((σ.nameT s).isLive=true->wd1=bz (σ.word s)/\a1=(σ.at_ s:Nat)):=fun hl=>agg2n (hr1 hl)
 obtain ⟨i,wd,hi,tc,PK⟩:=peek_any HP1.out
 have hk3:=kind_of HP1.out.tk hi tc
 have HPK:Hid (∀ w',w'=w1.alloc (.cells #[.string wd1, .int .i64 a1] 165)->Calls Tryz.prog 75 #[.pointer (some ⟨b,0,none⟩)] w' fun r w''=>r = .returned (.agg #[.int .i64 (kn (Sp.tokCl s (pos s i))), .int .i64 (Sp.tokAt s (pos s i):Nat), .string wd])/\Below (w1.alloc (.cells #[.string wd1, .int .i64 a1] 165)).heap.size (w1.alloc (.cells #[.string wd1, .int .i64 a1] 165)) w''):=fun w' e=>by subst e;exact PK
 clear hp1 hk1 hr1 hi tc PK HH HB0
 generalize kn (Sp.tokCl s (pos s i))=kk at *
 generalize Sp.tokAt s (pos s i)=aa at *
 go_wp2_with fail
 refine (HPK.out _ rfl).mono ?_
 clear HPK
 rintro r w2 ⟨rfl,hb2⟩
 generalize (w1.alloc (.cells #[.string wd1, .int .i64 a1] 165))=w1' at *
 have HP2:=hid (HP1.out.below hb2)
 have HK2:Hid (Kept b w w2):=HK1.out.trans (Kept.below hb2)
 have HB2:=hid (HB1.out.below hb2)
 have HX2:=hid (HX1.out.below hb2)
 clear hb2 HP1 HK1 HB1 HX1
 have hx:=HX2.out.lt
 have x0:=HX2.out.k0
 have x1:=HX2.out.k1
 cases hs:(σ.nameT s).isCl s .name
 ·rw [hs] at hk3
  have HV:Hid (srcT s σ=σ.nameT s/\srcN s σ=(σ.nm s,σ.nm s)):=⟨by rw [srcT,hs];rfl,by rw [srcN,hs];rfl⟩
  have c0:=HB2.out.c 0 (by decide)
  have c1:=HB2.out.c 1 (by decide)
  have c2:=HB2.out.c 2 (by decide)
  have c3:=HB2.out.c 3 (by decide)
  have f0:=HB2.out.f 0
  have f1:=HB2.out.f 1
  have f2:=HB2.out.f 2
  have f3:=HB2.out.f 3
  simp only [List.getElem_cons_zero,List.getElem_cons_succ] at c0 c1 c2 c3
  go_wp2_with fail
  exact bodyPost_ret (v := .agg #[.string wd1, .int .i64 a1, .string wd1, .int .i64 a1]) (by simp [results,Tryz.results217,go_sem, *]) rfl ⟨_,rfl,by rw [HV.out.1];exact (((HP2.out.put w.heap.size 0 (by omega) (by omega) _).put w.heap.size 1 (by omega) (by omega) _).put w.heap.size 2 (by omega) (by omega) _).put w.heap.size 3 (by omega) (by omega) _,(((HK2.out.setNew (by simp) _).setNew (by simp) _).setNew (by simp) _).setNew (by simp) _,⟨_,_,_,_,rfl⟩,fun hl=>by
   obtain ⟨e1,e2⟩:=HR1.out (live_srcT hl)
   subst e1 e2
   rw [HV.out.2];rfl⟩
 ·rw [hs] at hk3
  have HV:Hid (srcT s σ=(σ.nameT s).step s/\srcN s σ=(σ.nm s,(σ.nameT s).nm s)):=⟨by rw [srcT,hs];rfl,by rw [srcN,hs];rfl⟩
  have HNT:Hid ((σ.nameT s).nameT s=(σ.nameT s).step s):=by show _=_;rw [Sp.St.nameT,hs];rfl
  go_wp2_with fail
  go_region_held3 (fun w'=>w'.cell? ⟨w1.heap.size,0,none⟩=some (.string wd1)/\w'.cell? ⟨w1.heap.size,1,none⟩=some (.int .i64 a1)) (first | go_keep | exact ⟨y0,y1⟩ | (constructor <;> go_simp)) ((go_at_call 79;refine (name_any HP2.out.drew).mono ?_;rintro e w4 ⟨v4,rfl,hp4,hk4,⟨wd4,a4,rfl⟩,hr4⟩;rw [HNT.out] at hp4 hr4;have hk4' : Kept b w2 w4:=((Kept.refl b w2).drew).trans hk4;have hX4:=HX2.out.kept hk4' (by omega);have hB4:=HB2.out.kept hk4' (by omega);have hy:=hX4.lt;have y0:=hX4.c 0 (by simp);have y1:=hX4.c 1 (by simp);have c0:=hB4.c 0 (by decide);have c1:=hB4.c 1 (by decide);have c2:=hB4.c 2 (by decide);have c3:=hB4.c 3 (by decide);have f0:=hB4.f 0;have f1:=hB4.f 1;have f2:=hB4.f 2;have f3:=hB4.f 3;simp only [List.getElem_cons_zero,List.getElem_cons_succ] at y0 y1 c0 c1 c2 c3))
  have HP4:=hid hp4
  have HK4:Hid (Kept b w w4):=HK2.out.trans hk4'
  have HR4:Hid (((σ.nameT s).step s).isLive=true->wd4=bz ((σ.nameT s).word s)/\a4=((σ.nameT s).at_ s:Nat)):=fun hl=>agg2n (hr4 hl)
  clear hp4 hk4 hr4 hk4' hX4 hB4 x0 x1
  go_wp2_with fail
  exact bodyPost_ret (v := .agg #[.string wd1, .int .i64 a1, .string wd4, .int .i64 a4]) (by simp [results,Tryz.results217,go_sem, *]) rfl ⟨_,rfl,by rw [HV.out.1];exact (((HP4.out.put w.heap.size 0 (by omega) (by omega) _).put w.heap.size 1 (by omega) (by omega) _).put w.heap.size 2 (by omega) (by omega) _).put w.heap.size 3 (by omega) (by omega) _,(((HK4.out.setNew (by simp) _).setNew (by simp) _).setNew (by simp) _).setNew (by simp) _,⟨_,_,_,_,rfl⟩,fun hl=>by
   rw [HV.out.1] at hl
   obtain ⟨e1,e2⟩:=HR1.out (Sp.live_step hl)
   obtain ⟨e3,e4⟩:=HR4.out hl
   subst e1 e2 e3 e4
   rw [HV.out.2];rfl⟩
end Go.Proofs.YtgnncnhkgmhngaaGreatDoor
namespace Go.Proofs.YtgnncnhkgmhngaaGreatDoor
open Go.RowKit
def srcCells:List (Sp.Nm×Sp.Nm)->List Value
 | [] => []
 | ((tw,ta),(cw,ca))::r => .string (bz tw) :: .int .i64 (ta:Int) :: .string (bz cw) :: .int .i64 (ca:Int)::srcCells r
theorem srcCells_snoc:∀ (l:List (Sp.Nm×Sp.Nm)) (x:Sp.Nm×Sp.Nm),srcCells (l ++ [x])=srcCells l ++ [.string (bz x.1.1), .int .i64 (x.1.2:Int), .string (bz x.2.1), .int .i64 (x.2.2:Int)]
 | [],((_,_),(_,_))=>rfl
 | ((tw,ta),(cw,ca))::r,x=>by simp only [List.cons_append,srcCells,srcCells_snoc r x]
theorem Srcs.of {w:World} {g:Nat} : ∀ {l:List (Sp.Nm×Sp.Nm)} {off:Nat},(∀ j u,(srcCells l)[j]?=some u->w.cell? ⟨g,off+j,none⟩=some u)->Srcs w g off l
 | [],_,_=>trivial
 | ((tw,ta),(cw,ca))::r,off,h=>
  ⟨by simpa using h 0 _ rfl,h 1 _ rfl,h 2 _ rfl,h 3 _ rfl,Srcs.of fun j u hj=>by have:=h (j+4) u (by simpa [srcCells] using hj);rw [show off+4+j=off+(j+4) by omega];exact this⟩
def frT (s:Sp.Bs) (m d:Nat) (σ:Sp.St):Sp.St:=if σ.is s [44] then Sp.run s m .fromL d (σ.step s) else σ
def frN (s:Sp.Bs) (m:Nat) (σ:Sp.St):List (Sp.Nm×Sp.Nm):=if σ.is s [44] then Sp.tr.froms s m (σ.step s) else []
theorem fromL_eq (s:Sp.Bs) (m d:Nat) (σ:Sp.St):Sp.run s (m+1) .fromL d σ=frT s m d (srcT s σ):=by
 rw [Sp.run,frT,srcT]
theorem froms_eq (s:Sp.Bs) (m:Nat) (σ:Sp.St):Sp.tr.froms s (m+1) σ=srcN s σ::frN s m (srcT s σ):=by
 rw [Sp.tr.froms,frN,srcT,srcN]
 split <;> split <;> rfl
theorem infoSource:(Tryz.prog.info? 337).map (fun i=>(i.zero,i.size,i.bytes))=some (some (.agg #[.string ⟨#[]⟩, .int .i64 0, .string ⟨#[]⟩, .int .i64 0]),4,48):=by kernel_rfl
theorem listS_any {b c cap len:Nat} {s:Sp.Bs} {n d:Nat} {σ:Sp.St} {w:World} (hn:n<=1000000) (hm:32*Sp.rem s σ+2<=n+1) (hp:PS b c cap len s d σ w) :
  Calls Tryz.prog 216 #[.pointer (some ⟨b,0,none⟩), .func (.func 217) #[.pointer (some ⟨b,0,none⟩)] #[]] w (PostV b c cap len s d (Sp.run s (n+1) .fromL d σ) w IsSl fun w' v=>∃ g kc,v = .slice (some ⟨g,0,none⟩) (Sp.tr.froms s (n+1) σ).length kc/\w.heap.size<=g/\g<w'.heap.size/\Srcs w' g 0 (Sp.tr.froms s (n+1) σ)):=by
 obtain ⟨i0,ji,jz0,jz1,jz2⟩:=info_parts infoSource
 have hr:=rem_srcT s σ
 have hbw:=hp.lb
 have hcw:=hp.lc
 have h5c:=hp.h5.1
 have HP:=hid hp
 clear hp
 go_enter Tryz.func216,Tryz.ntmps216
 go_wp2_with fail
 refine (source_any HP.out).mono ?_
 rintro r w1 ⟨v1,rfl,hp1,hk1,⟨x1,y1,z1,u1,rfl⟩,hr1⟩
 have HP1:Hid (PS b c cap len s d (srcT s σ) (w1.alloc (.cells #[.string x1, .int .i64 y1, .string z1, .int .i64 u1] 337))):=hp1.alloc _
 have HK1:Hid (Kept b w (w1.alloc (.cells #[.string x1, .int .i64 y1, .string z1, .int .i64 u1] 337))):=hk1.alloc _
 have hz1':=hk1.size
 have HO1:Hid ((w1.alloc (.cells #[.string x1, .int .i64 y1, .string z1, .int .i64 u1] 337)).ownsRow w.heap.size 337 4 (.slice (some ⟨w1.heap.size,0,none⟩) 1 1) 1 [.string x1, .int .i64 y1, .string z1, .int .i64 u1]):=owns_new w1 w.heap.size hz1' 337 4 #[.string x1, .int .i64 y1, .string z1, .int .i64 u1] 1 rfl (by unfold maxLen;omega)
 have HR1:Hid ((srcT s σ).isLive=true -> [.string x1, .int .i64 y1, .string z1, .int .i64 u1]=srcCells [srcN s σ]):=fun hl=>by
  have e:=hr1 hl
  simp only [enS,Value.agg.injEq] at e
  have:=congrArg Array.toList e
  simpa [srcCells] using this
 clear hp1 hk1 hr1 HP
 go_wp2_with fail
 go_loopg [5] n (fun gm v wr=>gm<=n/\∃ (σ' : Sp.St) (ns:List (Sp.Nm×Sp.Nm)) (xs:List Value) (g k kc:Nat),v = .slice (some ⟨g,0,none⟩) k kc/\k+gm<=n+1/\32*Sp.rem s σ'<=gm/\w.heap.size<=g/\g<wr.heap.size/\Hid (k=ns.length)/\Hid (Sp.run s (n+1) .fromL d σ=frT s gm d σ')/\Hid (Sp.tr.froms s (n+1) σ=ns++frN s gm σ')/\Hid (PS b c cap len s d σ' wr)/\Hid (Kept b w wr)/\Hid (wr.ownsRow w.heap.size 337 4 (.slice (some ⟨g,0,none⟩) k kc) k xs)/\Hid (σ'.isLive=true->xs=srcCells ns))
 case atStart=>exact ⟨Nat.le_refl _,_, [srcN s σ], [Value.string x1,Value.int .i64 y1,Value.string z1,Value.int .i64 u1],w1.heap.size,1,1,rfl,by omega,by omega,hz1',by simp,rfl,fromL_eq s n d σ,froms_eq s n σ,HP1.out,HK1.out,HO1.out,HR1.out⟩
 case round=>
  obtain ⟨hmn,σ',ns,xs,g,k,kc,rfl,hkg,hms,hgw,hgr,HKN,HR,HRT,HPr,HKr,HOr,HRr⟩:=hrel
  cases hs:σ'.is s [44]
  ·have HV:Hid (frT s gk d σ'=σ'):=by show _=_;rw [frT,hs];rfl
   have HVT:Hid (frN s gk σ' = []):=by show _=_;rw [frN,hs];rfl
   have HT:Hid (σ'.take s [44]=σ'):=take_no hs
   go_wp2_with fail
   refine (accept1 HPr.out [44] (by decide)).mono ?_
   rintro r w2 ⟨rfl,hp2,hk2⟩
   rw [HT.out] at hp2
   rw [hs]
   have HP2:Hid (PS b c cap len s d σ' w2):=hp2
   have HK2:=hid hk2
   clear hp2 hk2
   go_wp2_with fail
   go_ret
   refine ⟨_,rfl,by rw [HR.out,HV.out];exact HP2.out,HKr.out.trans HK2.out,⟨_,_,_,rfl⟩,fun hl=>?_⟩
   rw [HR.out,HV.out] at hl
   have hz2:=HK2.out.size
   have O:=owns_same HOr.out (HK2.out.block g hgr (by omega))
   have e:=HRr.out hl
   refine ⟨g,kc,?_,hgw,by omega,?_⟩
   ·have ek:(Sp.tr.froms s (n+1) σ).length=k:=by rw [HRT.out,HVT.out,List.append_nil];exact HKN.out.symm
    rw [ek];rfl
   ·rw [HRT.out,HVT.out,List.append_nil]
    refine Srcs.of fun j u hj=>?_
    rw [<- e] at hj
    have:=owns_cells O j u hj
    simpa using this
  ·have h1:=Sp.rem_step_lt hs
   obtain ⟨m,rfl⟩:∃ m,gk=m+1:=⟨gk - 1,by omega⟩
   have HV:Hid (frT s (m+1) d σ'=frT s m d (srcT s (σ'.step s))):=by show _=_;rw [frT,hs];exact fromL_eq s m d _
   have HVT:Hid (frN s (m+1) σ'=srcN s (σ'.step s)::frN s m (srcT s (σ'.step s))):=by show _=_;rw [frN,hs];exact froms_eq s m _
   have HT:Hid (σ'.take s [44]=σ'.step s):=take_yes hs
   have HL:Hid (σ'.isLive=true):=Sp.live_is hs
   have h2:=rem_srcT s (σ'.step s)
   go_wp2_with fail
   refine (accept1 HPr.out [44] (by decide)).mono ?_
   rintro r w2 ⟨rfl,hp2,hk2⟩
   rw [HT.out] at hp2
   rw [hs]
   have HP2:Hid (PS b c cap len s d (σ'.step s) w2):=hp2
   have HK2:=hid hk2
   clear hp2 hk2
   go_wp2_with fail
   refine (source_any HP2.out).mono ?_
   rintro r w3 ⟨v3,rfl,hp3,hk3,⟨x3,y3,z3,u3,rfl⟩,hr3⟩
   have HP3:=hid hp3
   have HK3:=hid hk3
   have HR3:Hid ((srcT s (σ'.step s)).isLive=true -> [Value.string x3, .int .i64 y3, .string z3, .int .i64 u3] = [.string (bz (srcN s (σ'.step s)).1.1), .int .i64 ((srcN s (σ'.step s)).1.2:Int), .string (bz (srcN s (σ'.step s)).2.1), .int .i64 ((srcN s (σ'.step s)).2.2:Int)]):=fun hl=>by
    have e:=hr3 hl
    simp only [enS,Value.agg.injEq] at e
    exact congrArg Array.toList e
   have hz2:=HK2.out.size
   have hz3:=HK3.out.size
   have hzr:=HKr.out.size
   have HO3:Hid (w3.ownsRow w.heap.size 337 4 (.slice (some ⟨g,0,none⟩) k kc) k xs):=owns_same HOr.out ((HK2.out.trans HK3.out).block g hgr (by omega))
   have HO4:Hid ((w3.alloc (.cells #[.string x3, .int .i64 y3, .string z3, .int .i64 u3] 337)).ownsRow w.heap.size 337 4 (.slice (some ⟨g,0,none⟩) k kc) k xs):=owns_same HO3.out (Below.heap_alloc _ _ _ (by omega))
   clear hp3 hk3 hr3 HP2 HPr
   go_wp2_with (at_builtin;go_must (refine wpList_append_two _ rfl (.tmp 12) (.tmp 15) 333 rfl w.heap.size 337 i0 (.agg #[.string ⟨#[]⟩, .int .i64 0, .string ⟨#[]⟩, .int .i64 0]) 4 48 Tryz.underlying333 ji jz0 jz1 jz2 rfl (by decide) g k kc xs rfl HO4.out ⟨w3.heap.size,0,none⟩ 1 [.string x3, .int .i64 y3, .string z3, .int .i64 u3] rfl rfl ?c1 ?c2 ?c3 ?c4 ?c5 ?_))
   case c1=>
    intro j u hj
    rw [Addr.add_lit,Nat.zero_add,World.cell?_alloc_new]
    simpa using hj
   case c2=>intro u hu;simp at hu;rcases hu with rfl | rfl | rfl | rfl <;> rfl
   case c3=>unfold maxLen;omega
   case c4=>omega
   case c5=>simp;omega
   intro g' kc' w5 hown hgrow hg'
   have HO5:=hid hown
   have HG5:=hid hgrow
   have hg5:=(owns_lt hown)
   clear hown hgrow hg'
   go_wp2_with fail
   go_roundg m
   case measure=>omega
   case rel=>
    have hz5:w3.heap.size+1<=w5.heap.size:=by have:=HG5.out.size;simpa using this
    have hb5:∀ q,q<w3.heap.size->q≠g->w5.heap[q]?=w3.heap[q]?:=fun q hq hn=>(HG5.out.block q (by simp;omega) (fun e=>by injection e with e;exact hn e)).trans (Below.heap_alloc _ _ _ hq)
    refine ⟨by omega,_,ns ++ [srcN s (σ'.step s)],xs ++ [Value.string x3,Value.int .i64 y3,Value.string z3,Value.int .i64 u3],g',k+1,kc',rfl,by omega,by omega,hg5.1,hg5.2,by show _=_;rw [List.length_append,<- HKN.out];rfl,by show _=_;rw [HR.out,HV.out],by show _=_;rw [HRT.out,HVT.out,List.append_assoc];rfl,HP3.out.stay (by omega) (hb5 b (by omega) (by omega)) (hb5 c (by omega) (by omega)) (hb5 5 (by omega) (by omega)),(((HKr.out.trans HK2.out).trans HK3.out).alloc _).grown HG5.out hgw,HO5.out,fun hl=>?_⟩
    rw [HRr.out HL.out,srcCells_snoc,HR3.out hl]
end Go.Proofs.YtgnncnhkgmhngaaGreatDoor
