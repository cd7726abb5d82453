import Derived.Test.YtgnncnhkgmhngaaGreatDoorJ16
import Derived.Calls
import Derived.RunT
set_option maxHeartbeats 2000000
namespace Go.Proofs.YtgnncnhkgmhngaaGreatDoor
open Sp
open Tryz
open Go.RowKit
attribute [local go_sem ↓] Go.wp_at_zero Go.wp_at_succ
def Vi (v:Value):Prop:=∃ x a y c,v = .agg #[.string x, .int .i64 a, .string y, .int .i64 c]
abbrev Vj (x:Nm×Nm):Value := .agg #[.string (bz x.1.1), .int .i64 (x.1.2:Nat), .string (bz x.2.1), .int .i64 (x.2.2:Nat)]
def lR (s:Sp.Bs) (σ:St):St:=if (σ.aD s).cP s .name then (σ.aD s).step s else σ.aD s
def o6 (s:Sp.Bs) (σ:St):Nm×Nm:=(σ.nm s,if (σ.aD s).cP s .name then (σ.aD s).nm s else σ.nm s)
theorem Hr {s:Sp.Bs} {σ:St} (h:(lR s σ).aA=true):(σ.aD s).aA=true:=by
 unfold lR at h
 split at h
 ·exact cU h
 ·exact h
theorem BT (s:Sp.Bs) (σ:St):rem s (lR s σ)<=rem s σ:=by
 unfold lR
 split
 ·exact cF (cN _ _) (dT _ _)
 ·exact dT _ _
theorem MM {c:Nat} {s:Sp.Bs} {len i:Nat} {σ:St} {w:World} {wd:ByteArray} (tk:TK s len) (hi:IX s len i σ) (_tc:TC c s w i wd):(kn (aE s (pos s i)) == 3)=σ.cP s .name:=by
 cases σ with
 | live e=>
  rw [hi.2]
  show _=(aE s e == .name)
  cases aE s e <;> rfl
 | dead x a=>
  rcases tk.last i hi.1 with h | h <;> rw [h] <;> rfl
theorem mY {x y:ByteArray} {a c:Int} (h:Value.agg #[.string x, .int .i64 a] = .agg #[.string y, .int .i64 c]):x=y/\a=c:=by
 simp only [Value.agg.injEq] at h
 have e0:=congrArg (λx:Array Value=>x[0]?) h
 have e1:=congrArg (λx:Array Value=>x[1]?) h
 simp at e0 e1
 exact ⟨e0,e1⟩
theorem uT {b c cap len:Nat} {s:Sp.Bs} {d:Nat} {σ:St} {w:World} (h:PS b c cap len s d σ w) :
  Calls prog 217 #[.pointer (some ⟨b,0,none⟩)] w (aX b c cap len s d (lR s σ) w Vi λ_ v=>v=Vj (o6 s σ)):=by
 have hbw:=h.lb
 have hcw:=h.lc
 have HH:Hid (PS b c cap len s d σ (w.alloc (.cells #[.string ⟨#[]⟩, .int .i64 0, .string ⟨#[]⟩, .int .i64 0] 337))):=h.alloc _
 have pY:Hid (Kept b w (w.alloc (.cells #[.string ⟨#[]⟩, .int .i64 0, .string ⟨#[]⟩, .int .i64 0] 337))):=(Kept.refl b w).alloc _
 have HB0:Hid (Bk (w.alloc (.cells #[.string ⟨#[]⟩, .int .i64 0, .string ⟨#[]⟩, .int .i64 0] 337)) w.heap.size [.string ⟨#[]⟩, .int .i64 0, .string ⟨#[]⟩, .int .i64 0]):=Bk.new _ _ _
 clear h
 have hfd:=Bq
 go_enter func217,ntmps217
 go_wp2_with fail
 generalize w.alloc (.cells #[.string ⟨#[]⟩, .int .i64 0, .string ⟨#[]⟩, .int .i64 0] 337)=w0 at *
 refine (name_any HH.out).mono ?_
 rintro r w1 ⟨v1,rfl,hp1,hk1,⟨oB,a1,rfl⟩,hr1⟩
 have bP:Hid (PS b c cap len s d (σ.aD s) (w1.alloc (.cells #[.string oB, .int .i64 a1] 165))):=hp1.alloc _
 have bD:Hid (Kept b w (w1.alloc (.cells #[.string oB, .int .i64 a1] 165))):=(pY.out.trans hk1).alloc _
 have HB1:Hid (Bk (w1.alloc (.cells #[.string oB, .int .i64 a1] 165)) w.heap.size [.string ⟨#[]⟩, .int .i64 0, .string ⟨#[]⟩, .int .i64 0]):=(HB0.out.kept hk1 (by omega)).alloc _
 have qY:Hid (Bk (w1.alloc (.cells #[.string oB, .int .i64 a1] 165)) w1.heap.size [.string oB, .int .i64 a1]):=Bk.new _ _ _
 have hz1:w.heap.size<=w1.heap.size:=(pY.out.trans hk1).size
 have hzs:w.heap.size+1<=w1.heap.size:=b6 HB0.out.lt hk1.size
 have hne:w.heap.size≠w1.heap.size:=by omega
 have hne' : w1.heap.size≠w.heap.size:=by omega
 have HR1:Hid ((σ.aD s).aA=true->oB=bz (σ.word s)/\a1=(σ.at_ s:Nat)):=λhl=>mY (hr1 hl)
 obtain ⟨i,wd,hi,tc,PK⟩:=bG bP.out
 have hk3:=MM bP.out.tk hi tc
 have gP:Hid (∀ w',w'=w1.alloc (.cells #[.string oB, .int .i64 a1] 165)->Calls prog 75 #[.pointer (some ⟨b,0,none⟩)] w' λr w''=>r = .returned (.agg #[.int .i64 (kn (aE s (pos s i))), .int .i64 (aP s (pos s i):Nat), .string wd])/\Below (w1.alloc (.cells #[.string oB, .int .i64 a1] 165)).heap.size (w1.alloc (.cells #[.string oB, .int .i64 a1] 165)) w''):=λw' e=>by subst e;exact PK
 clear hp1 hk1 hr1 hi tc PK HH HB0
 generalize kn (aE s (pos s i))=kk at *
 generalize aP s (pos s i)=aa at *
 go_wp2_with fail
 refine (gP.out _ rfl).mono ?_
 clear gP
 rintro r w2 ⟨rfl,hb2⟩
 generalize (w1.alloc (.cells #[.string oB, .int .i64 a1] 165))=w1' at *
 have HP2:=hid (bP.out.below hb2)
 have aY:Hid (Kept b w w2):=bD.out.trans (Kept.below hb2)
 have HB2:=hid (HB1.out.below hb2)
 have lL:=hid (qY.out.below hb2)
 clear hb2 bP bD HB1 qY
 have hx:=lL.out.lt
 have x0:=lL.out.k0
 have x1:=lL.out.k1
 cases hs:(σ.aD s).cP s .name
 ·rw [hs] at hk3
  have HV:Hid (lR s σ=σ.aD s/\o6 s σ=(σ.nm s,σ.nm s)):=⟨by rw [lR,hs];rfl,by rw [o6,hs];rfl⟩
  have c0:=HB2.out.c 0 (by decide)
  have c1:=HB2.out.c 1 (by decide)
  have c2:=HB2.out.c 2 (by decide)
  have c3:=HB2.out.c 3 (by decide)
  have f0:=HB2.out.f 0
  have f1:=HB2.out.f 1
  have f2:=HB2.out.f 2
  have f3:=HB2.out.f 3
  simp only [List.getElem_cons_zero,List.getElem_cons_succ] at c0 c1 c2 c3
  go_wp2_with fail
  exact cV (v := .agg #[.string oB, .int .i64 a1, .string oB, .int .i64 a1]) (by simp [results,results217,go_sem, *]) rfl ⟨_,rfl,by rw [HV.out.1];exact (((HP2.out.put w.heap.size 0 (by omega) (by omega) _).put w.heap.size 1 (by omega) (by omega) _).put w.heap.size 2 (by omega) (by omega) _).put w.heap.size 3 (by omega) (by omega) _,(((aY.out.aI (by simp) _).aI (by simp) _).aI (by simp) _).aI (by simp) _,⟨_,_,_,_,rfl⟩,λhl=>by
   obtain ⟨e1,e2⟩:=HR1.out (Hr hl)
   subst e1 e2
   rw [HV.out.2];rfl⟩
 ·rw [hs] at hk3
  have HV:Hid (lR s σ=(σ.aD s).step s/\o6 s σ=(σ.nm s,(σ.aD s).nm s)):=⟨by rw [lR,hs];rfl,by rw [o6,hs];rfl⟩
  have Zb:Hid ((σ.aD s).aD s=(σ.aD s).step s):=by show _=_;rw [St.aD,hs];rfl
  go_wp2_with fail
  go_region_held3 (λw'=>w'.cell? ⟨w1.heap.size,0,none⟩=some (.string oB)/\w'.cell? ⟨w1.heap.size,1,none⟩=some (.int .i64 a1)) (first | go_keep | exact ⟨y0,y1⟩ | (constructor <;> go_simp)) ((go_at_call 79;refine (name_any HP2.out.drew).mono ?_;rintro e w4 ⟨v4,rfl,gJ,hk4,⟨wd4,a4,rfl⟩,hr4⟩;rw [Zb.out] at gJ hr4;have jN : Kept b w2 w4:=((Kept.refl b w2).drew).trans hk4;have tJ:=lL.out.kept jN (by omega);have hB4:=HB2.out.kept jN (by omega);have hy:=tJ.lt;have y0:=tJ.c 0 (by simp);have y1:=tJ.c 1 (by simp);have c0:=hB4.c 0 (by decide);have c1:=hB4.c 1 (by decide);have c2:=hB4.c 2 (by decide);have c3:=hB4.c 3 (by decide);have f0:=hB4.f 0;have f1:=hB4.f 1;have f2:=hB4.f 2;have f3:=hB4.f 3;simp only [List.getElem_cons_zero,List.getElem_cons_succ] at y0 y1 c0 c1 c2 c3))
  have iD:=hid gJ
  have eS:Hid (Kept b w w4):=aY.out.trans jN
  have HR4:Hid (((σ.aD s).step s).aA=true->wd4=bz ((σ.aD s).word s)/\a4=((σ.aD s).at_ s:Nat)):=λhl=>mY (hr4 hl)
  clear gJ hk4 hr4 jN tJ hB4 x0 x1
  go_wp2_with fail
  exact cV (v := .agg #[.string oB, .int .i64 a1, .string wd4, .int .i64 a4]) (by simp [results,results217,go_sem, *]) rfl ⟨_,rfl,by rw [HV.out.1];exact (((iD.out.put w.heap.size 0 (by omega) (by omega) _).put w.heap.size 1 (by omega) (by omega) _).put w.heap.size 2 (by omega) (by omega) _).put w.heap.size 3 (by omega) (by omega) _,(((eS.out.aI (by simp) _).aI (by simp) _).aI (by simp) _).aI (by simp) _,⟨_,_,_,_,rfl⟩,λhl=>by
   rw [HV.out.1] at hl
   obtain ⟨e1,e2⟩:=HR1.out (cU hl)
   obtain ⟨e3,e4⟩:=HR4.out hl
   subst e1 e2 e3 e4
   rw [HV.out.2];rfl⟩
end Go.Proofs.YtgnncnhkgmhngaaGreatDoor
namespace Go.Proofs.YtgnncnhkgmhngaaGreatDoor
open Sp
open Tryz
open Go.RowKit
def fX:List (Nm×Nm)->List Value
 | [] => []
 | ((tw,ta),(cw,ca))::r => .string (bz tw) :: .int .i64 (ta:Int) :: .string (bz cw) :: .int .i64 (ca:Int)::fX r
theorem oS:∀ (l:List (Nm×Nm)) (x:Nm×Nm),fX (l ++ [x])=fX l ++ [.string (bz x.1.1), .int .i64 (x.1.2:Int), .string (bz x.2.1), .int .i64 (x.2.2:Int)]
 | [],((_,_),(_,_))=>rfl
 | ((tw,ta),(cw,ca))::r,x=>by simp only [List.cons_append,fX,oS r x]
theorem gN.of {w:World} {g:Nat} : ∀ {l:List (Nm×Nm)} {off:Nat},(∀ j u,(fX l)[j]?=some u->w.cell? ⟨g,off+j,none⟩=some u)->gN w g off l
 | [],_,_=>trivial
 | ((tw,ta),(cw,ca))::r,off,h=>
  ⟨by simpa using h 0 _ rfl,h 1 _ rfl,h 2 _ rfl,h 3 _ rfl,gN.of λj u hj=>by have:=h (j+4) u (by simpa [fX] using hj);rw [show off+4+j=off+(j+4) by omega];exact this⟩
def Ov (s:Sp.Bs) (m d:Nat) (σ:St):St:=if σ.is s [44] then Sp.run s m .fF d (σ.step s) else σ
def Ow (s:Sp.Bs) (m:Nat) (σ:St):List (Nm×Nm):=if σ.is s [44] then Sp.tr.froms s m (σ.step s) else []
theorem BU (s:Sp.Bs) (m d:Nat) (σ:St):Sp.run s (m+1) .fF d σ=Ov s m d (lR s σ):=by
 rw [Sp.run,Ov,lR]
theorem uU (s:Sp.Bs) (m:Nat) (σ:St):Sp.tr.froms s (m+1) σ=o6 s σ::Ow s m (lR s σ):=by
 rw [Sp.tr.froms,Ow,lR,o6]
 split <;> split <;> rfl
theorem Er:(prog.info? 337).map (λi=>(i.zero,i.size,i.bytes))=some (some (.agg #[.string ⟨#[]⟩, .int .i64 0, .string ⟨#[]⟩, .int .i64 0]),4,48):=by kernel_rfl
theorem Hs {b c cap len:Nat} {s:Sp.Bs} {n d:Nat} {σ:St} {w:World} (hn:n<=1000000) (hm:32*rem s σ+2<=n+1) (hp:PS b c cap len s d σ w) :
  Calls prog 216 #[.pointer (some ⟨b,0,none⟩), .func (.func 217) #[.pointer (some ⟨b,0,none⟩)] #[]] w (aX b c cap len s d (Sp.run s (n+1) .fF d σ) w rD λw' v=>∃ g kc,v = .slice (some ⟨g,0,none⟩) (Sp.tr.froms s (n+1) σ).length kc/\w.heap.size<=g/\g<w'.heap.size/\gN w' g 0 (Sp.tr.froms s (n+1) σ)):=by
 obtain ⟨i0,ji,fU,jz1,fV⟩:=info_parts Er
 have hr:=BT s σ
 have hbw:=hp.lb
 have hcw:=hp.lc
 have R4:=hp.h5.1
 have HP:=hid hp
 clear hp
 go_enter func216,ntmps216
 go_wp2_with fail
 refine (uT HP.out).mono ?_
 rintro r w1 ⟨v1,rfl,hp1,hk1,⟨x1,y1,z1,u1,rfl⟩,hr1⟩
 have bP:Hid (PS b c cap len s d (lR s σ) (w1.alloc (.cells #[.string x1, .int .i64 y1, .string z1, .int .i64 u1] 337))):=hp1.alloc _
 have bD:Hid (Kept b w (w1.alloc (.cells #[.string x1, .int .i64 y1, .string z1, .int .i64 u1] 337))):=hk1.alloc _
 have hz1':=hk1.size
 have MD:Hid ((w1.alloc (.cells #[.string x1, .int .i64 y1, .string z1, .int .i64 u1] 337)).ownsRow w.heap.size 337 4 (.slice (some ⟨w1.heap.size,0,none⟩) 1 1) 1 [.string x1, .int .i64 y1, .string z1, .int .i64 u1]):=jW w1 w.heap.size hz1' 337 4 #[.string x1, .int .i64 y1, .string z1, .int .i64 u1] 1 rfl (by unfold maxLen;omega)
 have HR1:Hid ((lR s σ).aA=true -> [.string x1, .int .i64 y1, .string z1, .int .i64 u1]=fX [o6 s σ]):=λhl=>by
  have e:=hr1 hl
  simp only [Vj,Value.agg.injEq] at e
  have:=congrArg Array.toList e
  simpa [fX] using this
 clear hp1 hk1 hr1 HP
 go_wp2_with fail
 go_loopg [5] n (λgm v wr=>gm<=n/\∃ (σ' : St) (ns:List (Nm×Nm)) (xs:List Value) (g k kc:Nat),v = .slice (some ⟨g,0,none⟩) k kc/\k+gm<=n+1/\32*rem s σ'<=gm/\w.heap.size<=g/\g<wr.heap.size/\Hid (k=ns.length)/\Hid (Sp.run s (n+1) .fF d σ=Ov s gm d σ')/\Hid (Sp.tr.froms s (n+1) σ=ns++Ow s gm σ')/\Hid (PS b c cap len s d σ' wr)/\Hid (Kept b w wr)/\Hid (wr.ownsRow w.heap.size 337 4 (.slice (some ⟨g,0,none⟩) k kc) k xs)/\Hid (σ'.aA=true->xs=fX ns))
 case atStart=>exact ⟨aF _,_, [o6 s σ], [Value.string x1,Value.int .i64 y1,Value.string z1,Value.int .i64 u1],w1.heap.size,1,1,rfl,by omega,by omega,hz1',by simp,rfl,BU s n d σ,uU s n σ,bP.out,bD.out,MD.out,HR1.out⟩
 case round=>
  obtain ⟨hmn,σ',ns,xs,g,k,kc,rfl,hkg,hms,hgw,hgr,BK,HR,pP,kM,hZ,HOr,s5⟩:=hrel
  cases hs:σ'.is s [44]
  ·have HV:Hid (Ov s gk d σ'=σ'):=by show _=_;rw [Ov,hs];rfl
   have cL:Hid (Ow s gk σ' = []):=by show _=_;rw [Ow,hs];rfl
   have HT:Hid (σ'.take s [44]=σ'):=bE hs
   go_wp2_with fail
   refine (aW kM.out [44] (by decide)).mono ?_
   rintro r w2 ⟨rfl,hp2,hk2⟩
   rw [HT.out] at hp2
   rw [hs]
   have HP2:Hid (PS b c cap len s d σ' w2):=hp2
   have aY:=hid hk2
   clear hp2 hk2
   go_wp2_with fail
   go_ret
   refine ⟨_,rfl,by rw [HR.out,HV.out];exact HP2.out,hZ.out.trans aY.out,⟨_,_,_,rfl⟩,λhl=>?_⟩
   rw [HR.out,HV.out] at hl
   have hz2:=aY.out.size
   have O:=bF HOr.out (aY.out.block g hgr (by omega))
   have e:=s5.out hl
   refine ⟨g,kc,?_,hgw,by omega,?_⟩
   ·have ek:(Sp.tr.froms s (n+1) σ).length=k:=by rw [pP.out,cL.out,List.append_nil];exact BK.out.symm
    rw [ek];rfl
   ·rw [pP.out,cL.out,List.append_nil]
    refine gN.of λj u hj=>?_
    rw [<- e] at hj
    have:=cH O j u hj
    simpa using this
  ·have h1:=aO hs
   obtain ⟨m,rfl⟩:∃ m,gk=m+1:=⟨gk - 1,by omega⟩
   have HV:Hid (Ov s (m+1) d σ'=Ov s m d (lR s (σ'.step s))):=by show _=_;rw [Ov,hs];exact BU s m d _
   have cL:Hid (Ow s (m+1) σ'=o6 s (σ'.step s)::Ow s m (lR s (σ'.step s))):=by show _=_;rw [Ow,hs];exact uU s m _
   have HT:Hid (σ'.take s [44]=σ'.step s):=aZ hs
   have HL:Hid (σ'.aA=true):=cS hs
   have h2:=BT s (σ'.step s)
   go_wp2_with fail
   refine (aW kM.out [44] (by decide)).mono ?_
   rintro r w2 ⟨rfl,hp2,hk2⟩
   rw [HT.out] at hp2
   rw [hs]
   have HP2:Hid (PS b c cap len s d (σ'.step s) w2):=hp2
   have aY:=hid hk2
   clear hp2 hk2
   go_wp2_with fail
   refine (uT HP2.out).mono ?_
   rintro r w3 ⟨v3,rfl,hp3,hk3,⟨x3,y3,z3,u3,rfl⟩,hr3⟩
   have dJ:=hid hp3
   have bL:=hid hk3
   have HR3:Hid ((lR s (σ'.step s)).aA=true -> [Value.string x3, .int .i64 y3, .string z3, .int .i64 u3] = [.string (bz (o6 s (σ'.step s)).1.1), .int .i64 ((o6 s (σ'.step s)).1.2:Int), .string (bz (o6 s (σ'.step s)).2.1), .int .i64 ((o6 s (σ'.step s)).2.2:Int)]):=λhl=>by
    have e:=hr3 hl
    simp only [Vj,Value.agg.injEq] at e
    exact congrArg Array.toList e
   have hz2:=aY.out.size
   have hz3:=bL.out.size
   have PE:=hZ.out.size
   have oA:Hid (w3.ownsRow w.heap.size 337 4 (.slice (some ⟨g,0,none⟩) k kc) k xs):=bF HOr.out ((aY.out.trans bL.out).block g hgr (by omega))
   have wQ:Hid ((w3.alloc (.cells #[.string x3, .int .i64 y3, .string z3, .int .i64 u3] 337)).ownsRow w.heap.size 337 4 (.slice (some ⟨g,0,none⟩) k kc) k xs):=bF oA.out (lK _ _ _ (by omega))
   clear hp3 hk3 hr3 HP2 kM
   go_wp2_with (at_builtin;go_must (refine dH _ rfl (.tmp 12) (.tmp 15) 333 rfl w.heap.size 337 i0 (.agg #[.string ⟨#[]⟩, .int .i64 0, .string ⟨#[]⟩, .int .i64 0]) 4 48 underlying333 ji fU jz1 fV rfl (by decide) g k kc xs rfl wQ.out ⟨w3.heap.size,0,none⟩ 1 [.string x3, .int .i64 y3, .string z3, .int .i64 u3] rfl rfl ?c1 ?c2 ?c3 ?c4 ?c5 ?_))
   case c1=>
    intro j u hj
    rw [Addr.add_lit,Nat.zero_add,lU]
    simpa using hj
   case c2=>intro u hu;simp at hu;rcases hu with rfl | rfl | rfl | rfl <;> rfl
   case c3=>unfold maxLen;omega
   case c4=>omega
   case c5=>simp;omega
   intro g' iE w5 hown hgrow hg'
   have wB:=hid hown
   have rK:=hid hgrow
   have hg5:=(gI hown)
   clear hown hgrow hg'
   go_wp2_with fail
   go_roundg m
   case measure=>omega
   case rel=>
    have tG:w3.heap.size+1<=w5.heap.size:=by have:=rK.out.size;simpa using this
    have hb5:∀ q,q<w3.heap.size->q≠g->w5.heap[q]?=w3.heap[q]?:=λq hq hn=>(rK.out.block q (by simp;omega) (λe=>by injection e with e;exact hn e)).trans (lK _ _ _ hq)
    refine ⟨by omega,_,ns ++ [o6 s (σ'.step s)],xs ++ [Value.string x3,Value.int .i64 y3,Value.string z3,Value.int .i64 u3],g',k+1,iE,rfl,by omega,by omega,hg5.1,hg5.2,by show _=_;rw [List.length_append,<- BK.out];rfl,by show _=_;rw [HR.out,HV.out],by show _=_;rw [pP.out,cL.out,List.append_assoc];rfl,dJ.out.stay (by omega) (hb5 b (by omega) (by omega)) (hb5 c (by omega) (by omega)) (hb5 5 (by omega) (by omega)),(((hZ.out.trans aY.out).trans bL.out).alloc _).grown rK.out hgw,wB.out,λhl=>?_⟩
    rw [s5.out HL.out,oS,HR3.out hl]
end Go.Proofs.YtgnncnhkgmhngaaGreatDoor
namespace Go.Proofs.YtgnncnhkgmhngaaGreatDoor.Dr
open Go
theorem Es {α : Type} : ∀ (q : Ask α) (w : World) (d : Nat), d <= w.drawn -> d <= (w.ask q).2.drawn
  | .done a, w, d, h => h
  | .ask what range k, w, d, h => by
    simp only [World.ask]
    split
    · exact Es _ _ _ h
    · exact Es _ _ _ (cF h (Nat.le_succ _))
theorem PL (w : World) (c : Sys) (d : Nat) (h : d <= w.drawn) : d <= (w.sys c).2.drawn := by
  have h2 := Es (Kernel.perform c w.os) w d h
  unfold World.sys
  split
  · exact h
  · rename_i r os w' _ e
    rw [e] at h2
    exact h2
def rw' {α : Type} : Result α -> World
  | .ok _ w => w
  | .halt _ w => w
theorem uV (p : Program) (w w' : World) (at_ : Addr) (u : TypeId) (k : Addr) (v : Value) (b : Bool) (l : List Addr) (h : w.viewStore p at_ u k v b = .ok (w', l)) : w'.drawn = w.drawn := by
  unfold World.viewStore at h
  simp only [bind, Except.bind, pure, Except.pure] at h
  repeat' split at h
  all_goals first | (cases h; done) | skip
  all_goals first | (cases h; rfl) | skip
  all_goals (try (simp only [Except.ok.injEq, Prod.mk.injEq] at h; obtain ⟨rfl, _⟩ := h; rfl))
theorem wS (p : Program) (w w' : World) (a : Addr) (v : Value) (b : Bool) (l : List Addr) (h : w.farStore p a v b = .ok (w', l)) : w'.drawn = w.drawn := by
  unfold World.farStore at h
  split at h
  · split at h
    · rename_i r e
      cases h
      exact uV p w w' _ _ _ _ _ _ e
    · cases h
  · cases h
theorem Kc {α : Type} (p : Program) (e : Sem α) : ∀ (w : World) (d : Nat), d <= w.drawn -> d <= (rw' (e.run p w)).drawn := by
  induction e with
  | pure a => intro w d h; exact h
  | load m a k ih =>
    intro w d h; simp only [Sem.run]; split
    · exact ih _ _ _ h
    · split
      · exact ih _ _ _ h
      · exact h
  | store m a v k ih =>
    intro w d h
    cases v <;> simp only [Sem.run] <;> first
      | exact h
      | (split
         · split
           · exact h
           · exact ih _ _ h
         · split
           · rename_i hh
             exact ih _ _ (by rw [wS p w _ a _ _ _ hh]; exact h)
           · exact h)
  | new o k ih => intro w d h; exact ih _ _ _ h
  | shape r k ih => intro w d h; exact ih _ _ _ h
  | freeze a n k ih => intro w d h; exact ih _ _ (by unfold World.freeze; split <;> exact h)
  | frozen a k ih => intro w d h; exact ih _ _ _ h
  | getObj r k ih => intro w d h; simp only [Sem.run]; split <;> first | exact h | exact ih _ _ _ h
  | setObj r o k ih => intro w d h; simp only [Sem.run]; split <;> first | exact h | exact ih _ _ h
  | choose q k ih =>
    intro w d h; simp only [Sem.run]; split
    · exact ih _ _ _ h
    · exact ih _ _ _ (cF h (Nat.le_succ _))
  | sys c k ih => intro w d h; exact ih _ _ _ (PL w c d h)
  | program k ih => intro w d h; exact ih _ _ _ h
  | mark m k ih => intro w d h; exact ih _ _ h
  | halt h => intro w d h; exact h
theorem cI {α : Type} {p : Program} {e : Sem α} {w w' : World} {a : α} {d : Nat} (h : d <= w.drawn) (hr : e.run p w = .ok a w') : d <= w'.drawn := by
  have := Kc p e w d h; rw [hr] at this; exact this
theorem run_halt {α : Type} {p : Program} {e : Sem α} {w w' : World} {a : Halt} {d : Nat} (h : d <= w.drawn) (hr : e.run p w = .halt a w') : d <= w'.drawn := by
  have := Kc p e w d h; rw [hr] at this; exact this
theorem MN {α : Type} {p : Program} {e : Sem α} {w w' : World} {a : α} {d : Nat} {es es' : Array Event} (h : d <= w.drawn) (hr : e.runT p w es = (.ok a w', es')) : d <= w'.drawn :=
  cI h (by rw [<- Sem.runT_fst p e w es, hr])
theorem Ht {α : Type} {p : Program} {e : Sem α} {w w' : World} {a : Halt} {d : Nat} {es es' : Array Event} (h : d <= w.drawn) (hr : e.runT p w es = (.halt a w', es')) : d <= w'.drawn :=
  run_halt h (by rw [<- Sem.runT_fst p e w es, hr])
theorem iJ {α : Type} {p : Program} {e : Sem α} {w w' : World} {a : α} {d : Nat} {es : Array Event} (h : d <= w.drawn) (hr : (e.runT p w es).1 = .ok a w') : d <= w'.drawn :=
  cI h (by rw [<- Sem.runT_fst p e w es, hr])
theorem jX {α : Type} {p : Program} {e : Sem α} {w w' : World} {a : Halt} {d : Nat} {es : Array Event} (h : d <= w.drawn) (hr : (e.runT p w es).1 = .halt a w') : d <= w'.drawn :=
  run_halt h (by rw [<- Sem.runT_fst p e w es, hr])
def Ge (d : Nat) : GStep -> Prop
  | .go _ w _ => d <= w.drawn
  | .comm _ _ _ _ w _ => d <= w.drawn
  | .spawn _ _ w _ => d <= w.drawn
  | .count _ w _ => d <= w.drawn
  | .timer _ _ w _ => d <= w.drawn
  | .alone _ _ w _ => d <= w.drawn
  | .newcoro _ _ _ w _ => d <= w.drawn
  | .coroswitch _ _ _ w _ => d <= w.drawn
  | .collect _ w _ => d <= w.drawn
  | .watch _ w _ => d <= w.drawn
  | .ended _ _ _ => True
theorem Ge.after {d : Nat} {s : GStep} (es : Array Event) (h : Ge d s) : Ge d (GStep.after es s) := by cases s <;> exact h
theorem Et (w : World) (fd : Nat) (t : ByteArray) (o : Outcome) (d : Nat) : Ge d (endWith w fd t o) := by
  unfold endWith
  repeat' split
  all_goals exact trivial
theorem mZ (fr : Frame) (m : String) (w : World) (d : Nat) (h : d <= w.drawn) : Ge d (endThrow fr m w) := h
theorem m7 (p : Program) (fr : Frame) (v : Value) (w : World) (d : Nat) (h : d <= w.drawn) : Ge d (endPrinting p fr v w) := by
  unfold endPrinting
  simp only []
  split
  · exact h
  · exact trivial
theorem sG (p : Program) (fr : Frame) (cs : List Frame) (dy : Option Dying) (m : String) (w : World) (d : Nat) (h : d <= w.drawn) : Ge d (endFatal p fr cs dy m w) := by
  unfold endFatal
  simp only []
  split
  · rename_i hr; exact cI h hr
  · exact trivial
  · exact trivial
theorem Eu (p : Program) (fr : Frame) (dy : Dying) (f : Fatal) (w : World) (d : Nat) (h : d <= w.drawn) : Ge d (writeOn p fr dy f w) := by
  unfold writeOn
  simp only []
  split
  · exact trivial
  · split
    · rename_i hr; exact MN h hr
    · rename_i hr; exact Ht h hr
    · exact trivial
    · exact trivial
theorem PM (p : Program) (fr : Frame) (dy : Dying) (w : World) (d : Nat) (h : d <= w.drawn) : Ge d (die p fr dy w) := by
  unfold die
  split
  · exact Eu p fr dy _ w d h
  · split
    · split
      · exact h
      · exact Et _ _ _ _ _
    · simp only []
      split
      · exact h
      · split
        · rename_i hr; exact cI h hr
        · exact trivial
      · refine Ge.after _ ?_
        split
        · rename_i hr; exact iJ h hr
        · rename_i hr; exact iJ h hr
        · exact trivial
        · rename_i hr; exact m7 _ _ _ _ _ (jX h hr)
        · exact trivial
      · exact trivial
theorem m8 (p : Program) (main : Bool) (fr : Frame) (cs : List Frame) (dy : Option Dying) (v : Value) (w : World) (d : Nat) (h : d <= w.drawn) : Ge d (doReturn p main fr cs dy v w) := by
  unfold doReturn
  repeat' split
  all_goals first | exact h | exact trivial
theorem jO {d : Nat} {c : Prop} [Decidable c] {a b : GStep} (h1 : Ge d a) (h2 : Ge d b) : Ge d (if c then a else b) := by
  split
  · exact h1
  · exact h2
theorem s6 (p : Program) (fr : Frame) (cs : List Frame) (dy : Option Dying) (df : Deferred) (w : World) (d : Nat) (h : d <= w.drawn) : Ge d (callDeferred p fr cs dy df w) := by
  unfold callDeferred
  refine jO trivial ?_
  simp only []
  refine Ge.after _ ?_
  split
  all_goals rename_i hr
  all_goals first
    | exact trivial
    | exact iJ h hr
    | exact jX h hr
    | exact sG _ _ _ _ _ _ _ (jX h hr)
    | exact mZ _ _ _ _ (jX h hr)
    | (split <;> exact iJ h hr)
theorem Hu (p : Program) (main : Bool) (fr : Frame) (cs : List Frame) (dy : Option Dying) (w : World) (d : Nat) (h : d <= w.drawn) : Ge d (unwind p main fr cs dy w) := by
  unfold unwind
  split
  · simp only []
    refine Ge.after _ ?_
    split
    · rename_i hr; exact iJ h hr
    · exact trivial
  · exact s6 _ _ _ _ _ _ _ h
  · split
    · exact trivial
    · split
      · exact trivial
      · split
        · exact h
        · split
          · split
            · exact h
            · split
              · rename_i hr; exact cI h hr
              · exact trivial
              · exact trivial
          · split
            · exact m7 _ _ _ _ _ h
            · exact trivial
    · split
      · exact m8 _ _ _ _ _ _ _ _ h
      · simp only []
        refine Ge.after _ ?_
        split
        · rename_i hr; exact m8 _ _ _ _ _ _ _ _ (iJ h hr)
        · exact trivial
        · exact trivial
theorem Ke (p : Program) (fr : Frame) (cs : List Frame) (dy : Option Dying) (g : Nat) (w : World) (d : Nat) (h : d <= w.drawn) : Ge d (early p fr cs dy g w) := by
  unfold early
  simp only []
  have hn : ∀ w : World, d <= w.drawn -> Ge d (match w.heap[g]? with
    | some (.pending c elem) => GStep.go { frame := fr, callers := cs, status := .running, dying := dy } { w with heap := w.heap.setIfInBounds g (.cells c elem) }
    | _ => .ended (.stuck "early: the variable does not wait" (fr.pos p)) w) := λw h => by
    split
    · exact h
    · exact trivial
  refine jO (hn w h) ?_
  split
  · exact trivial
  · refine jO (hn w h) ?_
    refine jO (hn w h) ?_
    split
    · exact trivial
    · exact h
    · exact trivial
    · exact hn w h
    · refine jO h ?_
      refine jO (hn w h) ?_
      split
      · rename_i hr; exact hn _ (cI h hr)
      · rename_i hr; exact cI h hr
      · exact trivial
theorem z8 {α:Type} {d:Nat} {o:Option α} {a:GStep} {f:α->GStep} (h1:Ge d a) (h2:∀ x,Ge d (f x)):Ge d (o.elim a f):=by
 cases o
 ·exact h1
 ·exact h2 _
theorem m9 (p:Program) (listen:Bool) (fr:Frame) (cs:List Frame) (dy:Option Dying) (s:Sem Next) (w:World) (d:Nat) (h:d<=w.drawn):Ge d (stepG.apply p listen fr cs dy s w):=by
 unfold stepG.apply
 simp only []
 refine Ge.after _ ?_
 have hx:(if listen then s.runT p w #[] else (s.run p w,#[])).1=s.run p w:=by
  cases listen
  ·rfl
  ·exact Sem.runT_fst p s w #[]
 rw [hx]
 split
 all_goals rename_i hr
 all_goals first
  | exact trivial
  | exact cI h hr
  | exact run_halt h hr
  | exact sG _ _ _ _ _ _ _ (run_halt h hr)
  | exact mZ _ _ _ _ (run_halt h hr)
  | exact Ke _ _ _ _ _ _ _ (run_halt h hr)
  | skip
 all_goals first
  | (split <;> exact cI h hr)
  | exact jO (mZ _ _ _ _ (cI h hr)) (cI h hr)
  | skip
theorem MO (p:Program) (listen:Bool) (fr:Frame) (cs:List Frame) (dy:Option Dying) (w:World) (d:Nat) (h:d<=w.drawn):Ge d (stepG.oper p listen fr cs dy w):=by
 unfold stepG.oper
 split
 ·exact trivial
 ·split
  ·exact m9 p _ _ _ _ _ _ _ h
  ·exact m9 p _ _ _ _ _ _ _ h
theorem MP (p:Program) (main listen:Bool) (fr:Frame) (cs:List Frame) (dy:Option Dying) (w:World) (d:Nat) (h:d<=w.drawn):Ge d (stepG.exec p main listen fr cs dy w):=by
 unfold stepG.exec
 simp only []
 have hm:∀ (c:Prop) [Decidable c] (jump:Option Code),Ge d (match fr.roundOf with
   | none => if c then GStep.go { frame := { fr with mode := .returning }, callers := cs, status := .running, dying := dy } w else .ended (.stuck "exit, goto: no such block or label" (fr.pos p)) w
   | some l=>
    GStep.after (seen p fr.fn ((Instr.endRound l jump).runT p w #[]).2) <| match ((Instr.endRound l jump).runT p w #[]).1 with
    | .ok v w=>doReturn p main fr cs dy v w
    | .halt _ w => .ended (.stuck "range over a function: no such loop" (fr.pos p)) w) := λc _ jump => by
  split
  ·exact jO h trivial
  ·refine Ge.after _ ?_
   split
   ·rename_i hr;exact m8 _ _ _ _ _ _ _ _ (iJ h hr)
   ·exact trivial
 split
 all_goals first
  | exact hm _ _
  | exact h
  | exact trivial
  | exact m9 p _ _ _ _ _ _ _ h
  | skip
 ·split
  ·exact h
  ·exact trivial
 ·exact z8 (hm _ _) λ_=>h
 ·exact z8 (hm _ _) λ_=>h
 ·refine Ge.after _ ?_
  split
  ·rename_i hr;exact m9 p _ _ _ _ _ _ _ (iJ h hr)
  ·exact trivial
 ·refine Ge.after _ ?_
  split
  ·rename_i hr;exact iJ h hr
  ·rename_i hr;exact jX h hr
  ·exact trivial
 ·exact z8 trivial λ_=>m9 p _ _ _ _ _ _ _ h
 ·refine jO h ?_
  split
  ·rename_i hr;exact cI h hr
  ·exact trivial
 ·exact jO (MO p _ _ _ _ _ _ h) h
theorem Kf (p:Program) (main listen:Bool) (g:Goroutine) (w:World) (d:Nat) (h:d<=w.drawn):Ge d (stepG p main g w listen):=by
 unfold stepG
 simp only []
 split
 ·exact PM _ _ _ _ _ h
 ·exact MP _ _ _ _ _ _ _ _ h
 ·exact Hu _ _ _ _ _ _ _ h
def Se (d:Nat):Stepped->Prop
 | .next m=>d<=m.world.drawn
 | .ended _ _=>True
theorem Kg {d:Nat} {c:Prop} [Decidable c] {a b:Stepped} (h1:Se d a) (h2:Se d b):Se d (if c then a else b):=by
 split
 ·exact h1
 ·exact h2
theorem F7 (p:Program) (gs:Array Goroutine) (r:Rest) (w:World) (d:Nat) (h:d<=w.drawn):Se d (look p gs r w):=by
 unfold look
 split
 ·simp only []
  refine Kg trivial ?_
  split
  ·exact trivial
  ·split
   ·rename_i hr
    have hz:=cI h hr
    exact hz
   ·exact trivial
   ·exact trivial
 ·exact trivial
theorem Ab {d:Nat} {c:Prop} [Decidable c] {a b:Stepped×Array MemOp} (h1:Se d a.1) (h2:Se d b.1):Se d (if c then a else b).1:=by
 split
 ·exact h1
 ·exact h2
theorem uW (p:Program) (r:Rest) (gs:Array Goroutine) (i:Nat) (g:Goroutine) (cs:Array CommCase) (b:Bool) (sh:CommShape) (w:World) (d:Nat) (h:d<=w.drawn):Se d (communicate p r gs i g cs b sh w).1:=by
 unfold communicate
 simp only []
 refine Ab trivial ?_
 refine Ab (Ab ?_ h) ?_
 ·split
  ·rename_i hr
   unfold waitingAt at hr
   split at hr
   ·split at hr
    ·cases hr;exact h
    ·cases hr
   ·cases hr;exact h
  ·exact trivial
 ·split
  ·exact trivial
  ·rename_i hr
   have hz:=cI h hr
   split
   ·split
    ·rename_i hr2
     have hz2:=run_halt hz hr2
     exact hz2
    ·exact trivial
   ·exact hz
   ·exact hz
   ·split
    ·exact hz
    ·split
     ·rename_i hr2
      have hz2:=cI hz hr2
      exact hz2
     ·exact trivial
   ·exact hz
   ·exact hz
   ·exact trivial
theorem Ev (m m' : Machine) (op:TimerOp) (v:Value) (d:Nat) (h:d<=m.world.drawn) (hr:timerOp m op = .ok (v,m')):d<=m'.world.drawn:=by
 have hret:∀ (m:Machine) (k:Nat) (t:Timer) (a b:Nat),d<=m.world.drawn->d<=(retime m k t a b).2.world.drawn:=λm k t a b h=>by
  unfold retime
  simp only []
  split
  ·unfold drain;split <;> exact h
  ·exact h
 have Sj:∀ (m:Machine) (var:Addr) (f:Nat->Timer->Value×Machine),(∀ k t,d<=(f k t).2.world.drawn)->timerOp.named m var f = .ok (v,m')->d<=m'.world.drawn:=λm var f hf hr=>by
  unfold timerOp.named at hr
  split at hr
  ·rename_i k _
   have hz:=hf k (m.rest.timers.getD k default)
   injection hr with hr
   rw [hr] at hz
   exact hz
  ·cases hr
 cases op with
 | new t=>
  simp only [timerOp] at hr
  split at hr
  ·injection hr with hr;injection hr with h1 h2;rw [<- h2];exact h
  ·split at hr
   ·split at hr
    ·cases hr
    ·injection hr with hr;injection hr with h1 h2;rw [<- h2];exact h
   ·cases hr
 | stop var=>exact Sj m var _ (λk t=>hret m k t _ _ h) hr
 | reset var a b=>
  simp only [timerOp] at hr
  split at hr
  ·rename_i m2 ho
   have h2:d<=m2.world.drawn:=by
    unfold timerOp.opened at ho
    split at ho
    ·split at ho
     ·cases ho;exact h
     ·cases ho
    ·cases ho;exact h
   exact Sj _ var _ (λk t=>hret m2 k t _ _ h2) hr
  ·cases hr
 | deadline ctx a b c=>
  simp only [timerOp] at hr
  injection hr with hr;injection hr with h1 h2;rw [<- h2];exact h
theorem Kh (p:Program) (m:Machine) (k:Nat) (d:Nat) (h:d<=m.world.drawn):Se d (serve p m k):=by
 unfold serve
 split
 ·exact trivial
 ·exact h
 ·simp only []
  split
  ·exact trivial
  ·exact h
theorem MQ (p:Program) (m:Machine) (i:Nat) (l:Bool) (d:Nat) (h:d<=m.world.drawn):Se d (runT p m i l).1:=by
 unfold runT
 simp only []
 have hs:∀ g,Ge d (stepG p (i == 0) g m.world l):=λg=>Kf p _ l g _ d h
 split
 all_goals rename_i hr
 all_goals (have hz:=hs (m.gs.swapAt! i { (default:Goroutine) with status := .finished }).1;rw [hr] at hz)
 all_goals first
  | exact trivial
  | exact hz
  | exact uW _ _ _ _ _ _ _ _ _ _ hz
  | exact F7 _ _ _ _ _ hz
  | exact Kg trivial hz
  | skip
 ·simp only []
  split
  ·exact hz
  ·split
   ·rename_i e;injection e with e1 e2;rw [<- e2];exact hz
   ·exact trivial
  ·exact trivial
 ·simp only []
  split
  ·rename_i ht
   have ht2:=λhh=>Ev _ _ _ _ d hh ht
   exact ht2 hz
  ·split
   ·rename_i e;injection e with e1 e2;rw [<- e2];exact hz
   ·exact trivial
  ·exact trivial
  ·exact trivial
def Me (d:Nat):Move->Prop
 | .goroutine m _=>d<=m.world.drawn
 | .machine s _=>Se d s
theorem nD {d:Nat} {c:Prop} [Decidable c] {a b:Move} (h1:Me d a) (h2:Me d b):Me d (if c then a else b):=by
 split
 ·exact h1
 ·exact h2
theorem uX (p:Program) (m:Machine) (d:Nat) (h:d<=m.world.drawn):Me d (askOn p m):=by
 unfold askOn
 simp only []
 split
 ·exact trivial
 ·rename_i hr
  have hz:=cI h hr
  refine nD (Kh _ _ _ _ hz) ?_
  split
  ·split
   ·exact hz
   ·refine nD hz ?_
    split
    ·exact trivial
    ·exact trivial
  ·split
   ·skip
    split
    ·exact trivial
    ·rename_i hp
     have hz2:=cI hz hp
     refine nD hz2 ?_
     split
     ·exact trivial
     ·rename_i hq
      have hz3:=cI hz2 hq
      exact hz3
   ·split
    ·exact trivial
    ·rename_i h5
     have h6:=cI hz h5
     split
     ·exact trivial
     ·rename_i hp
      have hz2:=cI h6 hp
      refine nD hz2 ?_
      split
      ·exact trivial
      ·rename_i hq
       have hz3:=cI hz2 hq
       exact hz3
    ·rename_i h5
     have h6:=cI hz h5
     exact h6
    ·rename_i h5
     have h6:=cI hz h5
     split
     ·exact trivial
     ·rename_i hp
      have hz2:=cI (by exact h6) hp
      refine nD hz2 ?_
      split
      ·exact trivial
      ·rename_i hq
       have hz3:=cI hz2 hq
       exact hz3
theorem Ki (p:Program) (m:Machine) (d:Nat) (h:d<=m.world.drawn):Me d (ask p m):=by
 unfold ask
 refine nD ?_ (uX p m d h)
 split
 ·exact trivial
 ·rename_i h5
  have h6:=cI h h5
  have h7:=F7 p m.gs m.rest _ d h6
  split
  ·rename_i h8
   rw [h8] at h7
   exact uX _ _ _ h7
  ·exact h7
 ·rename_i h5
  have h6:=cI h h5
  exact uX _ _ _ h6
theorem MR (p:Program) (m:Machine) (d:Nat) (h:d<=m.world.drawn):Me d (move p m):=by
 unfold move
 split
 ·exact nD h trivial
 ·split
  ·exact nD h (Ki _ _ _ h)
  ·exact Ki _ _ _ h
theorem MS (p:Program) (m:Machine) (d:Nat) (h:d<=m.world.drawn):Se d (step p m):=by
 unfold step stepT
 have h2:=MR p m d h
 split
 ·rename_i e;rw [e] at h2;exact MQ _ _ _ _ _ h2
 ·rename_i e;rw [e] at h2;exact h2
theorem F8 (p:Program):∀ (n:Nat) (m:Machine) (d:Nat),d<=m.world.drawn->Se d (runN p n m)
 | 0,m,d,h=>h
 | n+1,m,d,h=>by
  have h2:=MS p m d h
  unfold runN
  split
  ·rename_i e;rw [e] at h2;exact F8 p n _ d h2
  ·exact h2
theorem nE {P:Program} {f:FuncId} {args:Array Value} {w:World} {R:Ending->World->Prop} (h:Calls P f args w R) (ho:∀ w',¬ R .outgrown w') :
  Calls P f args w λe w'=>R e w'/\w.drawn<=w'.drawn:=by
 intro cs
 obtain ⟨e,w',fr,hR,hC,hf,hl⟩:=h cs
 refine ⟨e,w',fr,⟨hR,?_⟩,hC,hf,hl⟩
 have key:Steps P (lone (Frame.enter P f args .normal) cs w) (lone fr cs w')->w.drawn<=w'.drawn:=λ⟨n,hn⟩=>by
  have:=F8 P n (lone (Frame.enter P f args .normal) cs w) w.drawn (aF _)
  rw [hn] at this
  exact this
 cases e with
 | returned v=>exact key hC
 | panicked c=>exact key hC
 | outgrown=>exact absurd hR (ho w')
end Go.Proofs.YtgnncnhkgmhngaaGreatDoor.Dr
