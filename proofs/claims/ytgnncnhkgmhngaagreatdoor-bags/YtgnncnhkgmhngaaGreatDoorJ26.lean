import Derived.Test.YtgnncnhkgmhngaaGreatDoorJ25
set_option maxHeartbeats 4000000
namespace Go.Proofs.YtgnncnhkgmhngaaGreatDoor
open Sp
open Go.RowKit
def GD {α:Type} (P:World->α->List Value->Nat->Nat->Prop) (w:World) (ns:List α) (lo hi:Nat) (v:Value):Prop:=
 ∃ g kc xs h,v = .slice (some ⟨g,0,none⟩) ns.length kc/\lo<=g/\g<hi/\(h<=hi/\ns.length<=kc)/\kM P w g ns xs lo h/\∀ j u,xs.flatten[j]?=some u->w.cell? ⟨g,j,none⟩=some u
theorem BB {w:World} {base:Nat} {e:TypeId} {size n m c:Nat} {a:Option Addr} {xs:List Value} (h:w.ownsRow base e size (.slice a n c) m xs):n<=c:=by
 rcases h.2 with ⟨h,_⟩ | ⟨g,cap,cur,hv,_,_,hc,_⟩
 ·injection h with h1 h2 h3;omega
 ·injection hv with h1 h2 h3;omega
theorem M1 {x y:ByteArray} {a c q r:Int} {u v:Value} (h:Value.agg #[.string x, .int .i64 a, .int .i64 q,u] = .agg #[.string y, .int .i64 c, .int .i64 r,v]):x=y/\a=c/\q=r/\u=v:=by
 simp only [Value.agg.injEq] at h
 have e0:=congrArg (λx:Array Value=>x[0]?) h
 have e1:=congrArg (λx:Array Value=>x[1]?) h
 have e2:=congrArg (λx:Array Value=>x[2]?) h
 have e3:=congrArg (λx:Array Value=>x[3]?) h
 simp at e0 e1 e2 e3
 exact ⟨e0,e1,e2,e3⟩
theorem Fa (s:Sp.Bs) (n:Nat) (σ:St):rem s (rowT s n σ)<=rem s σ:=cE (bZ _ _ _) (cE (cJ _ _ _ _ _) (bZ _ _ _))
theorem zK (s:Sp.Bs) (n:Nat) (σ:St):rem s (pB s n σ)<=rem s σ:=cE (cJ _ _ _ _ _) (cE (bZ _ _ _) (dL _ _))
def Li (s:Sp.Bs) (n m:Nat) (σ:St):St:=if σ.is s [44] then u6 s n m (σ.step s) else σ
def M2 (s:Sp.Bs) (n m:Nat) (σ:St):List (Nat×Nd):=if σ.is s [44] then nW s n m (σ.step s) else []
theorem DS (s:Sp.Bs) (n m:Nat) (σ:St):u6 s n (m+1) σ=Li s n m (rowT s n σ):=by rw [u6,Li]
theorem Fb (s:Sp.Bs) (n m:Nat) (σ:St):nW s n (m+1) σ=(St.at_ s σ,Sp.tr s n .list 0 .nil (St.must s [40] σ))::M2 s n m (rowT s n σ):=by rw [nW,M2]
theorem Lj:(Tryz.prog.info? 239).map (λi=>(i.zero,i.size,i.bytes))=some (some (.agg #[.int .i64 0, .slice none 0 0]),2,32):=by kernel_rfl
theorem BC {b c cap len:Nat} {s:Sp.Bs} {n m:Nat} {σ:St} {w:World} (IA:All b c cap len s n) (hn:n<=900000) (hmn:m<=900000) (hm:32*rem s σ+10<=n) (hmm:32*rem s σ<=m+1) (hp:PS b c cap len s 0 σ w) :
  Calls Tryz.prog 127 #[.pointer (some ⟨b,0,none⟩), .func (.func 128) #[.pointer (some ⟨b,0,none⟩)] #[]] w (aX b c cap len s 0 (u6 s n (m+1) σ) w qJ λw' v=>GD fL w' (nW s n (m+1) σ) w.heap.size w'.heap.size v):=by
 obtain ⟨i0,ji,fR,jz1,fS⟩:=info_parts Lj
 have hr:=Fa s n σ
 have hbw:=hp.lb
 have hcw:=hp.lc
 have PY:=hp.h5.1
 have HP:=hid hp
 have xD:=hid IA
 clear hp IA
 go_enter Tryz.func127,Tryz.ntmps127
 go_wp2_with fail
 refine (E9 xD.out hn hm HP.out).mono ?_
 rintro r w1 ⟨v1,rfl,hp1,hk1,⟨a1,_,rfl,sa1,KF,KG,rfl⟩,hr1⟩
 have bT:Hid (PS b c cap len s 0 (rowT s n σ) (w1.alloc (.cells #[Value.int .i64 a1,Value.slice sa1 KF KG] 239))):=hp1.alloc _
 have bD:Hid (Kept b w (w1.alloc (.cells #[Value.int .i64 a1,Value.slice sa1 KF KG] 239))):=hk1.alloc _
 have hz1':=hk1.size
 have H9:Hid ((w1.alloc (.cells #[Value.int .i64 a1,Value.slice sa1 KF KG] 239)).ownsRow w.heap.size 239 2 (.slice (some ⟨w1.heap.size,0,none⟩) 1 1) 1 [Value.int .i64 a1,Value.slice sa1 KF KG]):=jR w1 w.heap.size hz1' 239 2 #[Value.int .i64 a1,Value.slice sa1 KF KG] 1 rfl (by unfold maxLen;omega)
 have HR1:Hid ((rowT s n σ).aA=true->∃ h,h<=w1.heap.size/\kM fL (w1.alloc (.cells #[Value.int .i64 a1,Value.slice sa1 KF KG] 239)) w1.heap.size [(St.at_ s σ,Sp.tr s n .list 0 .nil (St.must s [40] σ))] [[Value.int .i64 a1,Value.slice sa1 KF KG]] w.heap.size h):=λhl=>by
  have hq:=hr1 hl
  obtain ⟨x,e,_,r⟩:=hq
  obtain ⟨e0,e1⟩:=IZ e
  have RP:fL w1 (St.at_ s σ,Sp.tr s n .list 0 .nil (St.must s [40] σ)) [Value.int .i64 a1,Value.slice sa1 KF KG] (w.heap.size+1) w1.heap.size/\w.heap.size+1<=w1.heap.size:=⟨⟨x,by rw [e0,e1],r⟩,Rp.le _ _ _ _ r.1⟩
  have hle:w.heap.size+1<=w1.heap.size:=RP.2
  exact ⟨w1.heap.size,aF _,w.heap.size+1,w1.heap.size,by unfold Sub;omega,fL.frame (by simp) _ _ _ _ RP.1 (λk h1 h2=>kX _ _ _ h2),aF _⟩
 have TO:Hid (∀ u ∈ [Value.int .i64 a1,Value.slice sa1 KF KG],u.oneCell'=true):=(by intro u hu;simp at hu;rcases hu with rfl | rfl <;> rfl)
 clear hp1 hk1 hr1 HP
 go_wp2_with fail
 go_loopg [5] m (λgm v wr=>gm<=m/\∃ (σ' : St) (ns:List (Nat×Nd)) (xs:List (List Value)) (g k kc:Nat),v = .slice (some ⟨g,0,none⟩) k kc/\k+gm<=m+1/\32*rem s σ'<=gm+1/\rem s σ'<=rem s σ/\w.heap.size<=g/\g<wr.heap.size/\Hid (k=ns.length)/\Hid (u6 s n (m+1) σ=Li s n gm σ')/\Hid (nW s n (m+1) σ=ns++M2 s n gm σ')/\Hid (PS b c cap len s 0 σ' wr)/\Hid (Kept b w wr)/\Hid (∃ ys,wr.ownsRow w.heap.size 239 2 (.slice (some ⟨g,0,none⟩) k kc) k ys/\(σ'.aA=true->ys=xs.flatten))/\Hid (σ'.aA=true->∃ h,h<=wr.heap.size/\kM fL wr g ns xs w.heap.size h))
 case atStart=>exact ⟨aF _,_, [(St.at_ s σ,Sp.tr s n .list 0 .nil (St.must s [40] σ))], [[Value.int .i64 a1,Value.slice sa1 KF KG]],w1.heap.size,1,1,rfl,by omega,by omega,hr,hz1',by simp,rfl,DS s n m σ,Fb s n m σ,bT.out,bD.out,⟨_,H9.out,λ_=>by simp⟩,λhl=>by obtain ⟨h,h1,h2⟩:=HR1.out hl;exact ⟨h,by simp;omega,h2⟩⟩
 case round=>
  obtain ⟨hgm,σ',ns,xs,g,k,kc,rfl,hkg,hms,TP,hgw,hgr,A9,HR,o6,j9,fY,HOr,sJ⟩:=hrel
  cases hs:σ'.is s [44]
  ·have HV:Hid (Li s n gk σ'=σ'):=by show _=_;rw [Li,hs];rfl
   have cA:Hid (M2 s n gk σ' = []):=by show _=_;rw [M2,hs];rfl
   have HT:Hid (σ'.take s [44]=σ'):=bE hs
   go_wp2_with fail
   refine (aW j9.out [44] (by decide)).mono ?_
   rintro r w2 ⟨rfl,hp2,hk2⟩
   rw [HT.out] at hp2
   rw [hs]
   have HP2:Hid (PS b c cap len s 0 σ' w2):=hp2
   have aY:=hid hk2
   clear hp2 hk2
   go_wp2_with fail
   go_ret
   refine ⟨_,rfl,by rw [HR.out,HV.out];exact HP2.out,fY.out.trans aY.out,⟨_,_,_,rfl⟩,λhl=>?_⟩
   rw [HR.out,HV.out] at hl
   have hz2:=aY.out.size
   obtain ⟨ys,O,ey⟩:=HOr.out
   have O2:=aV O (aY.out.block g hgr (by omega))
   obtain ⟨h,h1,h2⟩:=sJ.out hl
   have hle:=h2.le
   have ek:(nW s n (m+1) σ).length=k:=by rw [o6.out,cA.out,List.append_nil];exact A9.out.symm
   refine ⟨g,kc,xs,h,?_,hgw,by omega,⟨by omega,by rw [ek];exact BB O⟩,?_,λj u hj=>?_⟩
   ·rw [ek];rfl
   ·rw [o6.out,cA.out,List.append_nil]
    exact h2.frame (λn x m1 m2 hp hk=>fL.frame hz2 n x m1 m2 hp hk) λk p1 p2 _=>aY.out.block k (by omega) (by omega)
   ·rw [<- ey hl] at hj
    exact bO O2 j u hj
  ·have h1:=aM hs
   obtain ⟨m',rfl⟩:∃ m',gk=m'+1:=⟨gk - 1,by omega⟩
   have HV:Hid (Li s n (m'+1) σ'=Li s n m' (rowT s n (σ'.step s))):=by show _=_;rw [Li,hs];exact DS s n m' _
   have cA:Hid (M2 s n (m'+1) σ'=(St.at_ s (σ'.step s),Sp.tr s n .list 0 .nil (St.must s [40] (σ'.step s)))::M2 s n m' (rowT s n (σ'.step s))):=by show _=_;rw [M2,hs];exact Fb s n m' _
   have HT:Hid (σ'.take s [44]=σ'.step s):=aZ hs
   have HL:Hid (σ'.aA=true):=cK hs
   have h2:=Fa s n (σ'.step s)
   go_wp2_with fail
   refine (aW j9.out [44] (by decide)).mono ?_
   rintro r w2 ⟨rfl,hp2,hk2⟩
   rw [HT.out] at hp2
   rw [hs]
   have HP2:Hid (PS b c cap len s 0 (σ'.step s) w2):=hp2
   have aY:=hid hk2
   clear hp2 hk2
   go_wp2_with fail
   refine (E9 xD.out hn (by omega) HP2.out).mono ?_
   rintro r w3 ⟨v3,rfl,hp3,hk3,⟨a3,_,rfl,Ph,Pi,Pj,rfl⟩,hr3⟩
   have cS:=hid hp3
   have bH:=hid hk3
   have HR3:Hid ((rowT s n (σ'.step s)).aA=true->fL w3 (St.at_ s (σ'.step s),Sp.tr s n .list 0 .nil (St.must s [40] (σ'.step s))) [Value.int .i64 a3,Value.slice Ph Pi Pj] (w2.heap.size+1) w3.heap.size/\w2.heap.size+1<=w3.heap.size):=λhl=>by
    have hq:=hr3 hl
    obtain ⟨x,e,_,r⟩:=hq
    obtain ⟨e0,e1⟩:=IZ e
    have RP:fL w3 (St.at_ s (σ'.step s),Sp.tr s n .list 0 .nil (St.must s [40] (σ'.step s))) [Value.int .i64 a3,Value.slice Ph Pi Pj] (w2.heap.size+1) w3.heap.size/\w2.heap.size+1<=w3.heap.size:=⟨⟨x,by rw [e0,e1],r⟩,Rp.le _ _ _ _ r.1⟩
    exact RP
   have Jk:Hid (∀ u ∈ [Value.int .i64 a3,Value.slice Ph Pi Pj],u.oneCell'=true):=(by intro u hu;simp at hu;rcases hu with rfl | rfl <;> rfl)
   have hz2:=aY.out.size
   have hz3:=bH.out.size
   have MD:=fY.out.size
   obtain ⟨ys,hO,M3⟩:=HOr.out
   have Qu:=hid M3
   have jG:Hid (w3.ownsRow w.heap.size 239 2 (.slice (some ⟨g,0,none⟩) k kc) k ys):=aV hO ((aY.out.trans bH.out).block g hgr (by omega))
   have vJ:Hid ((w3.alloc (.cells #[Value.int .i64 a3,Value.slice Ph Pi Pj] 239)).ownsRow w.heap.size 239 2 (.slice (some ⟨g,0,none⟩) k kc) k ys):=aV jG.out (kX _ _ _ (by omega))
   clear hp3 hk3 hr3 HP2 j9 hO M3
   go_wp2_with (at_builtin;go_must (refine c6 _ rfl (.tmp 12) (.tmp 15) 233 rfl w.heap.size 239 i0 (.agg #[.int .i64 0, .slice none 0 0]) 2 32 Tryz.underlying233 ji fR jz1 fS rfl (by decide) g k kc ys rfl vJ.out ⟨w3.heap.size,0,none⟩ 1 [Value.int .i64 a3,Value.slice Ph Pi Pj] rfl rfl ?c1 Jk.out ?c3 ?c4 ?c5 ?_))
   case c1=>
    intro j u hj
    rw [Addr.add_lit,Nat.zero_add,oZ]
    simpa using hj
   case c3=>unfold maxLen;omega
   case c4=>omega
   case c5=>simp;omega
   intro g' gE w5 hown hgrow hg'
   have CU:=hid hown
   have tM:=hid hgrow
   have hgg:g'=g\/w3.heap.size+1<=g':=by simpa using hg'
   have hg5:=(gC hown)
   clear hown hgrow hg'
   go_wp2_with fail
   go_roundg m'
   case measure=>omega
   case rel=>
    have rM:w3.heap.size+1<=w5.heap.size:=by have:=tM.out.size;simpa using this
    have hb5:∀ q,q<w3.heap.size->q≠g->w5.heap[q]?=w3.heap[q]?:=λq hq hn=>(tM.out.block q (by simp;omega) (λe=>by injection e with e;exact hn e)).trans (kX _ _ _ hq)
    refine ⟨by omega,_,ns ++ [(St.at_ s (σ'.step s),Sp.tr s n .list 0 .nil (St.must s [40] (σ'.step s)))],xs ++ [[Value.int .i64 a3,Value.slice Ph Pi Pj]],g',k+1,gE,rfl,by omega,by omega,by omega,hg5.1,hg5.2,by show _=_;rw [List.length_append,<- A9.out];rfl,by show _=_;rw [HR.out,HV.out],by show _=_;rw [o6.out,cA.out,List.append_assoc];rfl,cS.out.stay (by omega) (hb5 b (by omega) (by omega)) (hb5 c (by omega) (by omega)) (hb5 5 (by omega) (by omega)),(((fY.out.trans aY.out).trans bH.out).alloc _).grown tM.out hgw,⟨_,CU.out,λ_=>by rw [Qu.out HL.out];simp⟩,λhl=>?_⟩
    obtain ⟨h,e1,e2⟩:=sJ.out HL.out
    have hle:=e2.le
    obtain ⟨r3,hlt3⟩:=HR3.out hl
    have E:kM fL w5 g ns xs w.heap.size h:=(e2.frame (λn x m1 m2 hp hk=>fL.frame (by omega) n x m1 m2 hp hk) λq h1 h2 h3=>(hb5 q (by omega) h3).trans ((aY.out.trans bH.out).block q (by omega) (by omega)))
    have R:=fL.frame (w':=w5) (by omega) _ _ _ _ r3 (λq h1 h2=>hb5 q h2 (by omega))
    have S:=kM.snoc hlt3 R (by omega) E (by omega)
    refine ⟨w3.heap.size,by omega,?_⟩
    rcases hgg with rfl | hgg
    ·exact S
    ·exact S.move (by omega)
def vR (s:Sp.Bs) (n m:Nat) (σ:St):St:=if σ.is s [44] then iQ s n m (σ.step s) else σ
def BD (s:Sp.Bs) (n m:Nat) (σ:St):List (Nm×Nat×Nd):=if σ.is s [44] then lL s n m (σ.step s) else []
theorem zL (s:Sp.Bs) (n m:Nat) (σ:St):iQ s n (m+1) σ=vR s n m (pB s n σ):=by rw [iQ,vR]
theorem Fe (s:Sp.Bs) (n m:Nat) (σ:St):lL s n (m+1) σ=((St.nm s σ),(St.at_ s (St.aC s σ)),Sp.tr s n .expr 0 .nil (St.must s [61] (St.aC s σ)))::BD s n m (pB s n σ):=by rw [lL,BD]
theorem Ll:(Tryz.prog.info? 249).map (λi=>(i.zero,i.size,i.bytes))=some (some (.agg #[.string ⟨#[]⟩, .int .i64 0, .int .i64 0, .nilIface]),4,48):=by kernel_rfl
theorem BE {b c cap len:Nat} {s:Sp.Bs} {n m:Nat} {σ:St} {w:World} (IA:All b c cap len s n) (hn:n<=900000) (hmn:m<=900000) (hm:32*rem s σ+9<=n) (hmm:32*rem s σ<=m+1) (hp:PS b c cap len s 0 σ w) :
  Calls Tryz.prog 130 #[.pointer (some ⟨b,0,none⟩), .func (.func 131) #[.pointer (some ⟨b,0,none⟩)] #[]] w (aX b c cap len s 0 (iQ s n (m+1) σ) w qJ λw' v=>GD lA w' (lL s n (m+1) σ) w.heap.size w'.heap.size v):=by
 obtain ⟨i0,ji,fR,jz1,fS⟩:=info_parts Ll
 have hr:=zK s n σ
 have hbw:=hp.lb
 have hcw:=hp.lc
 have PY:=hp.h5.1
 have HP:=hid hp
 have xD:=hid IA
 clear hp IA
 go_enter Tryz.func130,Tryz.ntmps130
 go_wp2_with fail
 refine (set_any xD.out hn hm HP.out).mono ?_
 rintro r w1 ⟨v1,rfl,hp1,hk1,⟨x1,a1,q1,y1,rfl,hy1⟩,hr1⟩
 have bT:Hid (PS b c cap len s 0 (pB s n σ) (w1.alloc (.cells #[Value.string x1,Value.int .i64 a1,Value.int .i64 q1,y1] 249))):=hp1.alloc _
 have bD:Hid (Kept b w (w1.alloc (.cells #[Value.string x1,Value.int .i64 a1,Value.int .i64 q1,y1] 249))):=hk1.alloc _
 have hz1':=hk1.size
 have H9:Hid ((w1.alloc (.cells #[Value.string x1,Value.int .i64 a1,Value.int .i64 q1,y1] 249)).ownsRow w.heap.size 249 4 (.slice (some ⟨w1.heap.size,0,none⟩) 1 1) 1 [Value.string x1,Value.int .i64 a1,Value.int .i64 q1,y1]):=jR w1 w.heap.size hz1' 249 4 #[Value.string x1,Value.int .i64 a1,Value.int .i64 q1,y1] 1 rfl (by unfold maxLen;omega)
 have HR1:Hid ((pB s n σ).aA=true->∃ h,h<=w1.heap.size/\kM lA (w1.alloc (.cells #[Value.string x1,Value.int .i64 a1,Value.int .i64 q1,y1] 249)) w1.heap.size [((St.nm s σ),(St.at_ s (St.aC s σ)),Sp.tr s n .expr 0 .nil (St.must s [61] (St.aC s σ)))] [[Value.string x1,Value.int .i64 a1,Value.int .i64 q1,y1]] w.heap.size h):=λhl=>by
  have hq:=hr1 hl
  obtain ⟨y,e,hi,r⟩:=hq
  obtain ⟨e0,e1,e2,e3⟩:=M1 e
  have RP:lA w1 ((St.nm s σ),(St.at_ s (St.aC s σ)),Sp.tr s n .expr 0 .nil (St.must s [61] (St.aC s σ))) [Value.string x1,Value.int .i64 a1,Value.int .i64 q1,y1] (w.heap.size+1) w1.heap.size/\w.heap.size+1<=w1.heap.size:=⟨⟨y,by rw [e0,e1,e2,e3],hi.bC,r⟩,Rp.le _ _ _ _ r⟩
  have hle:w.heap.size+1<=w1.heap.size:=RP.2
  exact ⟨w1.heap.size,aF _,w.heap.size+1,w1.heap.size,by unfold Sub;omega,lA.frame (by simp) _ _ _ _ RP.1 (λk h1 h2=>kX _ _ _ h2),aF _⟩
 have TO:Hid (∀ u ∈ [Value.string x1,Value.int .i64 a1,Value.int .i64 q1,y1],u.oneCell'=true):=(by intro u hu;simp at hu;rcases hu with rfl | rfl | rfl | rfl;rfl;rfl;rfl;exact hy1.one)
 have hv1:=hy1.cells
 unfold Value.cells at hv1
 clear hy1
 clear hp1 hk1 hr1 HP
 go_wp2_with fail
 go_loopg [5] m (λgm v wr=>gm<=m/\∃ (σ' : St) (ns:List (Nm×Nat×Nd)) (xs:List (List Value)) (g k kc:Nat),v = .slice (some ⟨g,0,none⟩) k kc/\k+gm<=m+1/\32*rem s σ'<=gm+1/\rem s σ'<=rem s σ/\w.heap.size<=g/\g<wr.heap.size/\Hid (k=ns.length)/\Hid (iQ s n (m+1) σ=vR s n gm σ')/\Hid (lL s n (m+1) σ=ns++BD s n gm σ')/\Hid (PS b c cap len s 0 σ' wr)/\Hid (Kept b w wr)/\Hid (∃ ys,wr.ownsRow w.heap.size 249 4 (.slice (some ⟨g,0,none⟩) k kc) k ys/\(σ'.aA=true->ys=xs.flatten))/\Hid (σ'.aA=true->∃ h,h<=wr.heap.size/\kM lA wr g ns xs w.heap.size h))
 case atStart=>exact ⟨aF _,_, [((St.nm s σ),(St.at_ s (St.aC s σ)),Sp.tr s n .expr 0 .nil (St.must s [61] (St.aC s σ)))], [[Value.string x1,Value.int .i64 a1,Value.int .i64 q1,y1]],w1.heap.size,1,1,rfl,by omega,by omega,hr,hz1',by simp,rfl,zL s n m σ,Fe s n m σ,bT.out,bD.out,⟨_,H9.out,λ_=>by simp⟩,λhl=>by obtain ⟨h,h1,h2⟩:=HR1.out hl;exact ⟨h,by simp;omega,h2⟩⟩
 case round=>
  obtain ⟨hgm,σ',ns,xs,g,k,kc,rfl,hkg,hms,TP,hgw,hgr,A9,HR,o6,j9,fY,HOr,sJ⟩:=hrel
  cases hs:σ'.is s [44]
  ·have HV:Hid (vR s n gk σ'=σ'):=by show _=_;rw [vR,hs];rfl
   have cA:Hid (BD s n gk σ' = []):=by show _=_;rw [BD,hs];rfl
   have HT:Hid (σ'.take s [44]=σ'):=bE hs
   go_wp2_with fail
   refine (aW j9.out [44] (by decide)).mono ?_
   rintro r w2 ⟨rfl,hp2,hk2⟩
   rw [HT.out] at hp2
   rw [hs]
   have HP2:Hid (PS b c cap len s 0 σ' w2):=hp2
   have aY:=hid hk2
   clear hp2 hk2
   go_wp2_with fail
   go_ret
   refine ⟨_,rfl,by rw [HR.out,HV.out];exact HP2.out,fY.out.trans aY.out,⟨_,_,_,rfl⟩,λhl=>?_⟩
   rw [HR.out,HV.out] at hl
   have hz2:=aY.out.size
   obtain ⟨ys,O,ey⟩:=HOr.out
   have O2:=aV O (aY.out.block g hgr (by omega))
   obtain ⟨h,h1,h2⟩:=sJ.out hl
   have hle:=h2.le
   have ek:(lL s n (m+1) σ).length=k:=by rw [o6.out,cA.out,List.append_nil];exact A9.out.symm
   refine ⟨g,kc,xs,h,?_,hgw,by omega,⟨by omega,by rw [ek];exact BB O⟩,?_,λj u hj=>?_⟩
   ·rw [ek];rfl
   ·rw [o6.out,cA.out,List.append_nil]
    exact h2.frame (λn x m1 m2 hp hk=>lA.frame hz2 n x m1 m2 hp hk) λk p1 p2 _=>aY.out.block k (by omega) (by omega)
   ·rw [<- ey hl] at hj
    exact bO O2 j u hj
  ·have h1:=aM hs
   obtain ⟨m',rfl⟩:∃ m',gk=m'+1:=⟨gk - 1,by omega⟩
   have HV:Hid (vR s n (m'+1) σ'=vR s n m' (pB s n (σ'.step s))):=by show _=_;rw [vR,hs];exact zL s n m' _
   have cA:Hid (BD s n (m'+1) σ'=((St.nm s (σ'.step s)),(St.at_ s (St.aC s (σ'.step s))),Sp.tr s n .expr 0 .nil (St.must s [61] (St.aC s (σ'.step s))))::BD s n m' (pB s n (σ'.step s))):=by show _=_;rw [BD,hs];exact Fe s n m' _
   have HT:Hid (σ'.take s [44]=σ'.step s):=aZ hs
   have HL:Hid (σ'.aA=true):=cK hs
   have h2:=zK s n (σ'.step s)
   go_wp2_with fail
   refine (aW j9.out [44] (by decide)).mono ?_
   rintro r w2 ⟨rfl,hp2,hk2⟩
   rw [HT.out] at hp2
   rw [hs]
   have HP2:Hid (PS b c cap len s 0 (σ'.step s) w2):=hp2
   have aY:=hid hk2
   clear hp2 hk2
   go_wp2_with fail
   refine (set_any xD.out hn (by omega) HP2.out).mono ?_
   rintro r w3 ⟨v3,rfl,hp3,hk3,⟨x3,a3,q3,y3,rfl,hy3⟩,hr3⟩
   have cS:=hid hp3
   have bH:=hid hk3
   have HR3:Hid ((pB s n (σ'.step s)).aA=true->lA w3 ((St.nm s (σ'.step s)),(St.at_ s (St.aC s (σ'.step s))),Sp.tr s n .expr 0 .nil (St.must s [61] (St.aC s (σ'.step s)))) [Value.string x3,Value.int .i64 a3,Value.int .i64 q3,y3] (w2.heap.size+1) w3.heap.size/\w2.heap.size+1<=w3.heap.size):=λhl=>by
    have hq:=hr3 hl
    obtain ⟨y,e,hi,r⟩:=hq
    obtain ⟨e0,e1,e2,e3⟩:=M1 e
    have RP:lA w3 ((St.nm s (σ'.step s)),(St.at_ s (St.aC s (σ'.step s))),Sp.tr s n .expr 0 .nil (St.must s [61] (St.aC s (σ'.step s)))) [Value.string x3,Value.int .i64 a3,Value.int .i64 q3,y3] (w2.heap.size+1) w3.heap.size/\w2.heap.size+1<=w3.heap.size:=⟨⟨y,by rw [e0,e1,e2,e3],hi.bC,r⟩,Rp.le _ _ _ _ r⟩
    exact RP
   have Jk:Hid (∀ u ∈ [Value.string x3,Value.int .i64 a3,Value.int .i64 q3,y3],u.oneCell'=true):=(by intro u hu;simp at hu;rcases hu with rfl | rfl | rfl | rfl;rfl;rfl;rfl;exact hy3.one)
   have hv3:=hy3.cells
   unfold Value.cells at hv3
   clear hy3
   have hz2:=aY.out.size
   have hz3:=bH.out.size
   have MD:=fY.out.size
   obtain ⟨ys,hO,M3⟩:=HOr.out
   have Qu:=hid M3
   have jG:Hid (w3.ownsRow w.heap.size 249 4 (.slice (some ⟨g,0,none⟩) k kc) k ys):=aV hO ((aY.out.trans bH.out).block g hgr (by omega))
   have vJ:Hid ((w3.alloc (.cells #[Value.string x3,Value.int .i64 a3,Value.int .i64 q3,y3] 249)).ownsRow w.heap.size 249 4 (.slice (some ⟨g,0,none⟩) k kc) k ys):=aV jG.out (kX _ _ _ (by omega))
   clear hp3 hk3 hr3 HP2 j9 hO M3
   go_wp2_with (at_builtin;go_must (refine c6 _ rfl (.tmp 12) (.tmp 15) 246 rfl w.heap.size 249 i0 (.agg #[.string ⟨#[]⟩, .int .i64 0, .int .i64 0, .nilIface]) 4 48 Tryz.underlying246 ji fR jz1 fS rfl (by decide) g k kc ys rfl vJ.out ⟨w3.heap.size,0,none⟩ 1 [Value.string x3,Value.int .i64 a3,Value.int .i64 q3,y3] rfl rfl ?c1 Jk.out ?c3 ?c4 ?c5 ?_))
   case c1=>
    intro j u hj
    rw [Addr.add_lit,Nat.zero_add,oZ]
    simpa using hj
   case c3=>unfold maxLen;omega
   case c4=>omega
   case c5=>simp;omega
   intro g' gE w5 hown hgrow hg'
   have CU:=hid hown
   have tM:=hid hgrow
   have hgg:g'=g\/w3.heap.size+1<=g':=by simpa using hg'
   have hg5:=(gC hown)
   clear hown hgrow hg'
   go_wp2_with fail
   go_roundg m'
   case measure=>omega
   case rel=>
    have rM:w3.heap.size+1<=w5.heap.size:=by have:=tM.out.size;simpa using this
    have hb5:∀ q,q<w3.heap.size->q≠g->w5.heap[q]?=w3.heap[q]?:=λq hq hn=>(tM.out.block q (by simp;omega) (λe=>by injection e with e;exact hn e)).trans (kX _ _ _ hq)
    refine ⟨by omega,_,ns ++ [((St.nm s (σ'.step s)),(St.at_ s (St.aC s (σ'.step s))),Sp.tr s n .expr 0 .nil (St.must s [61] (St.aC s (σ'.step s))))],xs ++ [[Value.string x3,Value.int .i64 a3,Value.int .i64 q3,y3]],g',k+1,gE,rfl,by omega,by omega,by omega,hg5.1,hg5.2,by show _=_;rw [List.length_append,<- A9.out];rfl,by show _=_;rw [HR.out,HV.out],by show _=_;rw [o6.out,cA.out,List.append_assoc];rfl,cS.out.stay (by omega) (hb5 b (by omega) (by omega)) (hb5 c (by omega) (by omega)) (hb5 5 (by omega) (by omega)),(((fY.out.trans aY.out).trans bH.out).alloc _).grown tM.out hgw,⟨_,CU.out,λ_=>by rw [Qu.out HL.out];simp⟩,λhl=>?_⟩
    obtain ⟨h,e1,e2⟩:=sJ.out HL.out
    have hle:=e2.le
    obtain ⟨r3,hlt3⟩:=HR3.out hl
    have E:kM lA w5 g ns xs w.heap.size h:=(e2.frame (λn x m1 m2 hp hk=>lA.frame (by omega) n x m1 m2 hp hk) λq h1 h2 h3=>(hb5 q (by omega) h3).trans ((aY.out.trans bH.out).block q (by omega) (by omega)))
    have R:=lA.frame (w':=w5) (by omega) _ _ _ _ r3 (λq h1 h2=>hb5 q h2 (by omega))
    have S:=kM.snoc hlt3 R (by omega) E (by omega)
    refine ⟨w3.heap.size,by omega,?_⟩
    rcases hgg with rfl | hgg
    ·exact S
    ·exact S.move (by omega)
def AA (s:Sp.Bs) (σ:St):St:=if σ.is s [105,110,116]||σ.is s [116,101,120,116]||σ.is s [98,111,111,108] then σ.step s else σ.fail s 2
def TQ (v:Value):Prop:=∃ n:Int,v = .int .i64 n
theorem mL {b c cap len:Nat} {s:Sp.Bs} {d:Nat} {σ:St} {w:World} (h:PS b c cap len s d σ w) :
  Calls Tryz.prog 125 #[.pointer (some ⟨b,0,none⟩)] w (aX b c cap len s d (AA s σ) w TQ λ_ v=>v = .int .i64 (kS s σ)):=by
 have qM:=hid h
 clear h
 cases h1:σ.is s [105,110,116]
 ·cases h2:σ.is s [116,101,120,116]
  ·cases h3:σ.is s [98,111,111,108]
   ·have HV:Hid (AA s σ=σ.fail s 2):=by show _=_;simp [AA,h1,h2,h3]
    go_enter Tryz.func125,Tryz.ntmps125
    go_wp2_with fail
    refine (aW qM.out [105,110,116] (by decide)).mono ?_
    rintro r w1 ⟨rfl,hp1,hk1⟩
    rw [bE h1] at hp1
    rw [h1]
    have bT:=hid hp1
    have bD:=hid hk1
    clear hp1 hk1
    go_wp2_with fail
    refine (aW bT.out [116,101,120,116] (by decide)).mono ?_
    rintro r w2 ⟨rfl,hp2,hk2⟩
    rw [bE h2] at hp2
    rw [h2]
    have HP2:=hid hp2
    have aY:=hid (bD.out.trans hk2)
    clear hp2 hk2
    go_wp2_with fail
    refine (aW HP2.out [98,111,111,108] (by decide)).mono ?_
    rintro r w3 ⟨rfl,hp3,hk3⟩
    rw [bE h3] at hp3
    rw [h3]
    have cS:=hid hp3
    have bH:=hid (aY.out.trans hk3)
    clear hp3 hk3
    go_wp2_with fail
    refine (fV cS.out).mono ?_
    rintro r w4 ⟨rfl,gD,hk4⟩
    have gY:=hid gD
    have eC:=hid (bH.out.trans hk4)
    clear gD hk4
    go_wp2_with fail
    go_ret
    exact ⟨_,rfl,by rw [HV.out];exact gY.out,eC.out,⟨_,rfl⟩,λhl=>by rw [HV.out] at hl;exact (eV hl).elim⟩
   ·have HV:Hid (AA s σ=σ.step s/\kS s σ=1):=⟨by simp [AA,h1,h2,h3],by simp [kS,h1,h2,h3]⟩
    go_enter Tryz.func125,Tryz.ntmps125
    go_wp2_with fail
    refine (aW qM.out [105,110,116] (by decide)).mono ?_
    rintro r w1 ⟨rfl,hp1,hk1⟩
    rw [bE h1] at hp1
    rw [h1]
    have bT:=hid hp1
    have bD:=hid hk1
    clear hp1 hk1
    go_wp2_with fail
    refine (aW bT.out [116,101,120,116] (by decide)).mono ?_
    rintro r w2 ⟨rfl,hp2,hk2⟩
    rw [bE h2] at hp2
    rw [h2]
    have HP2:=hid hp2
    have aY:=hid (bD.out.trans hk2)
    clear hp2 hk2
    go_wp2_with fail
    refine (aW HP2.out [98,111,111,108] (by decide)).mono ?_
    rintro r w3 ⟨rfl,hp3,hk3⟩
    rw [aZ h3] at hp3
    rw [h3]
    have cS:=hid hp3
    have bH:=hid (aY.out.trans hk3)
    clear hp3 hk3
    go_wp2_with fail
    go_ret
    exact ⟨_,rfl,by rw [HV.out.1];exact cS.out,bH.out,⟨_,rfl⟩,λ_=>by rw [HV.out.2];rfl⟩
  ·have HV:Hid (AA s σ=σ.step s/\kS s σ=3):=⟨by simp [AA,h1,h2],by simp [kS,h1,h2]⟩
   go_enter Tryz.func125,Tryz.ntmps125
   go_wp2_with fail
   refine (aW qM.out [105,110,116] (by decide)).mono ?_
   rintro r w1 ⟨rfl,hp1,hk1⟩
   rw [bE h1] at hp1
   rw [h1]
   have bT:=hid hp1
   have bD:=hid hk1
   clear hp1 hk1
   go_wp2_with fail
   refine (aW bT.out [116,101,120,116] (by decide)).mono ?_
   rintro r w2 ⟨rfl,hp2,hk2⟩
   rw [aZ h2] at hp2
   rw [h2]
   have HP2:=hid hp2
   have aY:=hid (bD.out.trans hk2)
   clear hp2 hk2
   go_wp2_with fail
   go_ret
   exact ⟨_,rfl,by rw [HV.out.1];exact HP2.out,aY.out,⟨_,rfl⟩,λ_=>by rw [HV.out.2];rfl⟩
 ·have HV:Hid (AA s σ=σ.step s/\kS s σ=2):=⟨by simp [AA,h1],by simp [kS,h1]⟩
  go_enter Tryz.func125,Tryz.ntmps125
  go_wp2_with fail
  refine (aW qM.out [105,110,116] (by decide)).mono ?_
  rintro r w1 ⟨rfl,hp1,hk1⟩
  rw [aZ h1] at hp1
  rw [h1]
  have bT:=hid hp1
  have bD:=hid hk1
  clear hp1 hk1
  go_wp2_with fail
  go_ret
  exact ⟨_,rfl,by rw [HV.out.1];exact bT.out,bD.out,⟨_,rfl⟩,λ_=>by rw [HV.out.2];rfl⟩
structure bQ (b q:Nat) (w w' : World):Prop where
 os:w'.os=w.os
 tape:w'.tape=w.tape
 output:w'.output=w.output
 size:w.heap.size<=w'.heap.size
 block:∀ k,k<w.heap.size->k≠b->k≠q->w'.heap[k]?=w.heap[k]?
theorem bQ.refl (b q:Nat) (w:World):bQ b q w w:=⟨rfl,rfl,rfl,aF _,λ_ _ _ _=>rfl⟩
theorem bQ.trans {b q:Nat} {x y z:World} (h:bQ b q x y) (k:bQ b q y z):bQ b q x z:=
 ⟨k.os.trans h.os,k.tape.trans h.tape,k.output.trans h.output,cE h.size k.size,λi hi hb hq=>(k.block i (bY hi h.size) hb hq).trans (h.block i hi hb hq)⟩
theorem bQ.of {b q:Nat} {w w' : World} (h:Kept b w w'):bQ b q w w':=⟨h.os,h.tape,h.output,h.size,λk hk hb _=>h.block k hk hb⟩
theorem bQ.setCell {b q:Nat} {a w:World} (h:bQ b q a w) (o:Nat) (u:Value):bQ b q a (w.setCell ⟨q,o,none⟩ u):=
 h.trans ⟨rfl,rfl,rfl,by simp [World.setCell],λk _ _ hq=>dQ _ _ _ _ hq⟩
theorem bQ.aJ {b q:Nat} {a w:World} (h:bQ b q a w) {p:Addr} (hp:a.heap.size<=p.block) (u:Value):bQ b q a (w.setCell p u):=
 ⟨h.os,h.tape,h.output,by simpa [World.setCell] using h.size,λk hk hb hq=>(dQ _ _ _ _ (by omega)).trans (h.block k hk hb hq)⟩
theorem bQ.fresh {b q:Nat} {w w' : World} (h:bQ b q w w') (hq:w.heap.size<=q):Kept b w w':=⟨h.os,h.tape,h.output,h.size,λk hk hb=>h.block k hk hb (by omega)⟩
def TR (v:Value):Prop:=∃ x a t,v = .agg #[.string x, .int .i64 a, .int .i64 t]
def GE (s:Sp.Bs) (k:Nat) (σ:St):St:=if k == 6 then σ.fail s 2 else σ
def DT (s:Sp.Bs) (k:Nat) (σ:St):St:=AA s ((GE s k σ).aC s)
end Go.Proofs.YtgnncnhkgmhngaaGreatDoor
