import Derived.Test.YtgnncnhkgmhngaaGreatDoorJ27
set_option maxHeartbeats 4000000
namespace Go.Proofs.YtgnncnhkgmhngaaGreatDoor
open Go.RowKit
def LsV {α:Type} (P:World->α->List Value->Nat->Nat->Prop) (w:World) (ns:List α) (lo hi:Nat) (v:Value):Prop:=
 ∃ g kc xs h,v = .slice (some ⟨g,0,none⟩) ns.length kc/\lo<=g/\g<hi/\(h<=hi/\ns.length<=kc)/\LsR P w g ns xs lo h/\∀ j u,xs.flatten[j]?=some u->w.cell? ⟨g,j,none⟩=some u
theorem owns_cap {w:World} {base:Nat} {e:TypeId} {size n m c:Nat} {a:Option Addr} {xs:List Value} (h:w.ownsRow base e size (.slice a n c) m xs):n<=c:=by
 rcases h.2 with ⟨h,_⟩ | ⟨g,cap,cur,hv,_,_,hc,_⟩
 ·injection h with h1 h2 h3;omega
 ·injection hv with h1 h2 h3;omega
theorem agg4s {x y:ByteArray} {a c q r:Int} {u v:Value} (h:Value.agg #[.string x, .int .i64 a, .int .i64 q,u] = .agg #[.string y, .int .i64 c, .int .i64 r,v]):x=y/\a=c/\q=r/\u=v:=by
 simp only [Value.agg.injEq] at h
 have e0:=congrArg (fun x:Array Value=>x[0]?) h
 have e1:=congrArg (fun x:Array Value=>x[1]?) h
 have e2:=congrArg (fun x:Array Value=>x[2]?) h
 have e3:=congrArg (fun x:Array Value=>x[3]?) h
 simp at e0 e1 e2 e3
 exact ⟨e0,e1,e2,e3⟩
theorem rem_Row (s:Sp.Bs) (n:Nat) (σ:Sp.St):Sp.rem s (Sp.rowT s n σ)<=Sp.rem s σ:=Nat.le_trans (Sp.rem_must _ _ _) (Nat.le_trans (Sp.rem_run _ _ _ _ _) (Sp.rem_must _ _ _))
theorem rem_Set (s:Sp.Bs) (n:Nat) (σ:Sp.St):Sp.rem s (Sp.chgT s n σ)<=Sp.rem s σ:=Nat.le_trans (Sp.rem_run _ _ _ _ _) (Nat.le_trans (Sp.rem_must _ _ _) (Sp.rem_nameT _ _))
def rlT (s:Sp.Bs) (n m:Nat) (σ:Sp.St):Sp.St:=if σ.is s [44] then Sp.rowL s n m (σ.step s) else σ
def rlN (s:Sp.Bs) (n m:Nat) (σ:Sp.St):List (Nat×Sp.Nd):=if σ.is s [44] then Sp.rowTs s n m (σ.step s) else []
theorem Row_eq (s:Sp.Bs) (n m:Nat) (σ:Sp.St):Sp.rowL s n (m+1) σ=rlT s n m (Sp.rowT s n σ):=by rw [Sp.rowL,rlT]
theorem RowN_eq (s:Sp.Bs) (n m:Nat) (σ:Sp.St):Sp.rowTs s n (m+1) σ=(Sp.St.at_ s σ,Sp.tr s n .list 0 .nil (Sp.St.must s [40] σ))::rlN s n m (Sp.rowT s n σ):=by rw [Sp.rowTs,rlN]
theorem infoRow:(Tryz.prog.info? 239).map (fun i=>(i.zero,i.size,i.bytes))=some (some (.agg #[.int .i64 0, .slice none 0 0]),2,32):=by kernel_rfl
theorem listRow_any {b c cap len:Nat} {s:Sp.Bs} {n m:Nat} {σ:Sp.St} {w:World} (IA:All b c cap len s n) (hn:n<=900000) (hmn:m<=900000) (hm:32*Sp.rem s σ+10<=n) (hmm:32*Sp.rem s σ<=m+1) (hp:PS b c cap len s 0 σ w) :
  Calls Tryz.prog 127 #[.pointer (some ⟨b,0,none⟩), .func (.func 128) #[.pointer (some ⟨b,0,none⟩)] #[]] w (PostV b c cap len s 0 (Sp.rowL s n (m+1) σ) w IsSl fun w' v=>LsV RowP w' (Sp.rowTs s n (m+1) σ) w.heap.size w'.heap.size v):=by
 obtain ⟨i0,ji,jz0,jz1,jz2⟩:=info_parts infoRow
 have hr:=rem_Row s n σ
 have hbw:=hp.lb
 have hcw:=hp.lc
 have h5c:=hp.h5.1
 have HP:=hid hp
 have HIA:=hid IA
 clear hp IA
 go_enter Tryz.func127,Tryz.ntmps127
 go_wp2_with fail
 refine (row_any HIA.out hn hm HP.out).mono ?_
 rintro r w1 ⟨v1,rfl,hp1,hk1,⟨a1,_,rfl,sa1,sn1,sc1,rfl⟩,hr1⟩
 have HP1:Hid (PS b c cap len s 0 (Sp.rowT s n σ) (w1.alloc (.cells #[Value.int .i64 a1,Value.slice sa1 sn1 sc1] 239))):=hp1.alloc _
 have HK1:Hid (Kept b w (w1.alloc (.cells #[Value.int .i64 a1,Value.slice sa1 sn1 sc1] 239))):=hk1.alloc _
 have hz1':=hk1.size
 have HO1:Hid ((w1.alloc (.cells #[Value.int .i64 a1,Value.slice sa1 sn1 sc1] 239)).ownsRow w.heap.size 239 2 (.slice (some ⟨w1.heap.size,0,none⟩) 1 1) 1 [Value.int .i64 a1,Value.slice sa1 sn1 sc1]):=owns_new w1 w.heap.size hz1' 239 2 #[Value.int .i64 a1,Value.slice sa1 sn1 sc1] 1 rfl (by unfold maxLen;omega)
 have HR1:Hid ((Sp.rowT s n σ).isLive=true->∃ h,h<=w1.heap.size/\LsR RowP (w1.alloc (.cells #[Value.int .i64 a1,Value.slice sa1 sn1 sc1] 239)) w1.heap.size [(Sp.St.at_ s σ,Sp.tr s n .list 0 .nil (Sp.St.must s [40] σ))] [[Value.int .i64 a1,Value.slice sa1 sn1 sc1]] w.heap.size h):=fun hl=>by
  have hq:=hr1 hl
  obtain ⟨x,e,_,r⟩:=hq
  obtain ⟨e0,e1⟩:=agg2 e
  have RP:RowP w1 (Sp.St.at_ s σ,Sp.tr s n .list 0 .nil (Sp.St.must s [40] σ)) [Value.int .i64 a1,Value.slice sa1 sn1 sc1] (w.heap.size+1) w1.heap.size/\w.heap.size+1<=w1.heap.size:=⟨⟨x,by rw [e0,e1],r⟩,Rp.le _ _ _ _ r.1⟩
  have hle:w.heap.size+1<=w1.heap.size:=RP.2
  exact ⟨w1.heap.size,Nat.le_refl _,w.heap.size+1,w1.heap.size,by unfold Sub;omega,RowP.frame (by simp) _ _ _ _ RP.1 (fun k h1 h2=>Below.heap_alloc _ _ _ h2),Nat.le_refl _⟩
 have hcl1:Hid (∀ u ∈ [Value.int .i64 a1,Value.slice sa1 sn1 sc1],u.oneCell'=true):=(by intro u hu;simp at hu;rcases hu with rfl | rfl <;> rfl)
 clear hp1 hk1 hr1 HP
 go_wp2_with fail
 go_loopg [5] m (fun gm v wr=>gm<=m/\∃ (σ' : Sp.St) (ns:List (Nat×Sp.Nd)) (xs:List (List Value)) (g k kc:Nat),v = .slice (some ⟨g,0,none⟩) k kc/\k+gm<=m+1/\32*Sp.rem s σ'<=gm+1/\Sp.rem s σ'<=Sp.rem s σ/\w.heap.size<=g/\g<wr.heap.size/\Hid (k=ns.length)/\Hid (Sp.rowL s n (m+1) σ=rlT s n gm σ')/\Hid (Sp.rowTs s n (m+1) σ=ns++rlN s n gm σ')/\Hid (PS b c cap len s 0 σ' wr)/\Hid (Kept b w wr)/\Hid (∃ ys,wr.ownsRow w.heap.size 239 2 (.slice (some ⟨g,0,none⟩) k kc) k ys/\(σ'.isLive=true->ys=xs.flatten))/\Hid (σ'.isLive=true->∃ h,h<=wr.heap.size/\LsR RowP wr g ns xs w.heap.size h))
 case atStart=>exact ⟨Nat.le_refl _,_, [(Sp.St.at_ s σ,Sp.tr s n .list 0 .nil (Sp.St.must s [40] σ))], [[Value.int .i64 a1,Value.slice sa1 sn1 sc1]],w1.heap.size,1,1,rfl,by omega,by omega,hr,hz1',by simp,rfl,Row_eq s n m σ,RowN_eq s n m σ,HP1.out,HK1.out,⟨_,HO1.out,fun _=>by simp⟩,fun hl=>by obtain ⟨h,h1,h2⟩:=HR1.out hl;exact ⟨h,by simp;omega,h2⟩⟩
 case round=>
  obtain ⟨hgm,σ',ns,xs,g,k,kc,rfl,hkg,hms,hrem,hgw,hgr,HKN,HR,HRT,HPr,HKr,HOr,HRr⟩:=hrel
  cases hs:σ'.is s [44]
  ·have HV:Hid (rlT s n gk σ'=σ'):=by show _=_;rw [rlT,hs];rfl
   have HVT:Hid (rlN s n gk σ' = []):=by show _=_;rw [rlN,hs];rfl
   have HT:Hid (σ'.take s [44]=σ'):=take_no hs
   go_wp2_with fail
   refine (accept1 HPr.out [44] (by decide)).mono ?_
   rintro r w2 ⟨rfl,hp2,hk2⟩
   rw [HT.out] at hp2
   rw [hs]
   have HP2:Hid (PS b c cap len s 0 σ' w2):=hp2
   have HK2:=hid hk2
   clear hp2 hk2
   go_wp2_with fail
   go_ret
   refine ⟨_,rfl,by rw [HR.out,HV.out];exact HP2.out,HKr.out.trans HK2.out,⟨_,_,_,rfl⟩,fun hl=>?_⟩
   rw [HR.out,HV.out] at hl
   have hz2:=HK2.out.size
   obtain ⟨ys,O,ey⟩:=HOr.out
   have O2:=owns_same O (HK2.out.block g hgr (by omega))
   obtain ⟨h,h1,h2⟩:=HRr.out hl
   have hle:=h2.le
   have ek:(Sp.rowTs s n (m+1) σ).length=k:=by rw [HRT.out,HVT.out,List.append_nil];exact HKN.out.symm
   refine ⟨g,kc,xs,h,?_,hgw,by omega,⟨by omega,by rw [ek];exact owns_cap O⟩,?_,fun j u hj=>?_⟩
   ·rw [ek];rfl
   ·rw [HRT.out,HVT.out,List.append_nil]
    exact h2.frame (fun n x m1 m2 hp hk=>RowP.frame hz2 n x m1 m2 hp hk) fun k p1 p2 _=>HK2.out.block k (by omega) (by omega)
   ·rw [<- ey hl] at hj
    exact owns_cells O2 j u hj
  ·have h1:=Sp.rem_step_lt hs
   obtain ⟨m',rfl⟩:∃ m',gk=m'+1:=⟨gk - 1,by omega⟩
   have HV:Hid (rlT s n (m'+1) σ'=rlT s n m' (Sp.rowT s n (σ'.step s))):=by show _=_;rw [rlT,hs];exact Row_eq s n m' _
   have HVT:Hid (rlN s n (m'+1) σ'=(Sp.St.at_ s (σ'.step s),Sp.tr s n .list 0 .nil (Sp.St.must s [40] (σ'.step s)))::rlN s n m' (Sp.rowT s n (σ'.step s))):=by show _=_;rw [rlN,hs];exact RowN_eq s n m' _
   have HT:Hid (σ'.take s [44]=σ'.step s):=take_yes hs
   have HL:Hid (σ'.isLive=true):=Sp.live_is hs
   have h2:=rem_Row s n (σ'.step s)
   go_wp2_with fail
   refine (accept1 HPr.out [44] (by decide)).mono ?_
   rintro r w2 ⟨rfl,hp2,hk2⟩
   rw [HT.out] at hp2
   rw [hs]
   have HP2:Hid (PS b c cap len s 0 (σ'.step s) w2):=hp2
   have HK2:=hid hk2
   clear hp2 hk2
   go_wp2_with fail
   refine (row_any HIA.out hn (by omega) HP2.out).mono ?_
   rintro r w3 ⟨v3,rfl,hp3,hk3,⟨a3,_,rfl,sa3,sn3,sc3,rfl⟩,hr3⟩
   have HP3:=hid hp3
   have HK3:=hid hk3
   have HR3:Hid ((Sp.rowT s n (σ'.step s)).isLive=true->RowP w3 (Sp.St.at_ s (σ'.step s),Sp.tr s n .list 0 .nil (Sp.St.must s [40] (σ'.step s))) [Value.int .i64 a3,Value.slice sa3 sn3 sc3] (w2.heap.size+1) w3.heap.size/\w2.heap.size+1<=w3.heap.size):=fun hl=>by
    have hq:=hr3 hl
    obtain ⟨x,e,_,r⟩:=hq
    obtain ⟨e0,e1⟩:=agg2 e
    have RP:RowP w3 (Sp.St.at_ s (σ'.step s),Sp.tr s n .list 0 .nil (Sp.St.must s [40] (σ'.step s))) [Value.int .i64 a3,Value.slice sa3 sn3 sc3] (w2.heap.size+1) w3.heap.size/\w2.heap.size+1<=w3.heap.size:=⟨⟨x,by rw [e0,e1],r⟩,Rp.le _ _ _ _ r.1⟩
    exact RP
   have hcl3:Hid (∀ u ∈ [Value.int .i64 a3,Value.slice sa3 sn3 sc3],u.oneCell'=true):=(by intro u hu;simp at hu;rcases hu with rfl | rfl <;> rfl)
   have hz2:=HK2.out.size
   have hz3:=HK3.out.size
   have hzr:=HKr.out.size
   obtain ⟨ys,hO,hey⟩:=HOr.out
   have HEY:=hid hey
   have HO3:Hid (w3.ownsRow w.heap.size 239 2 (.slice (some ⟨g,0,none⟩) k kc) k ys):=owns_same hO ((HK2.out.trans HK3.out).block g hgr (by omega))
   have HO4:Hid ((w3.alloc (.cells #[Value.int .i64 a3,Value.slice sa3 sn3 sc3] 239)).ownsRow w.heap.size 239 2 (.slice (some ⟨g,0,none⟩) k kc) k ys):=owns_same HO3.out (Below.heap_alloc _ _ _ (by omega))
   clear hp3 hk3 hr3 HP2 HPr hO hey
   go_wp2_with (at_builtin;go_must (refine wpList_append_two _ rfl (.tmp 12) (.tmp 15) 233 rfl w.heap.size 239 i0 (.agg #[.int .i64 0, .slice none 0 0]) 2 32 Tryz.underlying233 ji jz0 jz1 jz2 rfl (by decide) g k kc ys rfl HO4.out ⟨w3.heap.size,0,none⟩ 1 [Value.int .i64 a3,Value.slice sa3 sn3 sc3] rfl rfl ?c1 hcl3.out ?c3 ?c4 ?c5 ?_))
   case c1=>
    intro j u hj
    rw [Addr.add_lit,Nat.zero_add,World.cell?_alloc_new]
    simpa using hj
   case c3=>unfold maxLen;omega
   case c4=>omega
   case c5=>simp;omega
   intro g' kc' w5 hown hgrow hg'
   have HO5:=hid hown
   have HG5:=hid hgrow
   have hgg:g'=g\/w3.heap.size+1<=g':=by simpa using hg'
   have hg5:=(owns_lt hown)
   clear hown hgrow hg'
   go_wp2_with fail
   go_roundg m'
   case measure=>omega
   case rel=>
    have hz5:w3.heap.size+1<=w5.heap.size:=by have:=HG5.out.size;simpa using this
    have hb5:∀ q,q<w3.heap.size->q≠g->w5.heap[q]?=w3.heap[q]?:=fun q hq hn=>(HG5.out.block q (by simp;omega) (fun e=>by injection e with e;exact hn e)).trans (Below.heap_alloc _ _ _ hq)
    refine ⟨by omega,_,ns ++ [(Sp.St.at_ s (σ'.step s),Sp.tr s n .list 0 .nil (Sp.St.must s [40] (σ'.step s)))],xs ++ [[Value.int .i64 a3,Value.slice sa3 sn3 sc3]],g',k+1,kc',rfl,by omega,by omega,by omega,hg5.1,hg5.2,by show _=_;rw [List.length_append,<- HKN.out];rfl,by show _=_;rw [HR.out,HV.out],by show _=_;rw [HRT.out,HVT.out,List.append_assoc];rfl,HP3.out.stay (by omega) (hb5 b (by omega) (by omega)) (hb5 c (by omega) (by omega)) (hb5 5 (by omega) (by omega)),(((HKr.out.trans HK2.out).trans HK3.out).alloc _).grown HG5.out hgw,⟨_,HO5.out,fun _=>by rw [HEY.out HL.out];simp⟩,fun hl=>?_⟩
    obtain ⟨h,e1,e2⟩:=HRr.out HL.out
    have hle:=e2.le
    obtain ⟨r3,hlt3⟩:=HR3.out hl
    have E:LsR RowP w5 g ns xs w.heap.size h:=(e2.frame (fun n x m1 m2 hp hk=>RowP.frame (by omega) n x m1 m2 hp hk) fun q h1 h2 h3=>(hb5 q (by omega) h3).trans ((HK2.out.trans HK3.out).block q (by omega) (by omega)))
    have R:=RowP.frame (w':=w5) (by omega) _ _ _ _ r3 (fun q h1 h2=>hb5 q h2 (by omega))
    have S:=LsR.snoc hlt3 R (by omega) E (by omega)
    refine ⟨w3.heap.size,by omega,?_⟩
    rcases hgg with rfl | hgg
    ·exact S
    ·exact S.move (by omega)
def clLT (s:Sp.Bs) (n m:Nat) (σ:Sp.St):Sp.St:=if σ.is s [44] then Sp.chgL s n m (σ.step s) else σ
def clLN (s:Sp.Bs) (n m:Nat) (σ:Sp.St):List (Sp.Nm×Nat×Sp.Nd):=if σ.is s [44] then Sp.chgTs s n m (σ.step s) else []
theorem Set_eq (s:Sp.Bs) (n m:Nat) (σ:Sp.St):Sp.chgL s n (m+1) σ=clLT s n m (Sp.chgT s n σ):=by rw [Sp.chgL,clLT]
theorem SetN_eq (s:Sp.Bs) (n m:Nat) (σ:Sp.St):Sp.chgTs s n (m+1) σ=((Sp.St.nm s σ),(Sp.St.at_ s (Sp.St.nameT s σ)),Sp.tr s n .expr 0 .nil (Sp.St.must s [61] (Sp.St.nameT s σ)))::clLN s n m (Sp.chgT s n σ):=by rw [Sp.chgTs,clLN]
theorem infoSet:(Tryz.prog.info? 249).map (fun i=>(i.zero,i.size,i.bytes))=some (some (.agg #[.string ⟨#[]⟩, .int .i64 0, .int .i64 0, .nilIface]),4,48):=by kernel_rfl
theorem listSet_any {b c cap len:Nat} {s:Sp.Bs} {n m:Nat} {σ:Sp.St} {w:World} (IA:All b c cap len s n) (hn:n<=900000) (hmn:m<=900000) (hm:32*Sp.rem s σ+9<=n) (hmm:32*Sp.rem s σ<=m+1) (hp:PS b c cap len s 0 σ w) :
  Calls Tryz.prog 130 #[.pointer (some ⟨b,0,none⟩), .func (.func 131) #[.pointer (some ⟨b,0,none⟩)] #[]] w (PostV b c cap len s 0 (Sp.chgL s n (m+1) σ) w IsSl fun w' v=>LsV SetP w' (Sp.chgTs s n (m+1) σ) w.heap.size w'.heap.size v):=by
 obtain ⟨i0,ji,jz0,jz1,jz2⟩:=info_parts infoSet
 have hr:=rem_Set s n σ
 have hbw:=hp.lb
 have hcw:=hp.lc
 have h5c:=hp.h5.1
 have HP:=hid hp
 have HIA:=hid IA
 clear hp IA
 go_enter Tryz.func130,Tryz.ntmps130
 go_wp2_with fail
 refine (set_any HIA.out hn hm HP.out).mono ?_
 rintro r w1 ⟨v1,rfl,hp1,hk1,⟨x1,a1,q1,y1,rfl,hy1⟩,hr1⟩
 have HP1:Hid (PS b c cap len s 0 (Sp.chgT s n σ) (w1.alloc (.cells #[Value.string x1,Value.int .i64 a1,Value.int .i64 q1,y1] 249))):=hp1.alloc _
 have HK1:Hid (Kept b w (w1.alloc (.cells #[Value.string x1,Value.int .i64 a1,Value.int .i64 q1,y1] 249))):=hk1.alloc _
 have hz1':=hk1.size
 have HO1:Hid ((w1.alloc (.cells #[Value.string x1,Value.int .i64 a1,Value.int .i64 q1,y1] 249)).ownsRow w.heap.size 249 4 (.slice (some ⟨w1.heap.size,0,none⟩) 1 1) 1 [Value.string x1,Value.int .i64 a1,Value.int .i64 q1,y1]):=owns_new w1 w.heap.size hz1' 249 4 #[Value.string x1,Value.int .i64 a1,Value.int .i64 q1,y1] 1 rfl (by unfold maxLen;omega)
 have HR1:Hid ((Sp.chgT s n σ).isLive=true->∃ h,h<=w1.heap.size/\LsR SetP (w1.alloc (.cells #[Value.string x1,Value.int .i64 a1,Value.int .i64 q1,y1] 249)) w1.heap.size [((Sp.St.nm s σ),(Sp.St.at_ s (Sp.St.nameT s σ)),Sp.tr s n .expr 0 .nil (Sp.St.must s [61] (Sp.St.nameT s σ)))] [[Value.string x1,Value.int .i64 a1,Value.int .i64 q1,y1]] w.heap.size h):=fun hl=>by
  have hq:=hr1 hl
  obtain ⟨y,e,hi,r⟩:=hq
  obtain ⟨e0,e1,e2,e3⟩:=agg4s e
  have RP:SetP w1 ((Sp.St.nm s σ),(Sp.St.at_ s (Sp.St.nameT s σ)),Sp.tr s n .expr 0 .nil (Sp.St.must s [61] (Sp.St.nameT s σ))) [Value.string x1,Value.int .i64 a1,Value.int .i64 q1,y1] (w.heap.size+1) w1.heap.size/\w.heap.size+1<=w1.heap.size:=⟨⟨y,by rw [e0,e1,e2,e3],hi.noSl,r⟩,Rp.le _ _ _ _ r⟩
  have hle:w.heap.size+1<=w1.heap.size:=RP.2
  exact ⟨w1.heap.size,Nat.le_refl _,w.heap.size+1,w1.heap.size,by unfold Sub;omega,SetP.frame (by simp) _ _ _ _ RP.1 (fun k h1 h2=>Below.heap_alloc _ _ _ h2),Nat.le_refl _⟩
 have hcl1:Hid (∀ u ∈ [Value.string x1,Value.int .i64 a1,Value.int .i64 q1,y1],u.oneCell'=true):=(by intro u hu;simp at hu;rcases hu with rfl | rfl | rfl | rfl;rfl;rfl;rfl;exact hy1.one)
 have hv1:=hy1.cells
 unfold Value.cells at hv1
 clear hy1
 clear hp1 hk1 hr1 HP
 go_wp2_with fail
 go_loopg [5] m (fun gm v wr=>gm<=m/\∃ (σ' : Sp.St) (ns:List (Sp.Nm×Nat×Sp.Nd)) (xs:List (List Value)) (g k kc:Nat),v = .slice (some ⟨g,0,none⟩) k kc/\k+gm<=m+1/\32*Sp.rem s σ'<=gm+1/\Sp.rem s σ'<=Sp.rem s σ/\w.heap.size<=g/\g<wr.heap.size/\Hid (k=ns.length)/\Hid (Sp.chgL s n (m+1) σ=clLT s n gm σ')/\Hid (Sp.chgTs s n (m+1) σ=ns++clLN s n gm σ')/\Hid (PS b c cap len s 0 σ' wr)/\Hid (Kept b w wr)/\Hid (∃ ys,wr.ownsRow w.heap.size 249 4 (.slice (some ⟨g,0,none⟩) k kc) k ys/\(σ'.isLive=true->ys=xs.flatten))/\Hid (σ'.isLive=true->∃ h,h<=wr.heap.size/\LsR SetP wr g ns xs w.heap.size h))
 case atStart=>exact ⟨Nat.le_refl _,_, [((Sp.St.nm s σ),(Sp.St.at_ s (Sp.St.nameT s σ)),Sp.tr s n .expr 0 .nil (Sp.St.must s [61] (Sp.St.nameT s σ)))], [[Value.string x1,Value.int .i64 a1,Value.int .i64 q1,y1]],w1.heap.size,1,1,rfl,by omega,by omega,hr,hz1',by simp,rfl,Set_eq s n m σ,SetN_eq s n m σ,HP1.out,HK1.out,⟨_,HO1.out,fun _=>by simp⟩,fun hl=>by obtain ⟨h,h1,h2⟩:=HR1.out hl;exact ⟨h,by simp;omega,h2⟩⟩
 case round=>
  obtain ⟨hgm,σ',ns,xs,g,k,kc,rfl,hkg,hms,hrem,hgw,hgr,HKN,HR,HRT,HPr,HKr,HOr,HRr⟩:=hrel
  cases hs:σ'.is s [44]
  ·have HV:Hid (clLT s n gk σ'=σ'):=by show _=_;rw [clLT,hs];rfl
   have HVT:Hid (clLN s n gk σ' = []):=by show _=_;rw [clLN,hs];rfl
   have HT:Hid (σ'.take s [44]=σ'):=take_no hs
   go_wp2_with fail
   refine (accept1 HPr.out [44] (by decide)).mono ?_
   rintro r w2 ⟨rfl,hp2,hk2⟩
   rw [HT.out] at hp2
   rw [hs]
   have HP2:Hid (PS b c cap len s 0 σ' w2):=hp2
   have HK2:=hid hk2
   clear hp2 hk2
   go_wp2_with fail
   go_ret
   refine ⟨_,rfl,by rw [HR.out,HV.out];exact HP2.out,HKr.out.trans HK2.out,⟨_,_,_,rfl⟩,fun hl=>?_⟩
   rw [HR.out,HV.out] at hl
   have hz2:=HK2.out.size
   obtain ⟨ys,O,ey⟩:=HOr.out
   have O2:=owns_same O (HK2.out.block g hgr (by omega))
   obtain ⟨h,h1,h2⟩:=HRr.out hl
   have hle:=h2.le
   have ek:(Sp.chgTs s n (m+1) σ).length=k:=by rw [HRT.out,HVT.out,List.append_nil];exact HKN.out.symm
   refine ⟨g,kc,xs,h,?_,hgw,by omega,⟨by omega,by rw [ek];exact owns_cap O⟩,?_,fun j u hj=>?_⟩
   ·rw [ek];rfl
   ·rw [HRT.out,HVT.out,List.append_nil]
    exact h2.frame (fun n x m1 m2 hp hk=>SetP.frame hz2 n x m1 m2 hp hk) fun k p1 p2 _=>HK2.out.block k (by omega) (by omega)
   ·rw [<- ey hl] at hj
    exact owns_cells O2 j u hj
  ·have h1:=Sp.rem_step_lt hs
   obtain ⟨m',rfl⟩:∃ m',gk=m'+1:=⟨gk - 1,by omega⟩
   have HV:Hid (clLT s n (m'+1) σ'=clLT s n m' (Sp.chgT s n (σ'.step s))):=by show _=_;rw [clLT,hs];exact Set_eq s n m' _
   have HVT:Hid (clLN s n (m'+1) σ'=((Sp.St.nm s (σ'.step s)),(Sp.St.at_ s (Sp.St.nameT s (σ'.step s))),Sp.tr s n .expr 0 .nil (Sp.St.must s [61] (Sp.St.nameT s (σ'.step s))))::clLN s n m' (Sp.chgT s n (σ'.step s))):=by show _=_;rw [clLN,hs];exact SetN_eq s n m' _
   have HT:Hid (σ'.take s [44]=σ'.step s):=take_yes hs
   have HL:Hid (σ'.isLive=true):=Sp.live_is hs
   have h2:=rem_Set s n (σ'.step s)
   go_wp2_with fail
   refine (accept1 HPr.out [44] (by decide)).mono ?_
   rintro r w2 ⟨rfl,hp2,hk2⟩
   rw [HT.out] at hp2
   rw [hs]
   have HP2:Hid (PS b c cap len s 0 (σ'.step s) w2):=hp2
   have HK2:=hid hk2
   clear hp2 hk2
   go_wp2_with fail
   refine (set_any HIA.out hn (by omega) HP2.out).mono ?_
   rintro r w3 ⟨v3,rfl,hp3,hk3,⟨x3,a3,q3,y3,rfl,hy3⟩,hr3⟩
   have HP3:=hid hp3
   have HK3:=hid hk3
   have HR3:Hid ((Sp.chgT s n (σ'.step s)).isLive=true->SetP w3 ((Sp.St.nm s (σ'.step s)),(Sp.St.at_ s (Sp.St.nameT s (σ'.step s))),Sp.tr s n .expr 0 .nil (Sp.St.must s [61] (Sp.St.nameT s (σ'.step s)))) [Value.string x3,Value.int .i64 a3,Value.int .i64 q3,y3] (w2.heap.size+1) w3.heap.size/\w2.heap.size+1<=w3.heap.size):=fun hl=>by
    have hq:=hr3 hl
    obtain ⟨y,e,hi,r⟩:=hq
    obtain ⟨e0,e1,e2,e3⟩:=agg4s e
    have RP:SetP w3 ((Sp.St.nm s (σ'.step s)),(Sp.St.at_ s (Sp.St.nameT s (σ'.step s))),Sp.tr s n .expr 0 .nil (Sp.St.must s [61] (Sp.St.nameT s (σ'.step s)))) [Value.string x3,Value.int .i64 a3,Value.int .i64 q3,y3] (w2.heap.size+1) w3.heap.size/\w2.heap.size+1<=w3.heap.size:=⟨⟨y,by rw [e0,e1,e2,e3],hi.noSl,r⟩,Rp.le _ _ _ _ r⟩
    exact RP
   have hcl3:Hid (∀ u ∈ [Value.string x3,Value.int .i64 a3,Value.int .i64 q3,y3],u.oneCell'=true):=(by intro u hu;simp at hu;rcases hu with rfl | rfl | rfl | rfl;rfl;rfl;rfl;exact hy3.one)
   have hv3:=hy3.cells
   unfold Value.cells at hv3
   clear hy3
   have hz2:=HK2.out.size
   have hz3:=HK3.out.size
   have hzr:=HKr.out.size
   obtain ⟨ys,hO,hey⟩:=HOr.out
   have HEY:=hid hey
   have HO3:Hid (w3.ownsRow w.heap.size 249 4 (.slice (some ⟨g,0,none⟩) k kc) k ys):=owns_same hO ((HK2.out.trans HK3.out).block g hgr (by omega))
   have HO4:Hid ((w3.alloc (.cells #[Value.string x3,Value.int .i64 a3,Value.int .i64 q3,y3] 249)).ownsRow w.heap.size 249 4 (.slice (some ⟨g,0,none⟩) k kc) k ys):=owns_same HO3.out (Below.heap_alloc _ _ _ (by omega))
   clear hp3 hk3 hr3 HP2 HPr hO hey
   go_wp2_with (at_builtin;go_must (refine wpList_append_two _ rfl (.tmp 12) (.tmp 15) 246 rfl w.heap.size 249 i0 (.agg #[.string ⟨#[]⟩, .int .i64 0, .int .i64 0, .nilIface]) 4 48 Tryz.underlying246 ji jz0 jz1 jz2 rfl (by decide) g k kc ys rfl HO4.out ⟨w3.heap.size,0,none⟩ 1 [Value.string x3,Value.int .i64 a3,Value.int .i64 q3,y3] rfl rfl ?c1 hcl3.out ?c3 ?c4 ?c5 ?_))
   case c1=>
    intro j u hj
    rw [Addr.add_lit,Nat.zero_add,World.cell?_alloc_new]
    simpa using hj
   case c3=>unfold maxLen;omega
   case c4=>omega
   case c5=>simp;omega
   intro g' kc' w5 hown hgrow hg'
   have HO5:=hid hown
   have HG5:=hid hgrow
   have hgg:g'=g\/w3.heap.size+1<=g':=by simpa using hg'
   have hg5:=(owns_lt hown)
   clear hown hgrow hg'
   go_wp2_with fail
   go_roundg m'
   case measure=>omega
   case rel=>
    have hz5:w3.heap.size+1<=w5.heap.size:=by have:=HG5.out.size;simpa using this
    have hb5:∀ q,q<w3.heap.size->q≠g->w5.heap[q]?=w3.heap[q]?:=fun q hq hn=>(HG5.out.block q (by simp;omega) (fun e=>by injection e with e;exact hn e)).trans (Below.heap_alloc _ _ _ hq)
    refine ⟨by omega,_,ns ++ [((Sp.St.nm s (σ'.step s)),(Sp.St.at_ s (Sp.St.nameT s (σ'.step s))),Sp.tr s n .expr 0 .nil (Sp.St.must s [61] (Sp.St.nameT s (σ'.step s))))],xs ++ [[Value.string x3,Value.int .i64 a3,Value.int .i64 q3,y3]],g',k+1,kc',rfl,by omega,by omega,by omega,hg5.1,hg5.2,by show _=_;rw [List.length_append,<- HKN.out];rfl,by show _=_;rw [HR.out,HV.out],by show _=_;rw [HRT.out,HVT.out,List.append_assoc];rfl,HP3.out.stay (by omega) (hb5 b (by omega) (by omega)) (hb5 c (by omega) (by omega)) (hb5 5 (by omega) (by omega)),(((HKr.out.trans HK2.out).trans HK3.out).alloc _).grown HG5.out hgw,⟨_,HO5.out,fun _=>by rw [HEY.out HL.out];simp⟩,fun hl=>?_⟩
    obtain ⟨h,e1,e2⟩:=HRr.out HL.out
    have hle:=e2.le
    obtain ⟨r3,hlt3⟩:=HR3.out hl
    have E:LsR SetP w5 g ns xs w.heap.size h:=(e2.frame (fun n x m1 m2 hp hk=>SetP.frame (by omega) n x m1 m2 hp hk) fun q h1 h2 h3=>(hb5 q (by omega) h3).trans ((HK2.out.trans HK3.out).block q (by omega) (by omega)))
    have R:=SetP.frame (w':=w5) (by omega) _ _ _ _ r3 (fun q h1 h2=>hb5 q h2 (by omega))
    have S:=LsR.snoc hlt3 R (by omega) E (by omega)
    refine ⟨w3.heap.size,by omega,?_⟩
    rcases hgg with rfl | hgg
    ·exact S
    ·exact S.move (by omega)
def ctT (s:Sp.Bs) (σ:Sp.St):Sp.St:=if σ.is s [105,110,116]||σ.is s [116,101,120,116]||σ.is s [98,111,111,108] then σ.step s else σ.fail s 2
def IsIn (v:Value):Prop:=∃ n:Int,v = .int .i64 n
theorem columnType_any {b c cap len:Nat} {s:Sp.Bs} {d:Nat} {σ:Sp.St} {w:World} (h:PS b c cap len s d σ w) :
  Calls Tryz.prog 125 #[.pointer (some ⟨b,0,none⟩)] w (PostV b c cap len s d (ctT s σ) w IsIn fun _ v=>v = .int .i64 (Sp.colTy s σ)):=by
 have HP0:=hid h
 clear h
 cases h1:σ.is s [105,110,116]
 ·cases h2:σ.is s [116,101,120,116]
  ·cases h3:σ.is s [98,111,111,108]
   ·have HV:Hid (ctT s σ=σ.fail s 2):=by show _=_;simp [ctT,h1,h2,h3]
    go_enter Tryz.func125,Tryz.ntmps125
    go_wp2_with fail
    refine (accept1 HP0.out [105,110,116] (by decide)).mono ?_
    rintro r w1 ⟨rfl,hp1,hk1⟩
    rw [take_no h1] at hp1
    rw [h1]
    have HP1:=hid hp1
    have HK1:=hid hk1
    clear hp1 hk1
    go_wp2_with fail
    refine (accept1 HP1.out [116,101,120,116] (by decide)).mono ?_
    rintro r w2 ⟨rfl,hp2,hk2⟩
    rw [take_no h2] at hp2
    rw [h2]
    have HP2:=hid hp2
    have HK2:=hid (HK1.out.trans hk2)
    clear hp2 hk2
    go_wp2_with fail
    refine (accept1 HP2.out [98,111,111,108] (by decide)).mono ?_
    rintro r w3 ⟨rfl,hp3,hk3⟩
    rw [take_no h3] at hp3
    rw [h3]
    have HP3:=hid hp3
    have HK3:=hid (HK2.out.trans hk3)
    clear hp3 hk3
    go_wp2_with fail
    refine (refuse_any HP3.out).mono ?_
    rintro r w4 ⟨rfl,hp4,hk4⟩
    have HP4:=hid hp4
    have HK4:=hid (HK3.out.trans hk4)
    clear hp4 hk4
    go_wp2_with fail
    go_ret
    exact ⟨_,rfl,by rw [HV.out];exact HP4.out,HK4.out,⟨_,rfl⟩,fun hl=>by rw [HV.out] at hl;exact (Sp.live_fail hl).elim⟩
   ·have HV:Hid (ctT s σ=σ.step s/\Sp.colTy s σ=1):=⟨by simp [ctT,h1,h2,h3],by simp [Sp.colTy,h1,h2,h3]⟩
    go_enter Tryz.func125,Tryz.ntmps125
    go_wp2_with fail
    refine (accept1 HP0.out [105,110,116] (by decide)).mono ?_
    rintro r w1 ⟨rfl,hp1,hk1⟩
    rw [take_no h1] at hp1
    rw [h1]
    have HP1:=hid hp1
    have HK1:=hid hk1
    clear hp1 hk1
    go_wp2_with fail
    refine (accept1 HP1.out [116,101,120,116] (by decide)).mono ?_
    rintro r w2 ⟨rfl,hp2,hk2⟩
    rw [take_no h2] at hp2
    rw [h2]
    have HP2:=hid hp2
    have HK2:=hid (HK1.out.trans hk2)
    clear hp2 hk2
    go_wp2_with fail
    refine (accept1 HP2.out [98,111,111,108] (by decide)).mono ?_
    rintro r w3 ⟨rfl,hp3,hk3⟩
    rw [take_yes h3] at hp3
    rw [h3]
    have HP3:=hid hp3
    have HK3:=hid (HK2.out.trans hk3)
    clear hp3 hk3
    go_wp2_with fail
    go_ret
    exact ⟨_,rfl,by rw [HV.out.1];exact HP3.out,HK3.out,⟨_,rfl⟩,fun _=>by rw [HV.out.2];rfl⟩
  ·have HV:Hid (ctT s σ=σ.step s/\Sp.colTy s σ=3):=⟨by simp [ctT,h1,h2],by simp [Sp.colTy,h1,h2]⟩
   go_enter Tryz.func125,Tryz.ntmps125
   go_wp2_with fail
   refine (accept1 HP0.out [105,110,116] (by decide)).mono ?_
   rintro r w1 ⟨rfl,hp1,hk1⟩
   rw [take_no h1] at hp1
   rw [h1]
   have HP1:=hid hp1
   have HK1:=hid hk1
   clear hp1 hk1
   go_wp2_with fail
   refine (accept1 HP1.out [116,101,120,116] (by decide)).mono ?_
   rintro r w2 ⟨rfl,hp2,hk2⟩
   rw [take_yes h2] at hp2
   rw [h2]
   have HP2:=hid hp2
   have HK2:=hid (HK1.out.trans hk2)
   clear hp2 hk2
   go_wp2_with fail
   go_ret
   exact ⟨_,rfl,by rw [HV.out.1];exact HP2.out,HK2.out,⟨_,rfl⟩,fun _=>by rw [HV.out.2];rfl⟩
 ·have HV:Hid (ctT s σ=σ.step s/\Sp.colTy s σ=2):=⟨by simp [ctT,h1],by simp [Sp.colTy,h1]⟩
  go_enter Tryz.func125,Tryz.ntmps125
  go_wp2_with fail
  refine (accept1 HP0.out [105,110,116] (by decide)).mono ?_
  rintro r w1 ⟨rfl,hp1,hk1⟩
  rw [take_yes h1] at hp1
  rw [h1]
  have HP1:=hid hp1
  have HK1:=hid hk1
  clear hp1 hk1
  go_wp2_with fail
  go_ret
  exact ⟨_,rfl,by rw [HV.out.1];exact HP1.out,HK1.out,⟨_,rfl⟩,fun _=>by rw [HV.out.2];rfl⟩
structure Kept2 (b q:Nat) (w w' : World):Prop where
 os:w'.os=w.os
 tape:w'.tape=w.tape
 output:w'.output=w.output
 size:w.heap.size<=w'.heap.size
 block:∀ k,k<w.heap.size->k≠b->k≠q->w'.heap[k]?=w.heap[k]?
theorem Kept2.refl (b q:Nat) (w:World):Kept2 b q w w:=⟨rfl,rfl,rfl,Nat.le_refl _,fun _ _ _ _=>rfl⟩
theorem Kept2.trans {b q:Nat} {x y z:World} (h:Kept2 b q x y) (k:Kept2 b q y z):Kept2 b q x z:=
 ⟨k.os.trans h.os,k.tape.trans h.tape,k.output.trans h.output,Nat.le_trans h.size k.size,fun i hi hb hq=>(k.block i (Nat.lt_of_lt_of_le hi h.size) hb hq).trans (h.block i hi hb hq)⟩
theorem Kept2.of {b q:Nat} {w w' : World} (h:Kept b w w'):Kept2 b q w w':=⟨h.os,h.tape,h.output,h.size,fun k hk hb _=>h.block k hk hb⟩
theorem Kept2.setCell {b q:Nat} {a w:World} (h:Kept2 b q a w) (o:Nat) (u:Value):Kept2 b q a (w.setCell ⟨q,o,none⟩ u):=
 h.trans ⟨rfl,rfl,rfl,by simp [World.setCell],fun k _ _ hq=>Below.heap_setCell _ _ _ _ hq⟩
theorem Kept2.setNew {b q:Nat} {a w:World} (h:Kept2 b q a w) {p:Addr} (hp:a.heap.size<=p.block) (u:Value):Kept2 b q a (w.setCell p u):=
 ⟨h.os,h.tape,h.output,by simpa [World.setCell] using h.size,fun k hk hb hq=>(Below.heap_setCell _ _ _ _ (by omega)).trans (h.block k hk hb hq)⟩
theorem Kept2.fresh {b q:Nat} {w w' : World} (h:Kept2 b q w w') (hq:w.heap.size<=q):Kept b w w':=⟨h.os,h.tape,h.output,h.size,fun k hk hb=>h.block k hk hb (by omega)⟩
def IsNc (v:Value):Prop:=∃ x a t,v = .agg #[.string x, .int .i64 a, .int .i64 t]
def coS (s:Sp.Bs) (k:Nat) (σ:Sp.St):Sp.St:=if k == 6 then σ.fail s 2 else σ
def coT (s:Sp.Bs) (k:Nat) (σ:Sp.St):Sp.St:=ctT s ((coS s k σ).nameT s)
end Go.Proofs.YtgnncnhkgmhngaaGreatDoor
