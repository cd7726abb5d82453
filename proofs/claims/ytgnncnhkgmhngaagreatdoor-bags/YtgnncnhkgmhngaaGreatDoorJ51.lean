import Derived.Test.YtgnncnhkgmhngaaGreatDoorJ50
set_option maxHeartbeats 4000000
set_option maxRecDepth 100000
namespace Go.Proofs.YtgnncnhkgmhngaaGreatDoor
open Sp
open Go.RowKit Go.Sort
theorem dS.cap {base k:Nat} {w:World} {v:Value} {rows:List (List Sv.Val)} (h:dS base k w v rows):∀ a l c,v = .slice a l c->l<=c:=by
 intro a l c e
 rcases h with ⟨_,h⟩ | ⟨blk,c',h,_⟩
 ·rw [h] at e;injection e with _ e1 e2;omega
 ·rw [h] at e;injection e with _ e1 e2;omega
theorem dS.wd {base k:Nat} {w:World} {v:Value} {rows:List (List Sv.Val)} (h:dS base k w v rows):∀ r∈rows,r.length=k:=by
 rcases h with ⟨e,_⟩ | ⟨blk,c,_,_,_,hr⟩
 ·rw [e];simp
 ·intro r h
  obtain ⟨i,hi,rfl⟩:=List.mem_iff_getElem.1 h
  obtain ⟨_,_,_,_,h⟩:=hr i hi
  exact h
theorem dS.Ar {base k:Nat} {w w' : World} {v:Value} {ms:List Value} {rows:List (List Sv.Val)} (ho:w'.ownsRow w.heap.size 41 1 v ms.length ms) (ha:Al (gU (λ_=>True) w) ms rows) (hb:RowKit.Below w.heap.size w w') (hk:∀ r∈rows,r.length=k) (hbase:base<=w.heap.size):dS base k w' v rows:=by
 have hl:=ha.len
 have hbk:=aB ho
 have ho':=ho
 obtain ⟨_,h | ⟨g,cap,cur,hv,h0,hc,r1,r2,r3,r4⟩⟩:=ho
 ·exact .inl ⟨Av (by rw [<- hl];exact h.2),h.1⟩
 ·subst hv
  refine .inr ⟨g,cap - rows.length,by rw [<- hl,Nat.add_sub_cancel' r1],by omega,(hbk g rfl).2,λj hj=>?_⟩
  have hj' : j<ms.length:=by omega
  rw [Nat.zero_add]
  refine ⟨ms[j],bO ho' j _ (rI hj'),by simp [World.frozen?,hc],?_,hk _ (jD hj)⟩
  rcases (ha.get j hj' hj) with h | ⟨b,o,c,e,_,hv⟩
  ·exact .inl h
  ·exact .inr ⟨b,o,c,e,by have:=hv.lb;omega,hv.below hb hb.size hv.lb⟩
theorem dA {x:List Sv.Val} : ∀ {l m:List (List Sv.Val)},(x∈(matched l m).1->x∈l)/\(x∈(matched l m).2->x∈l)
 | [],m=>by simp [matched]
 | r::l,m=>by
  unfold matched
  split
  ·have:=dA (x:=x) (l:=l) (m := [])
   exact ⟨λh=>List.mem_cons_of_mem _ (this.1 h),λh=>by rcases List.mem_cons.1 h with h | h <;> simp [h,this.2]⟩
  ·split
   ·rename_i s m' _ _
    have:=dA (x:=x) (l:=l) (m:=m')
    exact ⟨λh=>by rcases List.mem_cons.1 h with h | h <;> simp [h,this.1],λh=>List.mem_cons_of_mem _ (this.2 h)⟩
   ·rename_i s m' _ _
    have:=dA (x:=x) (l:=l) (m:=s::m')
    exact ⟨λh=>List.mem_cons_of_mem _ (this.1 h),λh=>by rcases List.mem_cons.1 h with h | h <;> simp [h,this.2]⟩
theorem eD:∀ {l m:List (List Sv.Val)},(matched l m).1.length<=l.length/\(matched l m).2.length<=l.length
 | [],m=>by simp [matched]
 | r::l,m=>by
  unfold matched
  split
  ·have:=eD (l:=l) (m := [])
   simp;omega
  ·split
   ·rename_i s m' _ _
    have:=eD (l:=l) (m:=m')
    simp;omega
   ·rename_i s m' _ _
    have:=eD (l:=l) (m:=s::m')
    simp;omega
theorem dS.Ma {base k:Nat} {w w' : World} {v:Value} {rows:List (List Sv.Val)} (h:dS base k w v rows) (g:RowKit.Below w.heap.size w w'):xN (λ_=>True) w' v rows:=h.lrs.bel g
theorem dS.bel {base k:Nat} {w w' : World} {v:Value} {rows:List (List Sv.Val)} (h:dS base k w v rows) (g:RowKit.Below w.heap.size w w'):dS base k w' v rows:=by
 rcases h with h | ⟨blk,c,e,h1,h2,hr⟩
 ·exact .inl h
 ·refine .inr ⟨blk,c,e,h1,bY h2 g.size,λj hj=>?_⟩
  obtain ⟨u,p1,p2,p3,p4⟩:=hr j hj
  exact ⟨u,(g.cell (p:=⟨blk,0+j,none⟩) h2).trans p1,(wF (w:=w) (a:=⟨blk,0+j,none⟩) (g.block blk h2)).trans p2,p3.kept (Kept.below g),p4⟩
theorem Ht {b k:Nat} {wd:Sp.Bs} {a:Nat} {all:Bool} {pt qt:TypeId} {pp qq:Option Addr} {ia:Option Addr} {p q:List (List Sv.Val)} {w:World} (hk:k<=100000) (hA:At w b [.string (bz wd), .int .i64 (a:Int), .bool all, .iface pt (.pointer pp), .iface qt (.pointer qq)])
  (hw:wd = [117,110,105,111,110]\/wd = [101,120,99,101,112,116]\/wd = [105,110,116,101,114,115,101,99,116]) (hpl:p.length<=10000) (NK:q.length<=10000)
  (hP:∀ W,RowKit.Below w.heap.size w W->Calls Tryz.prog 93 #[.iface pt (.pointer pp), .pointer ia] W λe W'=>∃ v,e = .returned v/\dS W.heap.size k W' v p/\Gr W W')
  (hQ:∀ W,RowKit.Below w.heap.size w W->Calls Tryz.prog 93 #[.iface qt (.pointer qq), .pointer ia] W λe W'=>∃ v,e = .returned v/\dS W.heap.size k W' v q/\Gr W W') :
  Calls Tryz.prog 155 #[.pointer (some ⟨b,0,none⟩), .pointer ia] w λe w'=>∃ v,e = .returned v/\dS w.heap.size k w' v (combined wd all p q)/\RowKit.Below w.heap.size w w':=by
 have b0:=hA.k0
 have b2:=hA.k2
 have b3:=hA.k3
 have b4:=hA.k4
 have hbw:=hA.1
 have HP:=hid hP
 have HQ:=hid hQ
 clear hP hQ hA
 go_enter Tryz.func155,Tryz.ntmps155
 have HB0:Hid (RowKit.Below w.heap.size w w.drew):=(Gr.refl w).drew.below
 have h3:w.drew.cell? ⟨b,3,none⟩=some (.iface pt (.pointer pp)):=b3
 have h4:w.drew.cell? ⟨b,4,none⟩=some (.iface qt (.pointer qq)):=b4
 go_wp2_with fail
 go_region_held3 (λw'=>w'.cell? ⟨b,3,none⟩=some (.iface pt (.pointer pp))/\w'.cell? ⟨b,4,none⟩=some (.iface qt (.pointer qq))) (first | go_keep | exact ⟨b3,b4⟩ | exact ⟨c3,c4⟩ | exact ⟨d3,d4⟩) (first | (have _x:=HB1;go_at_call 93;refine (HQ.out _ HB1.out).mono ?_;rintro e w2 ⟨v2,rfl,r2,g2⟩;have d3:=(g2.cell (p:=⟨b,3,none⟩) (bY hbw HB1.out.size)).trans c3;have d4:=(g2.cell (p:=⟨b,4,none⟩) (bY hbw HB1.out.size)).trans c4) | (go_at_call 93;refine (HP.out _ HB0.out).mono ?_;rintro e w1 ⟨v1,rfl,r1,g1⟩;have c3:=(g1.cell (p:=⟨b,3,none⟩) hbw).trans h3;have c4:=(g1.cell (p:=⟨b,4,none⟩) hbw).trans h4;have HB1:Hid (RowKit.Below w.heap.size w w1):=HB0.out.trans (g1.below.mono HB0.out.size)))
 obtain ⟨a1,n1,rfl⟩:=r1.sl
 obtain ⟨a2,n2,rfl⟩:=r2.sl
 have HG2:=hid g2
 have FR:Hid (dS w.heap.size k w2 (.slice a1 p.length n1) p):=(r1.lower HB0.out.size).bel g2.below
 have SR:Hid (dS w1.heap.size k w2 (.slice a2 q.length n2) q):=r2
 have J4:Hid (∀ b,(Value.slice a1 p.length n1).ownBlock=some b->(Value.slice a2 q.length n2).ownBlock≠some b):=λb h1 h2=>by
  have:=(r1.own b h1).2
  have:=(r2.own b h2).1
  omega
 have BQ:Hid (RowKit.Below w.heap.size w w2):=HB1.out.trans (g2.below.mono HB1.out.size)
 have h1z:=HB1.out.size
 clear r1 r2 g1 g2 d3 d4 c3 c4 h3 h4 b3 b4 HB0 HP HQ
 have y2:=(BQ.out.cell (p:=⟨b,2,none⟩) hbw).trans b2
 obtain ⟨P,hP⟩:∃ P,P=if all then p else once p:=⟨_,rfl⟩
 obtain ⟨Q,hQ⟩:∃ Q,Q=if all then q else once q:=⟨_,rfl⟩
 have HE:Hid (combined wd all p q=if wd == [105,110,116,101,114,115,101,99,116] then (matched P Q).1 else if wd == [101,120,99,101,112,116] then (matched P Q).2 else if all then aI (P++Q) else aI ((matched P Q).2++Q)):=by
  show _=_
  rw [hP,hQ]
  rfl
 cases all
 ·have hp1:=iJ p
  have hq1:=iJ q
  have H9:=hid (uK FR.out (by omega) hk)
  go_wp2_with fail
  refine H9.out.mono ?_
  rintro e w3 ⟨v3,rfl,⟨r3,o3⟩,k3⟩
  have UU:Hid (dS w1.heap.size k w3 (.slice a2 q.length n2) q):=k3.Wo SR.out λb h1 h2=>J4.out b h2 h1
  have UV:Hid (RowKit.Below w.heap.size w w3):=BQ.out.trans (k3.below BQ.out.size λb h=>(FR.out.own b h).1)
  obtain ⟨xa,xc,rfl⟩:=r3.sl
  have fN:=hid (uK UU.out (by omega) hk)
  have WL:=hid r3
  have RB:Hid (∀ b,(Value.slice xa (once p).length xc).ownBlock=some b->(Value.slice a2 q.length n2).ownBlock≠some b):=λb h1=>J4.out b (o3.symm.trans h1)
  clear r3 o3 k3 H9 FR SR J4
  go_wp2_with fail
  refine fN.out.mono ?_
  rintro e w4 ⟨v4,rfl,⟨r4,o4⟩,k4⟩
  have WM:=hid (k4.Wo WL.out RB.out)
  have Mb : Hid (RowKit.Below w.heap.size w w4):=UV.out.trans (k4.below UV.out.size λb h=>cE h1z (UU.out.own b h).1)
  obtain ⟨ya,yc,rfl⟩:=r4.sl
  have WN:=hid r4
  have hP' : P=once p:=hP
  have hQ' : Q=once q:=hQ
  rw [<- hP'] at WM hp1 ⊢
  rw [<- hQ'] at WN hq1 ⊢
  have Kq:=WM
  have Mc:=WN
  clear r4 o4 k4 fN WL UU RB hP hQ hP' hQ' UV BQ y2
  have hpl' : P.length<=10000:=by omega
  have UW : Q.length<=10000:=by omega
  obtain ⟨xs,sx,ax⟩:=Kq.out.lrs
  obtain ⟨ys,sy,ay⟩:=Mc.out.lrs
  have hxl:=ax.len
  have hyl:=ay.len
  have HM:=hid (rX (C:=λ_=>True) (k:=k) sx sy ax ay Kq.out.wd Mc.out.wd hk (by omega) (by omega) Mc.out.cap)
  clear sx sy ax ay hxl hyl
  go_wp2_with fail
  refine HM.out.mono ?_
  rintro e w5 ⟨mv,rv,ms,rs,rfl,om,RC,_,am,ar,b5⟩
  have RM:Hid (dS w.heap.size k w5 mv (matched P Q).1):=dS.Ar om am b5 (λr hr=>Kq.out.wd r (dA.1 hr)) Mb.out.size
  have RR:Hid (dS w.heap.size k w5 rv (matched P Q).2):=dS.Ar RC ar b5 (λr hr=>Kq.out.wd r (dA.2 hr)) Mb.out.size
  have hml:=(eD (l:=P) (m:=Q)).2
  obtain ⟨ma,mc,rfl⟩:=RM.out.sl
  obtain ⟨ra,rc,rfl⟩:=RR.out.sl
  have F5:Hid (dS w.heap.size k w5 (.slice xa P.length xc) P):=Kq.out.bel b5
  have S5:Hid (dS w.heap.size k w5 (.slice ya Q.length yc) Q):=(Mc.out.lower h1z).bel b5
  have B5:Hid (RowKit.Below w.heap.size w w5):=Mb.out.trans (b5.mono Mb.out.size)
  have z0:=(B5.out.cell (p:=⟨b,0,none⟩) hbw).trans b0
  have z2:=(B5.out.cell (p:=⟨b,2,none⟩) hbw).trans b2
  have hb5:=bY hbw B5.out.size
  clear om RC am ar b5 HM b0 b2
  rcases hw with rfl | rfl | rfl
  ·have e0:w5.cell? ⟨b,0,none⟩=some (.string ⟨#[117,110,105,111,110]⟩):=z0
   clear z0
   (
    have GA:=hid ((Gr.refl w5).alloc (.cells #[.slice ra (matched P Q).2.length rc, .slice ya Q.length yc] 32))
    have HS:=hid (oR (C:=λ_=>True) (b:=w5.heap.size) (off:=0) (n:=2) (c:=2) (k:=k) (vs := [.slice ra (matched P Q).2.length rc, .slice ya Q.length yc]) (q7 := [(matched P Q).2,Q]) (w:=w5.alloc (.cells #[.slice ra (matched P Q).2.length rc, .slice ya Q.length yc] 32)) rfl rfl (by simp) (λj hj=>by match j,hj with | 0,_=>simp | 1,_=>simp) (λj hj=>by match j,hj with | 0,_=>exact RR.out.Ma GA.out.below | 1,_=>exact S5.out.Ma GA.out.below) (by simp;omega) (by omega) hk (by simp only [List.flatten_cons,List.flatten_nil,List.append_nil];intro r hr;rcases List.mem_append.1 hr with hr | hr;exact RR.out.wd r hr;exact S5.out.wd r hr))
    simp only [List.flatten_cons,List.flatten_nil,List.append_nil] at HS
    go_wp2_with fail
    refine HS.out.mono ?_
    rintro e w6 ⟨u,rfl,hu,g6⟩
    have HU:Hid (dS w.heap.size k w6 u (aI ((matched P Q).2++Q))):=hu.lower (cE B5.out.size GA.out.size)
    have B6:Hid (RowKit.Below w.heap.size w w6):=B5.out.trans ((GA.out.trans g6).below.mono B5.out.size)
    clear hu g6 HS GA
    obtain ⟨ua,uc,rfl⟩:=HU.out.sl
    go_wp2_with fail
    exact cL (v := .slice ua (aI ((matched P Q).2++Q)).length uc) (by simp [results,Tryz.results155,go_sem]) rfl ⟨_,rfl,by rw [HE.out];exact HU.out,B6.out⟩)
  ·have e0:w5.cell? ⟨b,0,none⟩=some (.string ⟨#[101,120,99,101,112,116]⟩):=z0
   clear z0
   go_wp2_with fail
   exact cL (v := .slice ra (matched P Q).2.length rc) (by simp [results,Tryz.results155,go_sem]) rfl ⟨_,rfl,by rw [HE.out];exact RR.out,B5.out⟩
  ·have e0:w5.cell? ⟨b,0,none⟩=some (.string ⟨#[105,110,116,101,114,115,101,99,116]⟩):=z0
   clear z0
   go_wp2_with fail
   exact cL (v := .slice ma (matched P Q).1.length mc) (by simp [results,Tryz.results155,go_sem]) rfl ⟨_,rfl,by rw [HE.out];exact RM.out,B5.out⟩
 ·obtain rfl:P=p:=hP
  obtain rfl:Q=q:=hQ
  have Mb:=BQ
  have Kq:=FR
  have Mc:=SR
  obtain ⟨xa,hxa⟩:∃ xa,xa=a1:=⟨_,rfl⟩
  obtain ⟨ya,hya⟩:∃ ya,ya=a2:=⟨_,rfl⟩
  obtain ⟨xc,hxc⟩:∃ xc,xc=n1:=⟨_,rfl⟩
  obtain ⟨yc,Zm⟩:∃ yc,yc=n2:=⟨_,rfl⟩
  subst hxa hya hxc Zm
  clear FR SR BQ
  have hpl' : P.length<=10000:=by omega
  have UW : Q.length<=10000:=by omega
  obtain ⟨xs,sx,ax⟩:=Kq.out.lrs
  obtain ⟨ys,sy,ay⟩:=Mc.out.lrs
  have hxl:=ax.len
  have hyl:=ay.len
  have HM:=hid (rX (C:=λ_=>True) (k:=k) sx sy ax ay Kq.out.wd Mc.out.wd hk (by omega) (by omega) Mc.out.cap)
  clear sx sy ax ay hxl hyl
  go_wp2_with fail
  refine HM.out.mono ?_
  rintro e w5 ⟨mv,rv,ms,rs,rfl,om,RC,_,am,ar,b5⟩
  have RM:Hid (dS w.heap.size k w5 mv (matched P Q).1):=dS.Ar om am b5 (λr hr=>Kq.out.wd r (dA.1 hr)) Mb.out.size
  have RR:Hid (dS w.heap.size k w5 rv (matched P Q).2):=dS.Ar RC ar b5 (λr hr=>Kq.out.wd r (dA.2 hr)) Mb.out.size
  have hml:=(eD (l:=P) (m:=Q)).2
  obtain ⟨ma,mc,rfl⟩:=RM.out.sl
  obtain ⟨ra,rc,rfl⟩:=RR.out.sl
  have F5:Hid (dS w.heap.size k w5 (.slice xa P.length xc) P):=Kq.out.bel b5
  have S5:Hid (dS w.heap.size k w5 (.slice ya Q.length yc) Q):=(Mc.out.lower h1z).bel b5
  have B5:Hid (RowKit.Below w.heap.size w w5):=Mb.out.trans (b5.mono Mb.out.size)
  have z0:=(B5.out.cell (p:=⟨b,0,none⟩) hbw).trans b0
  have z2:=(B5.out.cell (p:=⟨b,2,none⟩) hbw).trans b2
  have hb5:=bY hbw B5.out.size
  clear om RC am ar b5 HM b0 b2
  rcases hw with rfl | rfl | rfl
  ·have e0:w5.cell? ⟨b,0,none⟩=some (.string ⟨#[117,110,105,111,110]⟩):=z0
   clear z0
   (
    have GA:=hid ((Gr.refl w5).alloc (.cells #[.slice xa P.length xc, .slice ya Q.length yc] 32))
    have HS:=hid (oR (C:=λ_=>True) (b:=w5.heap.size) (off:=0) (n:=2) (c:=2) (k:=k) (vs := [.slice xa P.length xc, .slice ya Q.length yc]) (q7 := [P,Q]) (w:=w5.alloc (.cells #[.slice xa P.length xc, .slice ya Q.length yc] 32)) rfl rfl (by simp) (λj hj=>by match j,hj with | 0,_=>simp | 1,_=>simp) (λj hj=>by match j,hj with | 0,_=>exact F5.out.Ma GA.out.below | 1,_=>exact S5.out.Ma GA.out.below) (by simp;omega) (by omega) hk (by simp only [List.flatten_cons,List.flatten_nil,List.append_nil];intro r hr;rcases List.mem_append.1 hr with hr | hr;exact F5.out.wd r hr;exact S5.out.wd r hr))
    simp only [List.flatten_cons,List.flatten_nil,List.append_nil] at HS
    go_wp2_with fail
    refine HS.out.mono ?_
    rintro e w6 ⟨u,rfl,hu,g6⟩
    have HU:Hid (dS w.heap.size k w6 u (aI (P++Q))):=hu.lower (cE B5.out.size GA.out.size)
    have B6:Hid (RowKit.Below w.heap.size w w6):=B5.out.trans ((GA.out.trans g6).below.mono B5.out.size)
    clear hu g6 HS GA
    obtain ⟨ua,uc,rfl⟩:=HU.out.sl
    go_wp2_with fail
    exact cL (v := .slice ua (aI (P++Q)).length uc) (by simp [results,Tryz.results155,go_sem]) rfl ⟨_,rfl,by rw [HE.out];exact HU.out,B6.out⟩)
  ·have e0:w5.cell? ⟨b,0,none⟩=some (.string ⟨#[101,120,99,101,112,116]⟩):=z0
   clear z0
   go_wp2_with fail
   exact cL (v := .slice ra (matched P Q).2.length rc) (by simp [results,Tryz.results155,go_sem]) rfl ⟨_,rfl,by rw [HE.out];exact RR.out,B5.out⟩
  ·have e0:w5.cell? ⟨b,0,none⟩=some (.string ⟨#[105,110,116,101,114,115,101,99,116]⟩):=z0
   clear z0
   go_wp2_with fail
   exact cL (v := .slice ma (matched P Q).1.length mc) (by simp [results,Tryz.results155,go_sem]) rfl ⟨_,rfl,by rw [HE.out];exact RM.out,B5.out⟩
theorem Kr (v:Option Addr) (w:World):Sem.run Tryz.prog (Instr.typeAssert (.iface 280 (.pointer v)) 179 278 true) w = .ok (.tuple #[.pointer none, .bool false]) w:=by kernel_rfl
theorem Ks (v:Option Addr) (w:World):Sem.run Tryz.prog (Instr.typeAssert (.iface 280 (.pointer v)) 179 280 true) w = .ok (.tuple #[.pointer v, .bool true]) w:=by kernel_rfl
theorem CG {b:Nat} {ia:Option Addr} {w:World} {P:Value->World->Prop} (hC:Calls Tryz.prog 155 #[.pointer (some ⟨b,0,none⟩), .pointer ia] w λr w'=>∃ v,r = .returned v/\P v w') :
  Calls Tryz.prog 93 #[.iface 280 (.pointer (some ⟨b,0,none⟩)), .pointer ia] w λr w'=>∃ v,r = .returned v/\P v w':=by
 have HC:=hid hC
 have t0:=Kr
 have t1:=Ks
 clear hC
 go_enter Tryz.func93,Tryz.ntmps93
 go_wp2_with fail
 refine HC.out.mono ?_
 rintro e w1 ⟨v,rfl,h⟩
 have H:=hid h
 clear h
 go_wp2_with fail
 exact cL (v:=v) (by simp [results,Tryz.results93,go_sem]) rfl ⟨v,rfl,H.out⟩
theorem EF {b:Nat} {pt:TypeId} {pp ta:Option Addr} {tn tc:Nat} {z:Int} {w:World} (h3:w.cell? ⟨b,3,none⟩=some (.iface pt (.pointer pp))) (hC:Calls Tryz.prog 92 #[.slice ta tn tc, .iface pt (.pointer pp)] w λr w'=>r = .returned (.int .i64 z)/\RowKit.Below w.heap.size w w') :
  Calls Tryz.prog 92 #[.slice ta tn tc, .iface 280 (.pointer (some ⟨b,0,none⟩))] w λr w'=>r = .returned (.int .i64 z)/\RowKit.Below w.heap.size w w':=by
 have HC:=hid hC
 have t0:=Kr
 have t1:=Ks
 clear hC
 go_enter Tryz.func92,Tryz.ntmps92
 go_wp2_with fail
 refine HC.out.mono ?_
 rintro e w1 ⟨rfl,h⟩
 have H:=hid h
 clear h
 go_wp2_with fail
 exact cL (v := .int .i64 z) (by simp [results,Tryz.results92,go_sem]) rfl ⟨rfl,H.out⟩
def n9 (T:List Sp.Tb) (wd:Nat) (nd:Nd):Prop:=∃ di st ex src wh,nd = .sel di st ex src wh/\wf 90000 nd .query/\plain nd=true/\bd T nd []/\src ≠ []/\src.length<=1000/\(aK (rowsOf T src)).length<=1000/\(∀ tk∈aK (rowsOf T src),(cellsOf T ex tk []).length=wd)/\(ex = .none->Er T src=wd)/\(ex ≠ .none->ex.els.length=wd)
theorem n9.shape {T:List Sp.Tb} {wd lo hi:Nat} {nd:Nd} {v:Value} {W:World} (h:n9 T wd nd) (hr:Rp W nd lo hi v):∃ b,v = .iface 278 (.pointer (some ⟨b,0,none⟩)):=by
 obtain ⟨di,st,ex,src,wh,rfl,_⟩:=h
 obtain ⟨b,xv,fv,wv,m1,m2,m3,m4,rfl,_⟩:=hr
 exact ⟨b,rfl⟩
theorem n9.query {C:Nat->Prop} {T:List Sp.Tb} {wd lo hi:Nat} {nd:Nd} {tv v:Value} {W:World} (h:n9 T wd nd) (ht:cD C W T tv) (hT:Nk T) (hTc:∀ t∈T,t.cols.length<=50) (hr:Rp W nd lo hi v) (hh:hi<=W.heap.size) (hwb:wd<=100000) (W' : World) (iv:Value) (hb' : RowKit.Below W.heap.size W W') (ha:pW W' tv [] iv) :
  Calls Tryz.prog 93 #[v,iv] W' λr w'=>∃ v,r = .returned v/\dS W'.heap.size wd w' v (Sp.rn T nd [])/\Gr W' w':=by
 obtain ⟨vb,rfl⟩:=h.shape hr
 obtain ⟨di,st,ex,src,wh,rfl,hw,hp,hb,hs,hsl,hpl,hwd,_,_⟩:=h
 exact J9 wd (aF _) hw hp hb (ht.bel hb').Ol hT hTc ha ⟨by simp,λo lv h=>by simp at h⟩ (by simp) (hr.Ac hb' hh (by intro _ _ _ h;cases h)) (by have:=hb'.size;omega) hs hsl hpl hwd hwb
theorem n9.width {C:Nat->Prop} {T:List Sp.Tb} {wd lo hi:Nat} {nd:Nd} {tv v:Value} {W:World} (h:n9 T wd nd) (ht:cD C W T tv) (hTc:∀ t∈T,t.cols.length<=50) (hr:Rp W nd lo hi v) :
  Calls Tryz.prog 92 #[tv,v] W λr w'=>r = .returned (.int .i64 (wd:Nat))/\RowKit.Below W.heap.size W w':=by
 obtain ⟨di,st,ex,src,wh,rfl,hw,hp,hb,hs,hsl,hpl,hwd,hz1,hz2⟩:=h
 obtain ⟨ta,tn,tc,rfl⟩:=ht.sl
 obtain ⟨b,xv,fv,wv,m1,m2,m3,m4,rfl,l1,l2,hS,hS2,hA,hI,hX,hF,hn,hR⟩:=hr
 have hf:∀ x∈src,(aG x.1.1 T).isSome=true:=hb.1
 obtain ⟨blk,c,rfl,_,q1,q2,q3,q4⟩:∃ blk c,fv = .slice (some ⟨blk,0,none⟩) src.length c/\src ≠ []/\m2<=blk/\blk<m3/\blk<W.heap.size/\fX W blk 0 src:=by
  rcases hF with ⟨e,_⟩ | h
  ·exact absurd e hs
  ·exact h
 apply x7
 rcases hX with ⟨h1,rfl⟩ | ⟨hne,hX⟩
 ·have:=r7 hA ht.Ol q4 q3 hsl hf hTc
  rw [hz1 h1] at this
  exact this
 ·obtain ⟨_,hex,_,hwh⟩:=hw
  have hex' : 1<=ex.len/\ex.len<=90000/\wf 90000 ex .list:=by
   rcases hex with h | h
   ·exact absurd h hne
   ·exact h
  obtain ⟨h1,h2,h3⟩:=hex'
  obtain ⟨e1,e2,e3⟩:=gK 90000 ex h3
  have hz2:=hz2 hne
  generalize hns:ex.els=ns at *
  rw [e1] at hX
  obtain ⟨g,off,n,cp,rfl,hbl⟩:∃ g off n c,xv = .slice (some ⟨g,off,none⟩) n c/\g<W.heap.size:=by
   cases ns with
   | nil=>simp at e2;omega
   | cons n0 ns'=>
    simp only [gG,List.foldr_cons] at hX
    obtain ⟨blk,off,n,c,v,m1,m2,e,hl,_⟩:=hX
    exact ⟨blk,off,_,c,e,hl⟩
  obtain ⟨hnn,xs,Ep,hxs⟩:=Rp.els ns m1 m2 g off n cp hX
  obtain rfl:n=wd:=by rw [<- hz2,<- hnn]
  exact p8 hA
theorem Hu {T:List Sp.Tb} {wd a:Nat} {w:Sp.Bs} {all:Bool} {p q:Nd} (hp:n9 T wd p) (hq:n9 T wd q) (hT:Nk T) (hTc:∀ t∈T,t.cols.length<=50) (hwb:wd<=100000) (hw:w = [117,110,105,111,110]\/w = [101,120,99,101,112,116]\/w = [105,110,116,101,114,115,101,99,116]) (hpl:(Sp.rn T p []).length<=10000) (NK:(Sp.rn T q []).length<=10000) :
  Runs T (.query (.comb w a all p q)) T wd 0 0 (wd:Nat) 0 (Sp.rn T (.comb w a all p q) []):=by
 intro C W tv v lo hi hC ht hV hh
 have hr:Rp W (.comb w a all p q) lo hi v:=hV
 obtain ⟨ta,tn,tc,rfl⟩:=ht.sl
 obtain ⟨b,pv,qv,m1,m2,m3,rfl,l1,l2,hS,hS2,hA,n1,r1,n2,r2⟩:=hr
 unfold Sub at hS hS2
 obtain ⟨pb,rfl⟩:=hp.shape r1
 obtain ⟨qb,rfl⟩:=hq.shape r2
 have hz:(res0 W).heap.size=W.heap.size+1:=by simp [res0]
 refine (x8 (.inr rfl) (z:=(wd:Nat)) (P:=λv w1=>dS (W.heap.size+1) wd w1 v (Sp.rn T (.comb w a all p q) [])) ?_ ?_).mono ?_
 ·intro W' hb'
  have hs':=hb'.size
  have hA':=hA.same hb'.size (hb'.block b (by omega))
  exact EF hA'.k3 (hp.width (ht.bel hb') hTc (r1.Ac hb' (by omega) n1))
 ·intro W' iv hb' hlt ha
  have hs':=hb'.size
  have hA':=hA.same hb'.size (hb'.block b (by omega))
  obtain ⟨ib,rfl,hib,_⟩:=ha.ptr
  refine (CG (Ht hwb hA' hw hpl NK (λX hX=>?_) (λX hX=>?_))).mono ?_
  ·exact hp.query (ht.bel hb') hT hTc (r1.Ac hb' (by omega) n1) (by omega) hwb X _ hX (ha.bel hX)
  ·exact hq.query (ht.bel hb') hT hTc (r2.Ac hb' (by omega) n2) (by omega) hwb X _ hX (ha.bel hX)
  rintro r w' ⟨v,rfl,h1,h2⟩
  obtain ⟨a',c,rfl⟩:=h1.sl
  exact ⟨a',_,c,rfl,h1.lower (by omega),h2⟩
 ·rintro r w' ⟨a',n,c,w1,rfl,hP,hb1,rfl⟩
  have hz3:=hb1.size
  refine ⟨ta,tn,tc,a',n,c,rfl,⟨cD.oX hC ((OK ht).bel hb1),?_⟩,oY hb1 _ _ _ _ _⟩
  refine dS.lower (b:=W.heap.size+1) (hP.noS (Q:=λq=>q=W.heap.size) ?_ ?_ (by simp [World.setCell]) (λj _ hn=>cW hn _ _ _ _ _)) (by omega)
  ·rintro q rfl
   exact p9 (t:=56) ((hb1.block _ (by omega)).trans (World.alloc_heap_new W _))
  ·rintro q rfl
   omega
abbrev Ie (l:List (List Sv.Val)):Prop:=l.Pairwise λx y=>bP x y<=0
theorem eE (x:List Sv.Val) (l:List (List Sv.Val)) (r:List Sv.Val):cnt (x::l) r=(if x=r then 1 else 0)+cnt l r:=by
 unfold cnt
 rw [List.filter_cons]
 by_cases h:x=r <;> simp [h];omega
theorem FD (r:List Sv.Val):cnt [] r=0:=rfl
theorem FE (l m:List (List Sv.Val)) (r:List Sv.Val):cnt (l++m) r=cnt l r+cnt m r:=by
 unfold cnt
 rw [List.filter_append,List.length_append]
theorem gR {l:List (List Sv.Val)} {r:List Sv.Val} (h:r ∉ l):cnt l r=0:=by
 unfold cnt
 rw [List.length_eq_zero_iff,List.filter_eq_nil_iff]
 intro x hx
 simp only [decide_eq_true_eq]
 rintro rfl
 exact h hx
theorem sU {l:List (List Sv.Val)} {r:List Sv.Val} (h:r∈l):0<cnt l r:=by
 unfold cnt
 exact List.length_pos_iff.2 (List.ne_nil_of_mem (List.mem_filter.2 ⟨h,by simp⟩))
theorem FF {l:List (List Sv.Val)} {r:List Sv.Val} : cnt l r≠0↔r∈l:=⟨λh=>Classical.byContradiction λh'=>h (gR h'),λh=>Nat.ne_of_gt (sU h)⟩
theorem RD {x y:List Sv.Val} (h:bP x y<=0) (hn:y≠x):bP x y<0:=by
 rcases Int.lt_or_eq_of_le h with h | h
 ·exact h
 ·exact absurd (kP x y h).symm hn
theorem uS {s:List Sv.Val} {l:List (List Sv.Val)} (h:∀ x∈l,bP s x<0):s ∉ l:=λhs=>by
 have:=h s hs
 rw [fZ] at this
 omega
theorem Nq {x y z:List Sv.Val} (h1:bP x y<0) (h2:bP y z<=0):bP x z<0:=by
 rcases Int.lt_or_eq_of_le h2 with h | h
 ·exact sR _ _ _ h1 h
 ·rw [<- kP y z h];exact h1
theorem yD (r:List Sv.Val):∀ (l:List (List Sv.Val)) (s:List Sv.Val),Ie (s::l)->cnt (dR s l) r=if r=s then 0 else min 1 (cnt l r)
 | [],s,_=>by simp [dR,cnt]
 | t::l,s,h=>by
  obtain ⟨h1,h2⟩:=List.pairwise_cons.1 h
  have ih:=yD r l t h2
  obtain ⟨h3,_⟩:=List.pairwise_cons.1 h2
  by_cases e:bP t s=0
  ·obtain rfl:=kP t s e
   rw [oV e,ih,eE]
   by_cases hr:r=t
   ·simp [hr]
   ·simp [hr,Ne.symm hr]
  ·have hst:bP s t<0:=RD (h1 t List.mem_cons_self) λe'=>e (by rw [e',fZ])
   have hne:s ∉ l:=uS λx hx=>Nq hst (h3 x hx)
   rw [xW e,eE,ih,eE]
   by_cases hr:r=s
   ·subst hr
    have:t≠r:=λe'=>e (by rw [e',fZ])
    simp [this,Ne.symm this,gR hne]
   ·by_cases ht:r=t
    ·subst ht
     simp [hr]
    ·simp [hr,ht,Ne.symm ht]
theorem qA {l:List (List Sv.Val)} (h:Ie l) (r:List Sv.Val):cnt (once l) r=min 1 (cnt l r):=by
 cases l with
 | nil=>rfl
 | cons s l=>
  show cnt (s::dR s l) r=_
  rw [eE,eE,yD r l s h]
  by_cases hr:r=s
  ·subst hr;simp
  ·simp [hr,Ne.symm hr]
theorem uT:∀ (l:List (List Sv.Val)) (s:List Sv.Val),(dR s l).Sublist l
 | [],_=>List.Sublist.refl _
 | t::l,s=>by
  rw [dR]
  split
  ·exact (uT l t).cons _
  ·exact (uT l t).cons_cons _
theorem CI {l:List (List Sv.Val)} (h:Ie l):Ie (once l):=by
 cases l with
 | nil=>exact h
 | cons s l=>exact h.sublist ((uT l s).cons_cons s)
theorem CJ {x r:List Sv.Val} (hr:bP x r<=0):∀ m:List (List Sv.Val),cnt (Sp.skip x m) r=cnt m r
 | []=>rfl
 | s::m=>by
  rw [Sp.skip]
  split
  ·rename_i h
   rw [CJ hr m,eE]
   have:s≠r:=λe=>by
    have:=dU x r
    rw [<- e] at this hr
    omega
   simp [this]
  ·rfl
theorem CL {x:List Sv.Val} : ∀ {m:List (List Sv.Val)},Ie m->Ie (Sp.skip x m)
 | [],h=>h
 | s::m,h=>by
  rw [Sp.skip]
  split
  ·exact CL (List.pairwise_cons.1 h).2
  ·exact h
theorem yE {x s:List Sv.Val} : ∀ {m t:List (List Sv.Val)},Sp.skip x m=s::t->¬ bP s x<0
 | [],t,h=>by simp [Sp.skip] at h
 | u::m,t,h=>by
  rw [Sp.skip] at h
  split at h
  ·exact yE h
  ·rename_i hn
   injection h with h1 h2
   rw [<- h1];exact hn
theorem gS (r:List Sv.Val):∀ (l m:List (List Sv.Val)),Ie l->Ie m->cnt (matched l m).1 r=min (cnt l r) (cnt m r)/\cnt (matched l m).2 r=cnt l r - cnt m r
 | [],m,_,_=>by simp [matched,FD]
 | x::l,m,hl,hm=>by
  by_cases hrl:r∈x::l
  ·obtain ⟨h1,h2⟩:=List.pairwise_cons.1 hl
   have hxr:bP x r<=0:=by
    rcases List.mem_cons.1 hrl with rfl | h
    ·rw [fZ];omega
    ·exact h1 r h
   have hs:=CJ hxr m
   have hsr:=CL (x:=x) hm
   rw [<- hs]
   unfold matched
   cases hk:Sp.skip x m with
   | nil=>
    have ih:=gS r l [] h2 List.Pairwise.nil
    simp only [eE,FD] at ih ⊢
    omega
   | cons s t=>
    rw [hk] at hsr
    by_cases e:bP s x=0
    ·obtain rfl:=kP s x e
     have ih:=gS r l t h2 (List.pairwise_cons.1 hsr).2
     simp only [e,if_true,eE]
     omega
    ·have ih:=gS r l (s::t) h2 hsr
     have hxs:bP x s<0:=by
      have:=yE hk
      have:=dU x s
      omega
     have hz:r=x->cnt (s::t) r=0:=by
      rintro rfl
      refine gR (uS λy hy=>?_)
      rcases List.mem_cons.1 hy with rfl | hy
      ·exact hxs
      ·exact Nq hxs ((List.pairwise_cons.1 hsr).1 y hy)
     simp only [e,if_false]
     rw [eE x l,eE x (matched l (s::t)).2]
     by_cases hx:x=r
     ·have:=hz hx.symm
      simp only [hx,if_true]
      omega
     ·simp only [hx,if_false]
      omega
  ·have h0:=gR hrl
   have h1:cnt (matched (x::l) m).1 r=0:=gR λh=>hrl (dA.1 h)
   have h2:cnt (matched (x::l) m).2 r=0:=gR λh=>hrl (dA.2 h)
   omega
def uU (w:Sp.Bs) (all:Bool) (p q:Nat):Nat:=
 if w == [105,110,116,101,114,115,101,99,116] then (if all then min p q else min 1 (min p q)) else if w == [101,120,99,101,112,116] then (if all then p - q else min 1 p - min 1 q) else if all then p+q else min 1 (p+q)
theorem CM {w:Sp.Bs} {all:Bool} {p q:List (List Sv.Val)} (hp:Ie p) (hq:Ie q) (r:List Sv.Val):cnt (combined w all p q) r=uU w all (cnt p r) (cnt q r):=by
 have h1:=gS r p q hp hq
 have h2:=gS r (once p) (once q) (CI hp) (CI hq)
 rw [qA hp,qA hq] at h2
 unfold combined uU
 cases all
 ·simp only [Bool.false_eq_true,if_false]
  split
  ·rw [h2.1];omega
  ·split
   ·rw [h2.2]
   ·rw [m8 (bF _),FE,h2.2,qA hq];omega
 ·simp only [if_true]
  split
  ·exact h1.1
  ·split
   ·exact h1.2
   ·rw [m8 (bF _),FE]
def inn (l S:List (List Sv.Val)):Nat:=(l.filter λx=>decide (x∈S)).length
theorem Md (l:List (List Sv.Val)):inn l []=0:=by simp [inn]
theorem Mf {l S:List (List Sv.Val)} {r:List Sv.Val} (h:r∈S):inn l (S ++ [r])=inn l S:=by
 unfold inn
 congr 1
 apply List.filter_congr
 intro x _
 simp only [List.mem_append,List.mem_singleton,decide_eq_decide]
 refine ⟨λh'=>?_, .inl⟩
 rcases h' with h' | rfl
 ·exact h'
 ·exact h
theorem FG {S:List (List Sv.Val)} {r:List Sv.Val} (h:r ∉ S):∀ l:List (List Sv.Val),inn l (S ++ [r])=inn l S+cnt l r
 | []=>rfl
 | x::l=>by
  have ih:=FG h l
  rw [eE]
  unfold inn at ih ⊢
  rw [List.filter_cons,List.filter_cons]
  by_cases e:x=r
  ·subst e
   simp only [List.mem_append,List.mem_singleton,or_true,decide_true,if_true,h,decide_false,Bool.false_eq_true,if_false,List.length_cons] at ih ⊢
   omega
  ·simp only [List.mem_append,List.mem_singleton,e,or_false,if_false] at ih ⊢
   split <;> (try simp only [List.length_cons]) <;> omega
theorem Mg {l S:List (List Sv.Val)} (h:∀ x∈l,x∈S):inn l S=l.length:=by
 unfold inn
 rw [List.filter_eq_self.2 λx hx=>by simpa using h x hx]
theorem Mh {w:Sp.Bs} {all:Bool} {p q:List (List Sv.Val)} (hp:Ie p) (hq:Ie q) {r:List Sv.Val} (h:r∈combined w all p q):r∈p\/r∈q:=by
 have h1:=sU h
 rw [CM hp hq] at h1
 rcases Classical.em (r∈p) with h2 | h2
 ·exact .inl h2
 ·rcases Classical.em (r∈q) with h3 | h3
  ·exact .inr h3
  ·rw [gR h2,gR h3] at h1
   unfold uU at h1
   revert h1
   cases all <;> repeat (split <;> try simp)
end Go.Proofs.YtgnncnhkgmhngaaGreatDoor
