import Derived.Test.YtgnncnhkgmhngaaGreatDoorJ52
import Derived.Deep.DeepCutAuto
import Derived.Deep.CutBlock
set_option maxHeartbeats 4000000
set_option maxRecDepth 100000
namespace Go.Proofs.YtgnncnhkgmhngaaGreatDoor
open Sp
open Go.RowKit Go.Sort
theorem dS.at_ {base k:Nat} {w:World} {v:Value} {rows:List (List Sv.Val)} (h:dS base k w v rows) (hk:1<=k) (i:Nat) (hi:i<rows.length):∃ g c b l m,v = .slice (some ⟨g,0,none⟩) rows.length c/\w.cell? ⟨g,i,none⟩=some (.slice b l m)/\Rn w (.slice b l m) rows[i]/\g<w.heap.size:=by
 rcases h with ⟨rfl,_⟩ | ⟨g,c,rfl,_,h2,hr⟩
 ·simp at hi
 ·obtain ⟨u,p1,_,p3,p4⟩:=hr i hi
  rw [Nat.zero_add] at p1
  rcases p3 with ⟨_,e⟩ | ⟨b,o,c',e,_,hv⟩
  ·rw [e] at p4;simp at p4;omega
  ·rw [e] at p1
   exact ⟨g,_,_,_,_,rfl,p1,⟨b,o,c',rfl,hv⟩,h2⟩
def kR:Array Value:=#[.string ⟨#[117,110,105,111,110,32,97,108,108]⟩, .string ⟨#[101,120,99,101,112,116,32,97,108,108]⟩, .string ⟨#[105,110,116,101,114,115,101,99,116,32,97,108,108]⟩, .string ⟨#[117,110,105,111,110]⟩, .string ⟨#[101,120,99,101,112,116]⟩, .string ⟨#[105,110,116,101,114,115,101,99,116]⟩]
def vY (j p q:Nat):Int:=if j % 3=1 then (if (j=4/\0<q)\/p<q then 0 else (p:Int) - q) else if j % 3=2 then (if q<p then (q:Int) else p) else (p:Int)+q
def As (j:Nat) (z:Int):Int:=if 2<j/\1<z then 1 else z
theorem UX (j:Nat) (hj:j<6):∃ x wd all k,kR[j]?=some (.string x)/\x.size<=100/\Cq ((⟨#[115,101,108,101,99,116,32,42,32,102,114,111,109,32,116,32]⟩:ByteArray)++x++(⟨#[32,115,101,108,101,99,116,32,97,44,32,98,32,102,114,111,109,32,117]⟩:ByteArray)).data.toList wd all k/\∀ p q,As j (vY j p q)=(uU wd all p q:Nat):=by
 have h6:j=0\/j=1\/j=2\/j=3\/j=4\/j=5:=by omega
 rcases h6 with rfl | rfl | rfl | rfl | rfl | rfl
 ·exact ⟨_,_,_,_,rfl,by decide,Zn,λp q=>by simp [As,vY,uU]⟩
 ·exact ⟨_,_,_,_,rfl,by decide,Zo,λp q=>by simp [As,vY,uU];split <;> omega⟩
 ·exact ⟨_,_,_,_,rfl,by decide,Zp,λp q=>by simp [As,vY,uU];split <;> omega⟩
 ·exact ⟨_,_,_,_,rfl,by decide,Zq,λp q=>by simp [As,vY,uU];split <;> omega⟩
 ·exact ⟨_,_,_,_,rfl,by decide,Zr,λp q=>by simp [As,vY,uU];(repeat' split) <;> omega⟩
 ·exact ⟨_,_,_,_,rfl,by decide,Zs,λp q=>by simp [As,vY,uU];(repeat' split) <;> omega⟩
theorem RJ {ta ua:Option Addr} {n m tc uc:Nat} {lt lu:List (Int×Int)} {w:World} (hr:Es w) (ht:rG w (.slice ta n tc) lt) (hu:rG w (.slice ua m uc) lu) (hn:n=lt.length) (hm:m=lu.length) (hlt:n<=9223372036854775807) (S0:m<=9223372036854775807) :
  Calls Tryz.prog 8 #[.slice ta n tc, .slice ua m uc] w λr w'=>r = .returned (.bool true)/\RowKit.Below w.heap.size w w':=by
 obtain ⟨i0,ji,fR,jz1,fS⟩:=info_parts CD
 have HR:=hid hr
 have HT:=hid ht
 have HU:=hid hu
 have WO:=hid (L9 hr ht hu (by omega) (by omega))
 rw [hn] at hlt
 rw [hm] at S0
 have Zt:=hid hlt
 have Zu:=hid S0
 clear hr ht hu hn hm hlt S0
 have iN:Hid (∀ r∈nQ (lt.take 20),r.length=2):=FB
 have Ia:Hid (∀ r∈nQ (lu.take 20),r.length=2):=FB
 have hxl:(nQ (lt.take 20)).length<=20:=by simp [nQ];omega
 have hyl:(nQ (lu.take 20)).length<=20:=by simp [nQ];omega
 have WP:=λ(W:World) (bb:Nat) (h:rG W (.slice ta n tc) lt) (hb:bb<W.heap.size)=>FH (bb:=bb) h Zt.out hb
 have Ox:=λ(W:World) (bb:Nat) (h:rG W (.slice ua m uc) lu) (hb:bb<W.heap.size)=>FH (bb:=bb) h Zu.out hb
 generalize nQ (lt.take 20)=X at *
 generalize nQ (lu.take 20)=Y at *
 have WR:=hid WP
 have WS:=hid Ox
 clear WP Ox
 go_enter Tryz.func8,Tryz.ntmps8
 go_wp2_with fail
 refine WO.out.mono ?_
 rintro e w1 ⟨bb,rfl,h1⟩
 have OP:Hid (rF bb w X Y w1):=hid h1
 clear h1 WO
 go_wp2_with fail
 refine (WR.out w1 bb (HT.out.bel OP.out.below) OP.out.lt).mono ?_
 rintro e w2 ⟨xv,rfl,hx,b2⟩
 have HF2:=hid (OP.out.bel b2)
 have WT:=hid hx
 obtain ⟨xa,xc,rfl⟩:=hx.sl
 clear hx b2 OP
 go_wp2_with fail
 refine (WS.out w2 bb (HU.out.bel HF2.out.below) HF2.out.lt).mono ?_
 rintro e w3 ⟨yv,rfl,hy,b3⟩
 have HF3:=hid (HF2.out.bel b3)
 have UY:=hid (WT.out.bel b3)
 have UZ:=hid hy
 obtain ⟨ya,yc,rfl⟩:=hy.sl
 clear hy b3 HF2 WT
 obtain ⟨xs,hxs,hxr⟩:=UY.out.PF
 obtain ⟨ys,hys,U0⟩:=UZ.out.PF
 have SX:=hid hxs
 have SY:=hid hys
 have RX:=hid hxr
 have RY:=hid U0
 have hxn:xs.length<=20:=by rw [hxr.len];exact hxl
 have hyn:ys.length<=20:=by rw [U0.len];exact hyl
 clear hxs hys hxr U0
 have h1x:Hid (∀ u∈xs,u.oneCell'=true):=λu hu=>by obtain ⟨a,l,c,e⟩:=RX.out.sl u hu;rw [e];rfl
 have WU:Hid (∀ u∈ys,u.oneCell'=true):=λu hu=>by obtain ⟨a,l,c,e⟩:=RY.out.sl u hu;rw [e];rfl
 have WV:Hid (0+xs.length<=maxLen):=by show _<=_;unfold maxLen;omega
 have WW:Hid ((0+xs.length)*24<=140737488355328):=by show _<=_;omega
 have WX:Hid (xs.length+ys.length<=maxLen):=by show _<=_;unfold maxLen;omega
 have WY:Hid ((xs.length+ys.length)*24<=140737488355328):=by show _<=_;omega
 go_wp2_with (at_builtin;go_must (refine jC _ rfl (.tmp 31) (.tmp 32) 32 rfl w3.heap.size 41 i0 (.slice none 0 0) 24 Tryz.underlying32 ji fR jz1 fS rfl (.slice none 0 0) 0 [] rfl (World.ownsRow_nil _ _ _ _) (λ_=>rfl) _ xs rfl SX.out h1x.out WV.out WW.out (aF _) ?_))
 intro v4 w4 o4 g4 n4
 have B4:Hid (RowKit.Below w3.heap.size w3 w4):=below_grown (Below.refl _ _) g4 (World.ownsRow_nil w3 w3.heap.size 41 1) (aF _)
 have O4:=hid o4
 have N4:Hid (xs.length=0->v4 = .slice none 0 0):=λh=>by first | exact n4 h | exact n4 (Av h)
 have WZ:=hid (SY.out.below B4.out)
 have Zv:=hid (RX.out.bel B4.out)
 obtain ⟨ba,bl,bc,rfl⟩:∃ a l c,v4 = .slice a l c:=by
  rcases id o4.2 with h | ⟨g,cap,cur,h,_⟩
  ·exact ⟨_,_,_,h.1⟩
  ·exact ⟨_,_,_,h⟩
 have z4:=B4.out.size
 have Z4:Hid (w3.heap.size<=w4.heap.size):=z4
 clear o4 g4 n4 z4
 go_wp2_with (at_builtin;go_must (refine jC _ rfl (.tmp 34) (.tmp 35) 32 rfl w3.heap.size 41 i0 (.slice none 0 0) 24 Tryz.underlying32 ji fR jz1 fS rfl _ xs.length _ rfl O4.out N4.out _ ys rfl WZ.out WU.out WX.out WY.out Z4.out ?_))
 intro v5 w5 o5 g5 n5
 have B5:Hid (RowKit.Below w3.heap.size w3 w5):=below_grown B4.out g5 O4.out (aF _)
 have OR:=hid (HF3.out.bel B5.out)
 have W5:=hid (UY.out.bel B5.out)
 have W6:=hid (UZ.out.bel B5.out)
 have S1:Hid (LB bb w5 v5 (X++Y)):=by
  refine ⟨w3.heap.size,xs++ys,HF3.out.lt,?_,?_⟩
  ·have:=o5
   rw [<- List.length_append] at this
   exact this
  ·exact (RX.out.bel B5.out).app (RY.out.bel B5.out)
 obtain ⟨pa,pc,rfl⟩:=S1.out.sl
 clear o5 g5 n5 B4 O4 N4 WZ Zv SX SY RX RY h1x WU WV WW WX WY Z4 B5 HF3 UY UZ hxn hyn HT HU WR WS
 have hbl:(X++Y).length<=40:=by rw [List.length_append];omega
 obtain ⟨N,hN⟩:∃ N,N=(X++Y).length:=⟨_,rfl⟩
 have HN:=hid hN
 rw [<- hN] at hbl S1 ⊢
 clear hN
 have G6:=hid ((Gr.refl w5).alloc (.cells kR 46))
 have S2:Hid ((w5.alloc (.cells kR 46)).heap[w5.heap.size]?=some (.cells kR 46 (0,0))):=World.alloc_heap_new w5 _
 have HF6:=hid (OR.out.bel G6.out.below)
 have U1:=hid (W5.out.bel G6.out.below)
 have U2:=hid (W6.out.bel G6.out.below)
 have U3:=hid (S1.out.bel G6.out.below)
 have hwb:Hid (bb<w5.heap.size):=OR.out.lt
 go_wp2_with fail
 change Code.wp _ _ _ _ (w5.alloc (.cells kR 46))
 generalize hw6:w5.alloc (.cells kR 46)=w6 at S2 HF6 U1 U2 U3 ⊢
 clear hw6 G6 OR W5 W6 S1
 generalize w5.heap.size=wb at S2 hwb ⊢
 go_loopw [10] (λjv wr=>∃ j:Nat,j<=6/\jv = .int .i64 (j:Nat)/\Hid (rF bb w X Y wr)/\Hid (LB bb wr (.slice xa X.length xc) X)/\Hid (LB bb wr (.slice ya Y.length yc) Y)/\Hid (LB bb wr (.slice pa N pc) (X++Y))/\Hid (wr.heap[wb]?=some (.cells kR 46 (0,0)))) (λjv _=>6 - (intOf jv).toNat)
 case atStart=>exact ⟨0,by omega,rfl,HF6,U1,U2,U3,S2⟩
 case round=>
  clear HF6 U1 U2 U3 S2
  obtain ⟨j,hj,rfl,HF,LX,LY,LP,HW⟩:=hrel
  by_cases Zw:j<6
  ·obtain ⟨x,wd,all,k,ex,hxs,hq,Ns⟩:=UX j Zw
   have HQ:=hid hq
   have Ul:=hid Ns
   have cw:wr.cell? ⟨wb,j,none⟩=some (.string x):=by simp only [World.cell?,HW.out];exact ex
   have hwl:wb<wr.heap.size:=(Array.getElem?_eq_some_iff.1 HW.out).1
   clear hq Ns ex
   have Zx : (j:Int)<6:=by omega
   have HA:=hid (Kt HR.out HF.out HQ.out iN.out Ia.out (by omega) (by omega))
   go_wp2_with fail
   refine HA.out.mono ?_
   rintro e w7 ⟨rv,rfl,hro,h7,k7⟩
   have S3:=hid h7
   have OV:=hid (LX.out.kept HF.out k7)
   have W7:=hid (LY.out.kept HF.out k7)
   have W8:=hid (LP.out.kept HF.out k7)
   have W9:Hid (w7.heap[wb]?=some (.cells kR 46 (0,0))):=(k7.block wb hwl (by have:=hwb.out;omega)).trans HW.out
   have U4:Hid (Lv w7 rv (combined wd all (aI X) (aI Y))):=hro.lv (by omega)
   have HL2:=hid hro.wd
   obtain ⟨la,lc,rfl⟩:=hro.sl
   have Xa:Hid (∀ r,cnt (combined wd all (aI X) (aI Y)) r=uU wd all (cnt X r) (cnt Y r)):=λr=>by rw [CM (eI X) (eI Y),m8 (bF X),m8 (bF Y)]
   have Xb:Hid (∀ r∈combined wd all (aI X) (aI Y),r∈X++Y):=λr h=>by
    rcases Mh (eI X) (eI Y) h with h | h
    ·exact List.mem_append_left _ ((bF X).mem_iff.1 h)
    ·exact List.mem_append_right _ ((bF Y).mem_iff.1 h)
   have hll:(combined wd all (aI X) (aI Y)).length<=100000:=CO (by omega) (by omega)
   generalize combined wd all (aI X) (aI Y)=L at U4 HL2 Xa Xb hll ⊢
   obtain ⟨M,hM⟩:∃ M,M=L.length:=⟨_,rfl⟩
   have Mk:=hid hM
   rw [<- hM] at hll U4 ⊢
   clear hM hro h7 k7 HA HF LX LY LP HW cw hwl HQ
   go_wp2_with fail
   go_loopw [13,14] (λtv iv wr=>∃ i t:Nat,i<=N/\t<=M/\iv = .int .i64 (i:Nat)/\tv = .int .i64 (t:Nat)/\Hid (t=inn L ((X++Y).take i))/\Hid (Gr w7 wr)) (λ_ iv _=>N - (intOf iv).toNat)
   case atStart=>exact ⟨0,0,by omega,by omega,rfl,rfl,by show _=_;rw [List.take_zero,Md],Gr.refl _⟩
   case round=>
    obtain ⟨i,t,hi,ht,rfl,rfl,HI,HG⟩:=hrel
    by_cases hiN:i<N
    ·repeat (rename ∀ (a:Act) (w:World),Code.wp _ _ _ a w->_=>hk;clear hk)
     have hil:i<(X++Y).length:=by rw [<- HN.out];exact hiN
     obtain ⟨g,c',ub,ul,uk,ev,hc',hcell,hrn,hlt,hgl⟩:=(W8.out.bel HG.out.below).at_ i hil
     rw [<- HN.out] at ev hc'
     injection ev with ev1 Xc RK
     subst ev1 RK
     have hr2:(X++Y)[i].length<=100000:=by
      rcases List.mem_append.1 (jD hil) with h | h
      ·rw [iN.out _ h];omega
      ·rw [Ia.out _ h];omega
     have qD:=hid λW (gW:Gr w7 W) (hr:Rn W (.slice ub ul uk) (X++Y)[i])=>eT X (X++Y)[i] _ _ W (by omega) (λr hr=>by rw [iN.out r hr];omega) hr2 (OV.out.bel gW.below).lv hr
     have HC2:=hid λW (gW:Gr w7 W) (hr:Rn W (.slice ub ul uk) (X++Y)[i])=>eT Y (X++Y)[i] _ _ W (by omega) (λr hr=>by rw [Ia.out r hr];omega) hr2 (W7.out.bel gW.below).lv hr
     have zA:=hid λW (gW:Gr w7 W) (hr:Rn W (.slice ub ul uk) (X++Y)[i])=>eT L (X++Y)[i] _ _ W (by have:=Mk.out;omega) (λr hr=>by rw [HL2.out r hr];omega) hr2 (U4.out.gr gW) hr
     have Pb:=hid λW (gl:Lv W (.slice (some ⟨g,0,none⟩) i pc) ((X++Y).take i)) (hr:Rn W (.slice ub ul uk) (X++Y)[i])=>eT ((X++Y).take i) (X++Y)[i] _ _ W (by rw [List.length_take];omega) (λr hr=>by rcases List.mem_append.1 (List.mem_of_mem_take hr) with h | h;(rw [iN.out _ h];omega);(rw [Ia.out _ h];omega)) hr2 gl hr
     have HRn:=hid hrn
     have RN:=hid hlt
     have hp:=cnt_le X (X++Y)[i]
     have hq:=cnt_le Y (X++Y)[i]
     have hcl:=Xa.out (X++Y)[i]
     have o9:Hid ((X++Y).take (i+1)=(X++Y).take i ++ [(X++Y)[i]]):=uV hil
     have RO:=λh:cnt ((X++Y).take i) (X++Y)[i]=0=>FG (S:=(X++Y).take i) (r:=(X++Y)[i]) (λh'=>FF.2 h' h) L
     have RQ:=λh:cnt ((X++Y).take i) (X++Y)[i]≠0=>Mf (l:=L) (S:=(X++Y).take i) (r:=(X++Y)[i]) (FF.1 h)
     have hin:inn L ((X++Y).take (i+1))<=M:=by rw [Mk.out];exact List.length_filter_le _ _
     rw [o9.out] at hin
     generalize (X++Y)[i]=r at *
     have hdl:=cnt_le ((X++Y).take i) r
     have Zy:cnt L r<=M:=by rw [Mk.out];exact cnt_le L r
     have Zz:cnt ((X++Y).take i) r<=40:=by rw [List.length_take] at hdl;omega
     generalize cnt X r=p at *
     generalize cnt Y r=q at *
     generalize cnt L r=c at *
     generalize cnt ((X++Y).take i) r=d at *
     have HE:=hid hcl
     have Qf:=hid RO
     have ZA:=hid RQ
     have hin':=hid hin
     have Xd:(i:Int)<(N:Int):=by omega
     have hiC:(i:Int)<=(pc:Int):=by omega
     have hwA:IntKind.i64.wrap ((p:Int)+(q:Int))=(p:Int)+(q:Int):=by rw [IntKind.wrap_i64];omega
     have hwS:IntKind.i64.wrap ((p:Int) - (q:Int))=(p:Int) - (q:Int):=by rw [IntKind.wrap_i64];omega
     clear hcl RO RQ hin hrn hlt hdl hr2
     go_wp2_with fail
     refine (qD.out _ HG.out HRn.out).mono ?_
     rintro e w8 ⟨rfl,g8⟩
     have G8:=hid (HG.out.trans g8)
     have R8:=hid (HRn.out.gr g8)
     have T8:=hid (RN.out.gr g8)
     have c8:=(g8.cell (p:=⟨g,i,none⟩) hgl).trans hcell
     have l8:=bY hgl g8.size
     clear g8 hcell hgl qD HRn RN
     go_wp2_with fail
     refine (HC2.out _ G8.out R8.out).mono ?_
     rintro e w9 ⟨rfl,g9⟩
     have G9:=hid (G8.out.trans g9)
     have R9:=hid (R8.out.gr g9)
     have T9:=hid (T8.out.gr g9)
     have c9:=(g9.cell (p:=⟨g,i,none⟩) l8).trans c8
     have l9:=bY l8 g9.size
     clear g9 c8 l8 HC2 G8 R8 T8
     have h6:Hid (j=0\/j=1\/j=2\/j=3\/j=4\/j=5):=by show _\/_;omega
     go_upto_block 4 with fail
     go_cut [16,17] (λvq v wc=>vq = .int .i64 (q:Nat)/\v = .int .i64 (vY j p q)/\w9=wc)
     case first=>
      rcases h6.out with rfl | rfl | rfl | rfl | rfl | rfl
      all_goals go_wp2_with fail
      all_goals go_meet
      all_goals refine ⟨congrArg (Value.int .i64) ?_,congrArg (Value.int .i64) ?_,rfl⟩
      all_goals first | rfl | omega | (unfold vY;(repeat' split) <;> omega)
     case rest=>
      obtain ⟨rfl,rfl,rfl⟩:=hcut
      have HZ:=hid (Ul.out p q)
      generalize vY j p q=z at HZ ⊢
      go_upto_region 32 with fail
      go_cut [104] (λb wc=>b = .bool (decide (2<j/\1<z))/\w9=wc)
      case first=>
       go_wp2_with fail
       all_goals go_meet
       all_goals refine ⟨congrArg Value.bool ?_,rfl⟩
       all_goals first | exact decide_eq_decide.2 (by omega) | exact (decide_eq_false (by omega)).symm
      case rest=>
       obtain ⟨rfl,rfl⟩:=hcut
       obtain ⟨Xe,hbz⟩:∃ b,b=decide (2<j/\1<z):=⟨_,rfl⟩
       have P5:Hid (As j z=if Xe then 1 else z):=by show _=_;rw [hbz];simp [As]
       rw [<- hbz]
       clear hbz
       go_upto_if 104 with fail
       go_cut [17] (λv wc=>v = .int .i64 (c:Nat)/\w9=wc)
       case first=>
        cases Xe
        all_goals go_wp2_with fail
        all_goals go_meet
        all_goals exact ⟨congrArg (Value.int .i64) (by have:=P5.out;have:=HZ.out;have:=HE.out;simp at *;omega),rfl⟩
       case rest=>
        obtain ⟨rfl,rfl⟩:=hcut
        clear P5 HZ HE
        go_wp2_with fail
        refine (zA.out _ G9.out R9.out).mono ?_
        rintro e w10 ⟨rfl,g10⟩
        have Xf:=hid (G9.out.trans g10)
        have R10:=hid (R9.out.gr g10)
        have T10:=hid (T9.out.gr g10)
        have c10:=(g10.cell (p:=⟨g,i,none⟩) l9).trans c9
        have eC:=hid (Pb.out _ (T10.out.gr (Gr.refl _).drew) (R10.out.gr (Gr.refl _).drew))
        clear g10 c9 l9 zA G9 R9 T9
        go_wp2_with fail
        go_region_held3 (λw'=>w'.cell? ⟨g,i,none⟩=some (.slice ub ul uk)) (first | go_keep | exact c10 | exact c11) (first | (go_at_call 24;refine eC.out.mono ?_;rintro e Xn ⟨rfl,g11⟩;have c11:=(g11.cell (p:=⟨g,i,none⟩) (cell_lt c10)).trans c10))
        have Xg:=hid (hid (Xf.out.trans ((Gr.refl _).drew.trans g11)))
        clear g11 c10 c11 Pb Xf R10 T10 eC
        have hwT:IntKind.i64.wrap ((t:Int)+(c:Int))=(t:Int)+(c:Int):=by rw [IntKind.wrap_i64];omega
        rcases Nat.eq_zero_or_pos d with hd | hd
        ·have HT2:=hid (Qf.out hd)
         have hd' : (d:Int)=0:=by omega
         clear hd
         go_wp2_with fail
         go_roundw
         case rel=>exact ⟨i+1,t+c,by omega,by have:=hin'.out;have:=HI.out;have:=HT2.out;omega,by go_num,congrArg (Value.int .i64) (by omega),by show _=_;rw [o9.out,HT2.out,HI.out],Xg.out⟩
         case measure=>simp [intOf];omega
        ·have HT2:=hid (ZA.out (Nat.ne_of_gt hd))
         have hd' : (d:Int)≠0:=by omega
         clear hd
         go_wp2_with fail
         go_roundw
         case rel=>exact ⟨i+1,t,by omega,ht,by go_num,rfl,by show _=_;rw [o9.out,HT2.out,HI.out],Xg.out⟩
         case measure=>simp [intOf];omega
    ·obtain rfl:i=N:=by omega
     have ZB:Hid (t=M):=by
      show _=_
      rw [HI.out,Mk.out,sD (by have:=HN.out;omega)]
      exact Mg Xb.out
     obtain rfl:=ZB.out
     have U5:=hid (S3.out.bel HG.out.below)
     have U6:=hid (OV.out.bel HG.out.below)
     have ZC:=hid (W7.out.bel HG.out.below)
     have ZD:=hid (W8.out.bel HG.out.below)
     have ZE:Hid (wr.heap[wb]?=some (.cells kR 46 (0,0))):=(HG.out.below.block wb (Array.getElem?_eq_some_iff.1 W9.out).1).trans W9.out
     go_wp2_with fail
     go_roundw
     case rel=>exact ⟨j+1,by omega,by go_num,U5,U6,ZC,ZD,ZE⟩
     case measure=>simp [intOf];omega
  ·obtain rfl:j=6:=by omega
   have HA:=hid (Ku (s:=⟨#[115,101,108,101,99,116,32,100,105,115,116,105,110,99,116,32,42,32,102,114,111,109,32,116]⟩) HR.out HF.out rfl iN.out Ia.out (by omega))
   have hol:=iJ (aI X)
   have hsl:=(bF X).length_eq
   go_wp2_with fail
   refine HA.out.mono ?_
   rintro e w7 ⟨rv,rfl,hro,h7,k7⟩
   have S3:=hid h7
   have OV:=hid (LX.out.kept HF.out k7)
   have OW:=hid hro
   have Pf:Hid (∀ r,cnt (once (aI X)) r=min 1 (cnt X r)):=λr=>by rw [qA (eI X),m8 (bF X)]
   obtain ⟨da,dc,rfl⟩:=hro.sl
   have hdl:(once (aI X)).length<=20:=by omega
   generalize once (aI X)=D at OW Pf hdl ⊢
   obtain ⟨M,hM⟩:∃ M,M=D.length:=⟨_,rfl⟩
   have Mk:=hid hM
   rw [<- hM] at hdl OW ⊢
   obtain ⟨K,hK⟩:∃ K,K=X.length:=⟨_,rfl⟩
   have U7:=hid hK
   rw [<- hK] at hxl OV ⊢
   have hD2:=hid hro.wd
   clear hM hK hro h7 k7 HA HF LX LY LP HW hol hsl hD2
   have HD2:=hid OW.out.wd
   go_wp2_with fail
   go_loopw [20] (λiv wr=>∃ i:Nat,i<=M/\iv = .int .i64 (i:Nat)/\Hid (Gr w7 wr)) (λiv _=>M - (intOf iv).toNat)
   case atStart=>exact ⟨0,by omega,rfl,Gr.refl _⟩
   case round=>
    obtain ⟨i,hi,rfl,HG⟩:=hrel
    by_cases hiM:i<M
    ·repeat (rename ∀ (a:Act) (w:World),Code.wp _ _ _ a w->_=>hk;clear hk)
     have hil:i<D.length:=by rw [<- Mk.out];exact hiM
     have ZG:=hid (OW.out.bel HG.out.below)
     obtain ⟨g,c',ub,ul,uk,ev,hcell,hrn,hgl⟩:=ZG.out.at_ (by omega) i hil
     rw [<- Mk.out] at ev
     injection ev with ev1 Xc RK
     subst ev1 RK
     have hr2:D[i].length<=100000:=by rw [HD2.out _ (jD hil)];omega
     have qD:=hid λW (gW:Gr w7 W) (hr:Rn W (.slice ub ul uk) D[i])=>eT D D[i] _ _ W (by rw [<- Mk.out];omega) (λr hr=>by rw [HD2.out r hr];omega) hr2 ((OW.out.lv (by omega)).gr gW) hr
     have HC2:=hid λW (gW:Gr w7 W) (hr:Rn W (.slice ub ul uk) D[i])=>eT X D[i] _ _ W (by rw [<- U7.out];omega) (λr hr=>by rw [iN.out r hr];omega) hr2 (OV.out.bel gW.below).lv hr
     have h1:=sU (jD hil)
     have h2:=Pf.out D[i]
     have h3:((cnt D D[i]:Nat):Int)=1:=by omega
     have h4:((cnt X D[i]:Nat):Int)≠0:=by omega
     rw [h3] at qD
     have HRn:=hid hrn
     clear h1 h2 h3 hrn hr2
     generalize cnt X D[i]=e at HC2 h4
     generalize D[i]=r at qD HC2 HRn
     have Xd:(i:Int)<(M:Int):=by omega
     go_wp2_with fail
     refine (qD.out _ HG.out HRn.out).mono ?_
     rintro _ w8 ⟨rfl,g8⟩
     have G8:=hid (hid (HG.out.trans g8))
     have R8:=hid (HRn.out.gr g8)
     have c8:=(g8.cell (p:=⟨g,i,none⟩) hgl).trans hcell
     clear g8 hcell hgl qD HRn
     go_wp2_with fail
     refine (HC2.out _ G8.out.out R8.out).mono ?_
     rintro _ w9 ⟨rfl,g9⟩
     have G9:=hid (hid (G8.out.out.trans g9))
     clear g9 c8 HC2 G8 R8
     go_wp2_with fail
     go_roundw
     case rel=>exact ⟨i+1,by omega,by go_num,G9.out⟩
     case measure=>simp [intOf];omega
    ·obtain rfl:i=M:=by omega
     have U5:=hid (S3.out.bel HG.out.below)
     have U6:=hid (OV.out.bel HG.out.below)
     have UF:=hid (OW.out.bel HG.out.below)
     obtain ⟨w8,hw8⟩:∃ w8,w8=wr:=⟨_,rfl⟩
     subst hw8
     clear S3 OV OW HG
     go_wp2_with fail
     go_loopw [21] (λiv wr=>∃ k:Nat,k<=K/\iv = .int .i64 (k:Nat)/\Hid (Gr w8 wr)) (λiv _=>K - (intOf iv).toNat)
     case atStart=>exact ⟨0,by omega,rfl,Gr.refl _⟩
     case round=>
      obtain ⟨k,hk,rfl,HG⟩:=hrel
      by_cases ZH:k<K
      ·repeat (rename ∀ (a:Act) (w:World),Code.wp _ _ _ a w->_=>hk;clear hk)
       have hkl:k<X.length:=by rw [<- U7.out];exact ZH
       obtain ⟨g,c',ub,ul,uk,ev,_,hcell,hrn,_,hgl⟩:=(U6.out.bel HG.out.below).at_ k hkl
       rw [<- U7.out] at ev
       injection ev with ev1 Xc RK
       subst ev1 RK
       have qD:=hid λW (gW:Gr w8 W) (hr:Rn W (.slice ub ul uk) X[k])=>eT D X[k] _ _ W (by rw [<- Mk.out];omega) (λr hr=>by rw [HD2.out r hr];omega) (by rw [iN.out _ (jD hkl)];omega) ((UF.out.lv (by omega)).gr gW) hr
       have h1:=sU (jD hkl)
       have h2:=Pf.out X[k]
       have h3:((cnt D X[k]:Nat):Int)=1:=by omega
       rw [h3] at qD
       have HRn:=hid hrn
       clear h1 h2 h3 hrn
       generalize X[k]=r at qD HRn
       have Xd:(k:Int)<(K:Int):=by omega
       go_wp2_with fail
       refine (qD.out _ HG.out HRn.out).mono ?_
       rintro _ w9 ⟨rfl,g9⟩
       have G9:=hid (hid (HG.out.trans g9))
       clear g9 hcell qD HRn
       go_wp2_with fail
       go_roundw
       case rel=>exact ⟨k+1,by omega,by go_num,G9.out⟩
       case measure=>simp [intOf];omega
      ·obtain rfl:k=K:=by omega
       have HB:Hid (RowKit.Below w.heap.size w wr):=(U5.out.bel HG.out.below).below
       go_wp2_with fail
       exact cL (v := .bool true) (by simp [results,Tryz.results8,go_sem]) rfl ⟨rfl,HB.out⟩
end Go.Proofs.YtgnncnhkgmhngaaGreatDoor
