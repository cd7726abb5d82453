import Derived.Test.YtgnncnhkgmhngaaGreatDoorJ51
import Derived.Test.YtgnncnhkgmhngaaGreatDoorJ50
set_option maxHeartbeats 2000000
set_option maxRecDepth 100000
namespace Go.Proofs.YtgnncnhkgmhngaaGreatDoor
open Sp
open Tryz
open Go.RowKit Go.Sort
theorem I6 {q:Nat} {ta:Option Addr} {tn tc:Nat} {w:World} {P:Value->Int->Int->Int->Value->Int->World->Prop} (hC:Calls prog 91 #[.slice ta tn tc, .pointer (some ⟨q,0,none⟩)] (res0 w) λr w'=>∃ va vn vc e a d ra rn rc c,r = .returned (.tuple #[.slice va vn vc,c8 e a d (.slice ra rn rc) c])/\P (.slice va vn vc) e a d (.slice ra rn rc) c w'/\RowKit.Below (res0 w).heap.size (res0 w) w') :
  Calls prog 52 #[.slice ta tn tc, .iface 176 (.pointer (some ⟨q,0,none⟩))] w λr w'=>∃ va vn vc e a d ra rn rc c w1,r = .returned (.tuple #[.slice va vn vc,c8 e a d (.slice ra rn rc) c])/\P (.slice va vn vc) e a d (.slice ra rn rc) c w1/\RowKit.Below (res0 w).heap.size (res0 w) w1/\w'=lT w1 w.heap.size e a d (.slice ra rn rc) c:=by
 have HC:=hid hC
 have t0:=kB
 have t1:=nO
 have t2:=kC
 have t3:=kD
 have t4:=kE
 clear hC
 go_enter func52,ntmps52
 go_wp2_with fail
 refine HC.out.mono ?_
 rintro x w1 ⟨va,vn,vc,e,a,d,ra,rn,rc,c,rfl,hP,hb⟩
 have HP:=hid hP
 have HB:=hid hb
 have HR:Hid (Bk w1 w.heap.size [.int .i64 0, .int .i64 0, .int .i64 0, .slice none 0 0, .int .i64 0]):=(Bk.new w #[.int .i64 0, .int .i64 0, .int .i64 0, .slice none 0 0, .int .i64 0] 56).below hb
 obtain ⟨⟨k0,k1,k2,k3,k4⟩,f0,f1,f2,f3,f4⟩:=HR.out.five
 clear hP hb
 go_wp2_with fail
 exact cV (v := .tuple #[.slice va vn vc,c8 e a d (.slice ra rn rc) c]) (by simp [results,results52,go_sem,k0,k1,k2,k3,k4]) rfl ⟨va,vn,vc,e,a,d,ra,rn,rc,c,w1,rfl,HP.out,HB.out,rfl⟩
def sV (T:List Sp.Tb) (t:Sp.Tb) (env:List (List Row)) (sets:List (Nm×Nat×Nd)):List (Nat×Sv.Val):=sets.map λx=>((cellOf x.1.1 t.cols).toNat,Sp.val (Sp.rn T x.2.2 env))
theorem zC (T:List Sp.Tb) (t:Sp.Tb) (env:List (List Row)):∀ (sets:List (Nm×Nat×Nd)) (r:Row),rZ (sV T t env sets) r=lD T t env sets r
 | [],_=>rfl
 | (_,_,_)::l,_=>zC T t env l _
theorem gX.get {α:Type} {P:World->α->List Value->Nat->Nat->Prop} {w:World} {g:Nat} : ∀ {ns:List α} {xs:List (List Value)} {lo hi:Nat},gX P w g ns xs lo hi->∀ j,(hj:j<ns.length)->∃ x m1 m2,xs[j]?=some x/\P w ns[j] x m1 m2/\m2<=hi
 | [],_,_,_,_,j,hj=>by simp at hj
 | _::_, [],_,_,h,_,_=>h.elim
 | n::ns,x::xs,lo,hi,h,j,hj=>by
  obtain ⟨m1,m2,hS,hp,ht⟩:=h
  cases j with
  | zero=>exact ⟨x,m1,m2,rfl,hp,by have:=ht.le;omega⟩
  | succ j=>simpa using ht.get j (by simpa using hj)
theorem Dt {T:List Sp.Tb} {t:Sp.Tb} {N:Nat} {nm:Nm} {sets:List (Nm×Nat×Nd)} {wh:Nd} {wd:Nat} {aC:List Sp.Lv} (hf:aG nm.1 T=some t) (hN:N<=90000) (hp:plain wh=true) (hw:wf N wh .cl) (he:∀ r∈t.rows,Eo [[r]] aC) (hbd:bd T wh aC) (hTl:T.length<=800)
  (hS:∀ x∈sets,wf N x.2.2 .expr/\plain x.2.2=true/\bd T x.2.2 aC/\0<=cellOf x.1.1 t.cols) (hsl:sets.length<=1000) (hrl:∀ r∈t.rows,r.length<=100000/\t.cols.length<=r.length) :
  Runs T (.update nm sets wh) (eE { t with rows:=t.rows.map λr=>if holds T wh [[r]] then lD T t [[r]] sets r else r } T) wd 0 0 0 ((t.rows.filter λr=>holds T wh [[r]]).length:Nat) []:=by
 intro C W tv v lo hi hC ht hV hh
 obtain ⟨p,rfl,q,sl,pv,mid,rfl,l1,l2,l3,hA,hL,hpt,hR⟩:=hV
 obtain ⟨g,kc,xs,h0,rfl,g1,g2,g3,Ic,hcs⟩:=hL
 obtain ⟨pa,rfl⟩:=hpt
 obtain ⟨ta,tn,tc,rfl⟩:=ht.sl
 have hz:(res0 W).heap.size=W.heap.size+1:=by simp [res0]
 have hH:=AG T N hN wh hp hw
 have qJ:∀ x∈xs,x.length=4:=gX.lens (L:=4) (λn x m1 m2 h=>by obtain ⟨v,e,_⟩:=h;rw [e];rfl) Ic
 refine (I6 (P:=λtv' e a d rv c w3=>e=0/\a=0/\d=0/\rv = .slice none 0 0/\c=((t.rows.filter λr=>holds T wh [[r]]).length:Nat)/\bV (λb=>(C b/\b<W.heap.size)\/W.heap.size+1<=b) w3 (eE { t with rows:=t.rows.map λr=>if holds T wh [[r]] then lD T t [[r]] sets r else r } T) tv') ?_).mono ?_
 ·refine (callsIn_wide.1 (FE 6 (aF _) (w:=res0 W) (λr=>holds T wh [[r]]) (λr=>lD T t [[r]] sets r) (λj hj => .inr (by omega)) (NE ht) hf (hA.same (by omega) ((cJ W).block q (by omega))) hTl ?_ ?_)).mono ?_
  ·intro r hr A iv wF Jl
   have hbW:RowKit.Below W.heap.size W A:=(cJ W).trans (wF.mono (cJ W).size)
   exact hH mid q _ _ iv [[r]] aC A Jl (he r hr) hbd (hR.s9 hbW (by omega) (b9.ptr _)) (by have:=hbW.size;omega)
  ·intro V hVt r hr _ A iv wF Jl
   have hbW:RowKit.Below W.heap.size W A:=(cJ W).trans (wF.mono (cJ W).size)
   have hsA:=hbW.size
   have hkl:(sV T t [[r]] sets).length=sets.length:=by simp [sV]
   rw [<- zC]
   have:=AW (tt:=V) (g:=g) (kc:=kc) (ks:=sV T t [[r]] sets) (by omega) Jl (hrl r hr).1 (λx hx=>by
    obtain ⟨y,hy,rfl⟩:=List.mem_map.1 hx
    have h1:=(hS y hy).2.2.2
    have h2:=(hrl r hr).2
    rcases iL y.1.1 t.cols with h | h
    ·omega
    ·show (cellOf y.1.1 t.cols).toNat<r.length
     omega) (by omega) (λj hj=>by
    have hj' : j<sets.length:=by omega
    obtain ⟨x,m1,m2,ex,⟨v,rfl,hn,YF⟩,hm2⟩:=Ic.get j hj'
    obtain ⟨tt1,y1,rfl⟩:=YF.Md (hS _ (hU hj')).1
    have hcell:∀ d,d<4->∀ u,([.string (bz sets[j].1.1), .int .i64 (sets[j].1.2:Int), .int .i64 (sets[j].2.1:Int), .iface tt1 (.pointer (some ⟨y1,0,none⟩))]:List Value)[d]?=some u->A.cell? ⟨g,j*4+d,none⟩=some u:=λd hd u hu=>
     (hbW.cell (p:=⟨g,j*4+d,none⟩) (by show g<_;omega)).trans (hcs _ _ (by rw [eK 4 xs qJ j d _ ex hd];exact hu))
    have hk1:(sV T t [[r]] sets)[j].1=(cellOf sets[j].1.1 t.cols).toNat:=by simp [sV]
    have hk2:(sV T t [[r]] sets)[j].2=Sp.val (Sp.rn T sets[j].2.2 [[r]]):=by simp [sV]
    refine ⟨_,_,_,_,_,hcell 0 (by omega) _ rfl,hcell 1 (by omega) _ rfl,hcell 2 (by omega) _ rfl,hcell 3 (by omega) _ rfl,λW' hW'=>?_,λW' hW'=>?_⟩
    ·have hb' : RowKit.Below (res0 W).heap.size (res0 W) W':=wF.trans (hW'.mono wF.size)
     refine (iQ (hVt.bel hb').Yi sets[j].1.1).mono ?_
     rintro e w' ⟨rfl,gg⟩
     have h1:=(hS _ (hU hj')).2.2.2
     exact ⟨by rw [hk1,Int.toNat_of_nonneg h1],gg⟩
    ·have hb' : RowKit.Below W.heap.size W W':=hbW.trans (hW'.mono hbW.size)
     rw [hk2]
     exact (tP T N hN sets[j].2.2 (hS _ (hU hj')).2.1).1 (hS _ (hU hj')).1 m1 m2 _ _ iv [[r]] aC W' (Jl.bel hW') (he r hr) (hS _ (hU hj')).2.2.1 (YF.s9 hb' (by omega) hn) (by have:=hb'.size;omega))
   rw [hkl] at this
   exact this
  ·rintro r w' ⟨v,rfl,⟨tv',rfl,h⟩,hb⟩
   obtain ⟨va,vn,vc,rfl⟩:=h.sl
   exact ⟨va,vn,vc,_,_,_,none,0,0,_,rfl,⟨rfl,rfl,rfl,rfl,rfl,h⟩,hb⟩
 ·rintro r w' ⟨va,vn,vc,e,a,d,ra,rn,rc,c,w1,rfl,⟨rfl,rfl,rfl,Nu,rfl,hT⟩,hb,rfl⟩
  cases Nu
  exact ⟨va,vn,vc,none,0,0,rfl,⟨bV.lT hC hT, .inl ⟨rfl,rfl⟩⟩,lH hb _ _ _ _ _⟩
namespace Sp
def NX (ce:Int):Nd := .b8 (.arms 22 (.op [61] 29 (.cons (.col [] [97] 27 0 0 0) (.cons (.const (Sv.int 0)) .nil))) 33 (.const (Sv.text ⟨#[110,111,117,103,104,116]⟩)) .nil) (.clause 47 (.col [] [98] 52 0 0 ce))
def NY:Nd := .op [45] 66 (.cons (.const (Sv.int 10)) (.cons (.col [] [97] 68 0 0 0) .nil))
def xI (k:Int):Nd := .clause 70 (.op [60] 78 (.cons (.col [] [97] 76 0 0 0) (.cons (.const (Sv.int k)) .nil)))
def Du (ce:Int):List (Nm×Nat×Nd) := [(([98],13),15,NX ce),(([97],59),61,NY)]
def I7 (ce k:Int):vZ := .update ([116],7) (Du ce) (xI k)
def Dv (k:Int):Nd := .clause 14 (.op [62,61] 22 (.cons (.col [] [97] 20 0 0 0) (.cons (.op [43] 32 (.cons (.op [45] 28 (.cons (.const (Sv.int 10)) (.cons (.const (Sv.int k)) .nil))) (.cons (.const (Sv.int 1)) .nil))) .nil)))
def delS (k:Int):vZ := .delete ([116],12) (Dv k)
abbrev QU (k:Int):Bs := [117,112,100,97,116,101,32,116,32,115,101,116,32,98,32,61,32,99,97,115,101,32,119,104,101,110,32,97,32,61,32,48,32,116,104,101,110,32,39,110,111,117,103,104,116,39,32,101,108,115,101,32,98,32,101,110,100,44,32,97,32,61,32,49,48,32,45,32,97,32,119,104,101,114,101,32,97,32,60,32] ++ [UInt8.ofNat (48+k.toNat)]
abbrev QV (k:Int):Bs := [100,101,108,101,116,101,32,102,114,111,109,32,116,32,119,104,101,114,101,32,97,32,62,61,32,49,48,32,45,32] ++ [UInt8.ofNat (48+k.toNat)] ++ [32,43,32,49]
abbrev six:List Int := [0,1,2,3,4,5]
theorem TM:∀ k∈six,parse (QU k)=(0,0)/\tree (QU k)=I7 0 k:=by
 intro k hk
 simp only [List.mem_cons,List.not_mem_nil,or_false] at hk
 rcases hk with rfl | rfl | rfl | rfl | rfl | rfl <;> exact ⟨by kernel_rfl,by kernel_rfl⟩
theorem QW:∀ k∈six,parse (QV k)=(0,0)/\tree (QV k)=delS k:=by
 intro k hk
 simp only [List.mem_cons,List.not_mem_nil,or_false] at hk
 rcases hk with rfl | rfl | rfl | rfl | rfl | rfl <;> exact ⟨by kernel_rfl,by kernel_rfl⟩
theorem TN {R S:List Row} {T:List Tb} (h:TU R S T) (k:Int):check T (I7 0 k)=(⟨0,0,false⟩,I7 1 k):=by
 rcases h with rfl | rfl <;> kernel_rfl
theorem QX {R S:List Row} {T:List Tb} (h:TU R S T) (k:Int):check T (delS k)=(⟨0,0,false⟩,delS k):=by
 rcases h with rfl | rfl <;> kernel_rfl
def hb (k:Int) (r:Row):Bool:=(r.headD Sv.null).k == 2&&decide ((r.headD Sv.null).n<k)
def Pj (r:Row):Row := [Sv.int (10 - (r.headD Sv.null).n),if (r.headD Sv.null).n=0 then Sv.text ⟨#[110,111,117,103,104,116]⟩ else (r.drop 1).headD Sv.null]
end Sp
theorem QY {P:Row->Prop} (h:∀ i ∈ [(0:Int),1,2,3,4,5],∀ j ∈ [(0:Int),1,2,3,4],P [Pf i,Pg j]) (a b:Int):P (d9 a b):=h _ (UZ a) _ (WR b)
theorem AX (T:List Sp.Tb) (R:List Row) (a b:Int):∀ k∈six,holds T (xI k) [[d9 a b]]=Sp.hb k (d9 a b)/\(Sp.hb k (d9 a b)=true->lD T (Sp.tt R) [[d9 a b]] (Du 1) (d9 a b)=Pj (d9 a b))/\holds T (Dv k) [[if Sp.hb k (d9 a b) then Pj (d9 a b) else d9 a b]]=Sp.hb k (d9 a b):=by
 refine QY (P:=λr=>∀ k∈six,holds T (xI k) [[r]]=Sp.hb k r/\(Sp.hb k r=true->lD T (Sp.tt R) [[r]] (Du 1) r=Pj r)/\holds T (Dv k) [[if Sp.hb k r then Pj r else r]]=Sp.hb k r) ?_ a b
 intro i hi j hj k hk
 simp only [List.mem_cons,List.not_mem_nil,or_false] at hi hj hk
 by_cases h5:i=5
 ·subst h5
  have h0:∀ j,Sp.hb k [Pf 5,Pg j]=false:=λj=>by kernel_rfl
  refine ⟨?_,λh=>absurd h (by rw [h0];decide),?_⟩
  ·rw [h0];kernel_rfl
  ·rw [h0];kernel_rfl
 ·have hi' : i=0\/i=1\/i=2\/i=3\/i=4:=by omega
  rcases hi' with rfl | rfl | rfl | rfl | rfl <;> rcases hj with rfl | rfl | rfl | rfl | rfl <;> rcases hk with rfl | rfl | rfl | rfl | rfl | rfl <;> exact ⟨by kernel_rfl,λ_=>by kernel_rfl,by kernel_rfl⟩
def NZ (R:List Row):Prop:=∀ r∈R,∃ a b,r=d9 a b
theorem TO (l:List (Int×Int)):NZ (pO l):=by
 intro r hr
 obtain ⟨x,_,rfl⟩:=List.mem_map.1 hr
 exact ⟨_,_,rfl⟩
theorem TP {va vb:Sv.Val} {nm:Sp.Bs} {S:List Row} : Eo [[[va,vb]]] [[(nm,Sp.tt S)]]:=by
 refine ⟨by simp,λo lv ho=>?_⟩
 match o,ho with
 | 0,ho=>
  simp only [List.getElem?_cons_zero,Option.some.injEq] at ho
  subst ho
  refine ⟨[[va,vb]],rfl,by simp,λi y hi=>?_⟩
  match i,hi with
  | 0,hi=>
   simp only [List.getElem?_cons_zero,Option.some.injEq] at hi
   subst hi
   exact ⟨[va,vb],rfl,by simp,by simp [Sp.tt,cab]⟩
  | i+1,hi=>simp at hi
 | o+1,ho=>simp at ho
def gV (k:Int) (R:List Row):List Row:=R.map λr=>if Sp.hb k r then Pj r else r
theorem L0 {R S:List Row} {T:List Sp.Tb} {k:Int} {wd:Nat} (h:TU R S T) (hk:k∈six) (hR:NZ R):Runs T (I7 1 k) (eE (Sp.tt (gV k R)) T) wd 0 0 0 ((R.filter (Sp.hb k)).length:Nat) []:=by
 have:=Dt (wd:=wd) (N:=90000) (nm:=([116],7)) (sets:=Du 1) (wh:=xI k) (aC := [[([116],Sp.tt R)]]) h.ft (by omega) rfl (by simp [wf,xI,Nd.len];decide)
  (λr hr=>by
   obtain ⟨a,b,rfl⟩:=hR r hr
   exact TP) ⟨⟨_,_,rfl,rfl,by decide,by simp [Sp.tt,cab]⟩,trivial,trivial⟩ h.len
  (λx hx=>by
   simp only [Du,List.mem_cons,List.not_mem_nil,or_false] at hx
   rcases hx with rfl | rfl
   ·refine ⟨by simp [wf,NX,Nd.len];decide,rfl,⟨⟨⟨⟨_,_,rfl,rfl,by decide,by simp [Sp.tt,cab]⟩,trivial,trivial⟩,trivial,trivial⟩,⟨_,_,rfl,rfl,by decide,by simp [Sp.tt,cab]⟩⟩,(show 0<=cellOf [98] cab by decide)⟩
   ·refine ⟨by simp [wf,NY,Nd.len];decide,rfl,⟨trivial,⟨_,_,rfl,rfl,by decide,by simp [Sp.tt,cab]⟩,trivial⟩,(show 0<=cellOf [97] cab by decide)⟩) (by simp [Du])
  (λr hr=>by
   obtain ⟨a,b,rfl⟩:=hR r hr
   exact ⟨by simp [d9],by simp [d9,Sp.tt,cab]⟩)
 have e1:∀ r∈R,holds T (xI k) [[r]]=Sp.hb k r:=λr hr=>by
  obtain ⟨a,b,rfl⟩:=hR r hr
  exact (AX T R a b k hk).1
 have e2:(R.map λr=>if holds T (xI k) [[r]] then lD T (Sp.tt R) [[r]] (Du 1) r else r)=gV k R:=by
  refine List.map_congr_left λr hr=>?_
  rw [e1 r hr]
  obtain ⟨a,b,rfl⟩:=hR r hr
  split
  ·rename_i hh
   exact (AX T R a b k hk).2.1 hh
  ·rfl
 have e3:(R.filter λr=>holds T (xI k) [[r]])=R.filter (Sp.hb k):=List.filter_congr λr hr=>e1 r hr
 rw [show (Sp.tt R).rows=R from rfl,e2,e3] at this
 exact this
theorem qV {k:Int} {R:List Row} (hR:NZ R):∀ r∈gV k R,r.length=2:=by
 intro r hr
 obtain ⟨y,hy,rfl⟩:=List.mem_map.1 hr
 obtain ⟨a,b,rfl⟩:=hR y hy
 split <;> rfl
def f8 (k:Int) (R:List Row):List Row:=R.filter λr=>!Sp.hb k r
theorem vY {T:List Sp.Tb} {k:Int} (hk:k∈six):∀ {R:List Row},NZ R->(gV k R).filter (λr=>!holds T (Dv k) [[r]])=f8 k R
 | [],_=>rfl
 | r::R,hR=>by
  have ih:=vY (T:=T) hk (R:=R) λx hx=>hR x (List.mem_cons_of_mem _ hx)
  obtain ⟨a,b,rfl⟩:=hR r (List.mem_cons_self ..)
  have h3:=(AX T [] a b k hk).2.2
  simp only [gV,f8,List.map_cons,List.filter_cons] at ih ⊢
  rw [h3,ih]
  cases Sp.hb k (d9 a b) <;> rfl
theorem Dw (k:Int) (R:List Row):(f8 k R).length+(R.filter (Sp.hb k)).length=R.length:=by
 induction R with
 | nil=>rfl
 | cons r R ih=>
  simp only [f8,List.filter_cons] at ih ⊢
  cases Sp.hb k r <;> simp <;> omega
theorem I8 {R S:List Row} {T:List Sp.Tb} {k:Int} {wd:Nat} (h:TU (gV k R) S T) (hk:k∈six) (hR:NZ R):Runs T (delS k) (eE (Sp.tt (f8 k R)) T) wd 0 0 0 ((R.filter (Sp.hb k)).length:Nat) []:=by
 have:=De (wd:=wd) (N:=90000) (nm:=([116],12)) (wh:=Dv k) (aC := [[([116],Sp.tt (gV k R))]]) h.ft (by omega) rfl (by simp [wf,Dv,Nd.len];decide) (λr hr=>by
  have h2:=qV hR r hr
  match r,h2 with
  | [x,y],_=>exact TP) ⟨⟨_,_,rfl,rfl,by decide,by simp [Sp.tt,cab]⟩,⟨⟨trivial,trivial,trivial⟩,trivial,trivial⟩,trivial⟩ h.len
 rw [show (Sp.tt (gV k R)).rows=gV k R from rfl,vY hk hR] at this
 have hl:=Dw k R
 have hu:(gV k R).length=R.length:=by simp [gV]
 rw [show ((gV k R).length - (f8 k R).length:Nat)=(R.filter (Sp.hb k)).length by omega] at this
 exact this
theorem QZ (k:Int):okS 90000 (I7 0 k):=by
 refine ⟨by decide,λx hx=>?_,?_,?_⟩
 ·simp only [Du,List.mem_cons,List.not_mem_nil,or_false] at hx
  rcases hx with rfl | rfl
  ·exact ⟨by simp [wf,NX,Nd.len];decide,by simp [NX,Nd.dep]⟩
  ·exact ⟨by simp [wf,NY,Nd.len];decide,by simp [NY,Nd.dep]⟩
 ·simp [wf,xI,Nd.len];decide
 ·simp [xI,Nd.dep]
theorem N3 (k:Int):okS 90000 (delS k):=by
 refine ⟨?_,?_⟩
 ·simp [wf,Dv,Nd.len];decide
 ·simp [Dv,Nd.dep]
theorem L1 {bb:Nat} {R:List Row} {k:Int} {s:ByteArray} {w0 w:World} (hr:DM w0) (h:qZ bb w0 R [] w) (hs:s.data.toList=QU k) (hk:k∈six) (hR:NZ R) :
  Calls prog 21 #[.pointer (some ⟨bb,0,none⟩), .string s, .int .i64 ((R.filter (Sp.hb k)).length:Nat)] w λr w'=>r = .returned (.bool true)/\qZ bb w0 (gV k R) [] w'/\Kept bb w w':=by
 obtain ⟨T,hT,h⟩:=h
 have hi:=TM k hk
 rw [<- hs] at hi
 refine (oH hr h hi.1 hi.2 (λz=>by simp [I7]) (QZ k) (TN hT k) (L0 hT hk hR)).mono ?_
 rintro r w' ⟨rfl,h',h3⟩
 exact ⟨rfl,⟨_,hT.wt _,h'⟩,h3⟩
theorem I9 {bb:Nat} {R:List Row} {k:Int} {s:ByteArray} {w0 w:World} (hr:DM w0) (h:qZ bb w0 (gV k R) [] w) (hs:s.data.toList=QV k) (hk:k∈six) (hR:NZ R) :
  Calls prog 21 #[.pointer (some ⟨bb,0,none⟩), .string s, .int .i64 ((R.filter (Sp.hb k)).length:Nat)] w λr w'=>r = .returned (.bool true)/\qZ bb w0 (f8 k R) [] w'/\Kept bb w w':=by
 obtain ⟨T,hT,h⟩:=h
 have hi:=QW k hk
 rw [<- hs] at hi
 refine (oH hr h hi.1 hi.2 (λz=>by simp [delS]) (N3 k) (QX hT k) (I8 hT hk hR)).mono ?_
 rintro r w' ⟨rfl,h',h3⟩
 exact ⟨rfl,⟨_,hT.wt _,h'⟩,h3⟩
theorem xH.bel {w w' : World} {v:Value} {l:List (Int×Int)} (h:xH w v l) (g:RowKit.Below w.heap.size w w'):xH w' v l:=by
 rcases h with h | ⟨b,off,c,e,h⟩
 ·exact .inl h
 ·exact .inr ⟨b,off,c,e,⟨b6 h.lb g.size,λi hi=>⟨(g.cell (p:=⟨b,_,none⟩) h.lb).trans (h.at_ i hi).1,(g.cell (p:=⟨b,_,none⟩) h.lb).trans (h.at_ i hi).2⟩,h.rng⟩⟩
theorem qZ.below {bb:Nat} {w0 w:World} {R S:List Row} (h:qZ bb w0 R S w):RowKit.Below w0.heap.size w0 w:=by
 obtain ⟨T,_,tv,_,_,_,h⟩:=h
 exact h
theorem Lv.sl {w:World} {v:Value} {rs:List (List Sv.Val)} (h:Lv w v rs):∃ a c,v = .slice a rs.length c:=by
 rcases h with ⟨rfl,rfl⟩ | ⟨b,off,c,rfl,_⟩
 ·exact ⟨none,0,rfl⟩
 ·exact ⟨_,c,rfl⟩
theorem N4 {l:List (Int×Int)} {v:Value} {w:World} (h:xH w v l) (hl:l.length<=9223372036854775807) :
  Calls prog 19 #[v] w λe w'=>∃ v,e = .returned v/\Lv w' v (pO (l.take 20))/\Gr w w':=by
 rcases h with ⟨a,c,rfl,rfl⟩ | ⟨b,off,c,rfl,h⟩
 ·exact I3 a c w
 ·exact I2 l b off c w hl h
end Go.Proofs.YtgnncnhkgmhngaaGreatDoor
