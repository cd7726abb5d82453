import Derived.Test.YtgnncnhkgmhngaaGreatDoorJ20
import Derived.Test.YtgnncnhkgmhngaaGreatDoorJ29
set_option maxHeartbeats 4000000
set_option maxRecDepth 100000
namespace Go.Proofs.YtgnncnhkgmhngaaGreatDoor
open Sp
open Go.RowKit Go.Sort
theorem oK.of {w:World} {b:Nat} {t n:Sp.Bs} {a o sr:Nat} {ce:Int} (h:At w b [.string (bz t), .string (bz n), .int .i64 (a:Int), .int .i64 (o:Int), .int .i64 (sr:Int), .int .i64 ce]) (hf:∀ j,w.frozen? ⟨b,j,none⟩=false):oK w b t n (a:Nat) (o:Nat) (sr:Nat) ce:=
 ⟨h.1,h.2 0 (by simp),h.2 1 (by simp),h.2 2 (by simp),h.2 3 (by simp),h.2 4 (by simp),h.2 5 (by simp),hf⟩
theorem oK.at_ {w:World} {b:Nat} {t n:Sp.Bs} {a o sr:Nat} {ce:Int} (h:oK w b t n (a:Nat) (o:Nat) (sr:Nat) ce):At w b [.string (bz t), .string (bz n), .int .i64 (a:Int), .int .i64 (o:Int), .int .i64 (sr:Int), .int .i64 ce]:=by
 refine ⟨h.lt,λj hj=>?_⟩
 match j,hj with
 | 0,_=>exact h.c0
 | 1,_=>exact h.c1
 | 2,_=>exact h.c2
 | 3,_=>exact h.c3
 | 4,_=>exact h.c4
 | 5,_=>exact h.c5
theorem Jt (T:List Sp.Tb) (v:Sv.Val):Bi T (.const v):=by
 intro k cb m lo hi tv ev iv c aE w he _ hr
 obtain ⟨b,rfl,l1,l2,hA⟩:=hr
 obtain ⟨ia,rfl⟩:=he.sc.ptr
 refine (DF (hA.2 0 (by simp))).mono ?_
 rintro r w' ⟨rfl,rfl⟩
 exact ⟨rfl,he.ck,⟨b,rfl,l1,l2,hA⟩,Fc.refl _ _ _ _⟩
theorem N9 (T:List Sp.Tb) (t n:Sp.Bs) (a o sr:Nat) (ce:Int):Bi T (.col t n a o sr ce):=by
 intro k cb m lo hi tv ev iv c aE w he hd hr
 obtain ⟨b,rfl,l1,l2,hA,hf⟩:=hr
 obtain ⟨ia,rfl⟩:=he.sc.ptr
 have h1:=he.Pd
 have h2:=he.hic
 have h3:=he.cm
 simp only [Nd.dep] at hd
 refine (Bn (P:=λz w'=>z=(Sp.ck T (.col t n a o sr ce) aE 0 c).1.headD 0/\CB cb tv (Sp.ck T (.col t n a o sr ce) aE 0 c).2.1 w'/\Rp w' (Sp.ck T (.col t n a o sr ce) aE 0 c).2.2 lo hi (.iface 361 (.pointer (some ⟨b,0,none⟩)))/\Fc cb lo hi w w')
  ((Be he.ck he.kw (oK.of hA hf) he.sc (by omega) (by omega) (by omega) h3 (by omega)).mono ?_)).mono ?_
 ·rintro r w' ⟨o',Ts,Tt,e,rfl,hc,hcb,hfc⟩
  have hck:Sp.ck T (.col t n a o sr ce) aE 0 c=([(column t n a 0 sr ce aE c).1],(column t n a 0 sr ce aE c).2.1,(column t n a 0 sr ce aE c).2.2):=rfl
  refine ⟨_,rfl,by rw [hck];rfl,by rw [hck];exact hcb,?_,hfc.wide l1 l2⟩
  rw [hck,e]
  exact ⟨b,rfl,l1,l2,hc.at_,hc.fz⟩
 ·rintro r w' ⟨z,rfl,rfl,h⟩
  exact ⟨rfl,h⟩
theorem QC {T:List Sp.Tb} {N:Nat} {wd:Sp.Bs} {a:Nat} {args:Nd} (hN:N<=90000) (hw:wf N (.op wd a args) .expr) (hX:∀ n∈args.els,Bi T n):Bi T (.op wd a args):=by
 intro k cb m lo hi tv ev iv c aE w he hd hr
 obtain ⟨_,QD,hl,_⟩:=hw
 obtain ⟨b,sv,m1,m2,rfl,l1,l2,hS,hA,hI,hR⟩:=hr
 obtain ⟨ia,rfl⟩:=he.sc.ptr
 have h2:=he.hic
 simp only [Nd.dep] at hd
 have hck:Sp.ck T (.op wd a args) aE 0 c=([(typeOf wd (Sp.ck T args aE 0 c).1.dropLast).1],(if (typeOf wd (Sp.ck T args aE 0 c).1.dropLast).2 then (Sp.ck T args aE 0 c).2.1 else (Sp.ck T args aE 0 c).2.1.fail 5 a), .op wd a (Sp.ck T args aE 0 c).2.2):=rfl
 refine (tR (P:=λz w'=>z=(Sp.ck T (.op wd a args) aE 0 c).1.headD 0/\CB cb tv (Sp.ck T (.op wd a args) aE 0 c).2.1 w'/\Rp w' (Sp.ck T (.op wd a args) aE 0 c).2.2 lo hi (.iface 363 (.pointer (some ⟨b,0,none⟩)))/\Fc cb lo hi w w')
  ((I9 (DC QD (by omega) hX) QD he hd (λc=>by rw [mJ T N _ QD];omega) ⟨l1,l2⟩ hS hA hI hR).mono ?_)).mono ?_
 ·rintro r w' ⟨rfl,hcb,hr',hfc⟩
  unfold Sub at hS
  refine ⟨_,rfl,by rw [hck];rfl,by rw [hck];exact hcb,?_,hfc.wide (by omega) (by omega)⟩
  rw [hck]
  exact ⟨b,sv,m1,m2,rfl,l1,l2,by unfold Sub;omega,hA.same hfc.size (hfc.block b hA.1 (by omega) (by omega)),hI,hr'⟩
 ·rintro r w' ⟨z,rfl,rfl,h⟩
  exact ⟨rfl,h⟩
theorem Ty.sb {w w' : World} {b:Nat} {t:TypeId} (h:Ty w b t) (s:Sb b w w'):Ty w' b t:=by
 obtain ⟨arr,fz,e⟩:=h
 exact ⟨arr,fz,s.trans e⟩
theorem Lx {T:List Sp.Tb} {wd:Sp.Bs} {a:Nat} {all:Bool} {p q:Nd} (hP:NP T p) (hQ:NP T q):NP T (.comb wd a all p q):=by
 intro k cb m lo hi tv qv iv c aE w he hd hr
 obtain ⟨b,pv,qv,m1,m2,m3,rfl,l1,l2,hS,hS2,hA,n1,r1,n2,r2⟩:=hr
 obtain ⟨ia,rfl⟩:=he.sc.ptr
 have h2:=he.hic
 simp only [Nd.dep] at hd
 have hck:Sp.ck T (.comb wd a all p q) aE 0 c=((Sp.ck T (.comb wd a all p q) aE 0 c).1,(Sp.ck T (.comb wd a all p q) aE 0 c).2.1, .comb wd a all (Sp.ck T p aE 0 c).2.2 (Sp.ck T q aE 0 (Sp.ck T p aE 0 c).2.1).2.2):=by
  simp only [Sp.ck]
  split <;> rfl
 refine DE rfl ((Gv (iv := .pointer ia) hP hQ he hd ⟨l1,l2⟩ hS hS2 hA n1 r1 n2 r2).mono ?_)
 rintro r w' ⟨v,rfl,o,hl,hcb,hr1,hr2,hfc,hsb⟩
 unfold Sub at hS hS2
 refine ⟨v,rfl,o,hl,hcb,?_,hfc.wide (by omega) (by omega)⟩
 rw [hck]
 exact ⟨b,pv,qv,m1,m2,m3,rfl,l1,l2,by unfold Sub;omega,by unfold Sub;omega,hA.same hfc.size hsb,n1,hr1,n2,hr2⟩
theorem Fh (T:List Sp.Tb) (N:Nat) (hN:N<=90000):∀ nd:Nd,(wf N nd .expr->Bi T nd)/\(wf N nd .list->∀ n∈nd.els,Bi T n)/\(wf N nd .arms->∀ x∈nd.R6,Bi T x.2.1/\Bi T x.2.2.2)/\(wf N nd .cl->∀ a e,nd = .clause a e->Bi T e)/\(wf N nd .query->NP T nd):=by
 intro nd
 induction nd with
 | nil=>exact ⟨λh=>by simp [wf] at h,λ_ n hn=>by simp [Nd.els] at hn,λ_ x hx=>by simp [Nd.R6] at hx,λ_ _ _ e=>(by cases e),λh=>by simp [wf] at h⟩
 | none=>exact ⟨λh=>by simp [wf] at h,λh=>by simp [wf] at h,λh=>by simp [wf] at h,λ_ _ _ e=>(by cases e),λh=>by simp [wf] at h⟩
 | cons h t ih1 ih2=>
  refine ⟨λh=>by simp [wf] at h,λhw n hn=>?_,λh=>by simp [wf] at h,λ_ _ _ e=>(by cases e),λh=>by simp [wf] at h⟩
  obtain ⟨_,h1,h2⟩:=hw
  simp only [Nd.els,List.mem_cons] at hn
  rcases hn with rfl | hn
  ·exact ih1.1 h1
  ·exact ih2.2.1 h2 n hn
 | clause a e ih=>
  refine ⟨λh=>by simp [wf] at h,λh=>by simp [wf] at h,λh=>by simp [wf] at h,λhw a' e' he=>?_,λh=>by simp [wf] at h⟩
  injection he with h1 h2
  subst h2
  exact ih.1 hw.2
 | const v=>exact ⟨λ_=>Jt T v,λh=>by simp [wf] at h,λh=>by simp [wf] at h,λ_ _ _ e=>(by cases e),λh=>by simp [wf] at h⟩
 | col t n a o sr ce=>exact ⟨λ_=>N9 T t n a o sr ce,λh=>by simp [wf] at h,λh=>by simp [wf] at h,λ_ _ _ e=>(by cases e),λh=>by simp [wf] at h⟩
 | op wd a args ih=>exact ⟨λhw=>QC hN hw (ih.2.1 hw.2.1),λh=>by simp [wf] at h,λh=>by simp [wf] at h,λ_ _ _ e=>(by cases e),λh=>by simp [wf] at h⟩
 | dW arms els ih1 ih2=>exact ⟨λh=>by simp [wf] at h,λh=>by simp [wf] at h,λh=>by simp [wf] at h,λ_ _ _ e=>(by cases e),λh=>by simp [wf] at h⟩
 | arms wa e ta t r ih1 ih2 ih3=>
  refine ⟨λh=>by simp [wf] at h,λh=>by simp [wf] at h,λhw x hx=>?_,λ_ _ _ e=>(by cases e),λh=>by simp [wf] at h⟩
  obtain ⟨_,h1,h2,h3⟩:=hw
  simp only [Nd.R6,List.mem_cons] at hx
  rcases hx with rfl | hx
  ·exact ⟨ih1.1 h1,ih2.1 h2⟩
  ·exact ih3.2.2.1 h3 x hx
 | within wd a args q ih1 ih2=>exact ⟨λh=>by simp [wf] at h,λh=>by simp [wf] at h,λh=>by simp [wf] at h,λ_ _ _ e=>(by cases e),λh=>by simp [wf] at h⟩
 | comb wd a all p q ih1 ih2=>exact ⟨λh=>by simp [wf] at h,λh=>by simp [wf] at h,λh=>by simp [wf] at h,λ_ _ _ e=>(by cases e),λhw=>Lx (ih1.2.2.2.2 hw.2.1) (ih2.2.2.2.2 hw.2.2)⟩
 | sel di st ex src wh ih1 ih2=>
  refine ⟨λh=>by simp [wf] at h,λh=>by simp [wf] at h,λh=>by simp [wf] at h,λ_ _ _ e=>(by cases e),λhw=>?_⟩
  have hw':=hw
  obtain ⟨_,hex,_,hwh⟩:=hw
  rcases hex with rfl | ⟨h1,h2,h3⟩
  ·exact Jc hw' hN (λe=>absurd rfl e) (ih2.2.2.2.1 hwh)
  ·exact Jc hw' hN (λ_=>DC h3 (by omega) (ih1.2.1 h3)) (ih2.2.2.2.1 hwh)
def oP (t:Sp.Tb) (a:Nat) (iM:List Int) (c:CS) (j:Nat):CS:=((t.cols.zip iM).take j).foldl (λc x=>(c.fit a [x.1.2,x.2]).2) c
theorem GF (t:Sp.Tb) (a:Nat) (iM:List Int) (c:CS) (j:Nat) (h1:j<t.cols.length) (h2:j<iM.length):oP t a iM c (j+1)=((oP t a iM c j).fit a [t.cols[j].2,iM[j]]).2:=by
 unfold oP
 have hz:j<(t.cols.zip iM).length:=by simp;omega
 rw [uV hz,List.foldl_append]
 simp
theorem Ju {cb k a:Nat} {tv v:Value} {c:CS} {w:World} {t:Sp.Tb} {tt:TV} {iM:List Int} (hc:CB cb tv c w) (hkw:k<=w.heap.size) (hkc:k<=cb) (ht:nZ k w t tt) (ho:Si w v iM) (hob:∀ b off n c,v = .slice (some ⟨b,off,none⟩) n c->b≠cb) (_hl:iM.length<=90000) :
  Calls Tryz.prog 179 #[.pointer (some ⟨cb,0,none⟩),sE tt, .int .i64 (a:Nat),v] w λr w'=>r = .returned (.tuple #[])/\CB cb tv (fill t a iM c) w'/\Kept cb w w':=by
 obtain ⟨va,vc,rfl⟩:=ho.shape
 obtain ⟨tn,ca,cl,cc,ra,rl,rc⟩:=tt
 have hcw:=hc.lt
 have hcl:cl=t.cols.length:=by
  rcases ht.cols with ⟨e,_,h,_⟩ | ⟨b,off,_,h,_⟩
  ·simp only [] at h;rw [h,e];rfl
  ·exact h
 have hcn:=ht.iC
 rw [<- hcl] at hcn
 have HC:=hid hc
 have HT:=hid ht
 have HO:=hid ho
 have Yb:=hid hob
 have Mq:=hid hcl
 have fC:=hid hkw
 obtain ⟨n,hn⟩:∃ n,n=iM.length:=⟨_,rfl⟩
 have HN:=hid hn
 rw [<- hn]
 clear hc ht ho hob hcl hkw hn
 show Calls Tryz.prog 179 #[.pointer (some ⟨cb,0,none⟩), .agg #[.string tn, .slice ca cl cc, .slice ra rl rc], .int .i64 (a:Nat), .slice va n vc] w _
 by_cases hq:n=cl
 ·have HV:Hid (fill t a iM c=oP t a iM c cl):=by
   show _=_
   unfold fill oP
   rw [if_neg (by have:=HN.out;have:=Mq.out;simp;omega),sD (by have:=HN.out;have:=Mq.out;simp;omega)]
  have MH:=hid hq
  have hne:((n:Int) != (cl:Int))=false:=by simp [hq]
  have hB0:=hid (B3.new w (.string tn) (.slice ca cl cc) (.slice ra rl rc) 187)
  clear hq
  go_enter Tryz.func179,Tryz.ntmps179
  go_wp2_with fail
  go_loopw [22] (λi wr=>∃ j:Nat,j<=cl/\i = .int .i64 (j:Nat)/\Hid (CB cb tv (oP t a iM c j) wr)/\Hid (Kept cb w wr)) (λi _=>cl - (intOf i).toNat)
  case atStart=>exact ⟨0,fO _,rfl,HC.out.alloc _,(Kept.refl cb w).alloc _⟩
  case round=>
   obtain ⟨j,hj,rfl,zC,HK⟩:=hrel
   have hwr:=HK.out.size
   by_cases hlt:j<cl
   ·have hj1:j<t.cols.length:=by have:=Mq.out;omega
    have hj2:j<iM.length:=by have:=MH.out;have:=HN.out;omega
    have HS:=hid (GF t a iM c j hj1 hj2)
    obtain ⟨EW,KU,e1,hck,hcols⟩:∃ b off,ca=some ⟨b,off,none⟩/\b<k/\oD w b off (t.cols.map λx=>(bz x.1,x.2)):=by
     rcases HT.out.cols with ⟨e,_⟩ | ⟨b,off,h1,_,h3,h4⟩
     ·rw [e] at hj1;simp at hj1
     ·exact ⟨b,off,h1,h3,h4⟩
    subst e1
    obtain ⟨g,go,gc,e2,hH⟩:∃ g o c,(Value.slice va iM.length vc) = .slice (some ⟨g,o,none⟩) iM.length c/\Hi w g o iM:=by
     rcases HO.out with ⟨_,h⟩ | h
     ·rw [h] at hj2;simp at hj2
     ·exact h
    injection e2 with e2 _ e3
    subst e2 e3
    have hgc:=Yb.out g go _ _ rfl
    have hkk:=fC.out
    have x0:=(HK.out.cell (p:=⟨EW,KU+j*2,none⟩) (by show EW<_;omega) (by show EW≠cb;omega)).trans (hcols.n j (by simpa using hj1))
    have x1:=(HK.out.cell (p:=⟨EW,KU+j*2+1,none⟩) (by show EW<_;omega) (by show EW≠cb;omega)).trans (hcols.t j (by simpa using hj1))
    have x2:=(HK.out.cell (p:=⟨g,go+j,none⟩) hH.lb hgc).trans (hH.n j hj2)
    have hgl:=hH.lb
    simp only [List.getElem_map] at x0 x1
    have hi2:(j:Int)<(n:Int):=by have:=MH.out;omega
    clear hH hcols
    generalize oP t a iM c j=Z at *
    generalize bz t.cols[j].1=cn at *
    generalize t.cols[j].2=ct at *
    generalize iM[j]=ty at *
    have Yc:wr.heap.size<(wr.alloc (.cells #[.string cn, .int .i64 ct] 264)).heap.size:=by simp
    have q1:(wr.alloc (.cells #[.string cn, .int .i64 ct] 264)).cell? ⟨wr.heap.size,1,none⟩=some (.int .i64 ct):=by simp
    have q2:=(((Gr.refl wr).alloc (.cells #[.string cn, .int .i64 ct] 264)).cell (p:=⟨g,go+j,none⟩) (by show g<_;omega)).trans x2
    have Ub:=(jF (zC.out.gr ((((Gr.refl wr).alloc (.cells #[.string cn, .int .i64 ct] 264)).alloc (.cells #[.int .i64 ct, .int .i64 ty] 3)).drew)) a ((DD (wr.alloc (.cells #[.string cn, .int .i64 ct] 264)) ct ty).gr ((Gr.refl _).drew)) (by simp))
    simp only [World.size_alloc] at Ub
    have HF:=hid Ub
    clear Ub
    have KA:=hid (Kept.gr (b:=cb) ((((Gr.refl wr).alloc (.cells #[.string cn, .int .i64 ct] 264)).alloc (.cells #[.int .i64 ct, .int .i64 ty] 3)).drew))
    go_wp2_with fail
    go_region_held3 (λw'=>w'.cell? ⟨wr.heap.size,1,none⟩=some (.int .i64 ct)/\w'.cell? ⟨g,go+j,none⟩=some (.int .i64 ty)) (first | go_keep | exact ⟨q1,q2⟩ | exact ⟨y1,y2⟩) ((go_at_call 181;refine HF.out.mono ?_;rintro e4 w4 ⟨rfl,h4,k4⟩;have Jd:=KA.out.trans k4;have y2:=(Jd.cell (p:=⟨g,go+j,none⟩) (by show g<_;omega) hgc).trans x2;have y1:w4.cell? ⟨wr.heap.size,1,none⟩=some (.int .i64 ct):=(k4.cell (p:=⟨wr.heap.size,1,none⟩) (by simp;omega) (by show wr.heap.size≠cb;omega)).trans ((((Gr.refl _).alloc _).drew.cell (p:=⟨wr.heap.size,1,none⟩) Yc).trans q1)))
    have HX:=hid (And.intro h4 (HK.out.trans Jd))
    clear h4 k4 Jd y1 y2 x0 x1 x2 q1 q2 HF
    go_wp2_with fail
    go_roundw
    case rel=>exact ⟨j+1,by omega,by go_num,by rw [HS.out];exact HX.out.1,HX.out.2⟩
    case measure=>simp [intOf];omega
   ·have hjc:Hid (j=cl):=by show _=_;omega
    go_wp2_with fail
    go_end0
    exact ⟨rfl,by rw [HV.out,<- hjc.out];exact zC.out,HK.out⟩
 ·have HV:Hid (fill t a iM c=c.fail 6 a):=by
   show _=_
   unfold fill
   rw [if_pos (by have:=HN.out;have:=Mq.out;simp;omega)]
  have hne:((n:Int) != (cl:Int))=true:=by simp;omega
  go_enter Tryz.func179,Tryz.ntmps179
  go_wp2_with fail
  refine (cU (HC.out.alloc _) 6 a).mono ?_
  rintro e w1 ⟨rfl,h1,k1⟩
  go_wp2_with fail
  exact cL (results_none rfl _ _ _) rfl ⟨rfl,by rw [HV.out];exact h1,((Kept.refl cb w).alloc _).trans k1⟩
theorem kM.lens {α:Type} {P:World->α->List Value->Nat->Nat->Prop} {w:World} {g L:Nat} (hL:∀ n x m1 m2,P w n x m1 m2->x.length=L):∀ {ns:List α} {xs:List (List Value)} {lo hi:Nat},kM P w g ns xs lo hi->∀ x∈xs,x.length=L
 | [], [],_,_,_,x,hx=>by simp at hx
 | _::_,_::_,_,_,h,x,hx=>by
  obtain ⟨m1,m2,_,hp,ht⟩:=h
  rw [List.mem_cons] at hx
  rcases hx with rfl | hx
  ·exact hL _ _ _ _ hp
  ·exact kM.lens hL ht x hx
 | [],_::_,_,_,h,_,_=>h.elim
 | _::_, [],_,_,h,_,_=>h.elim
theorem kM.upd {α:Type} {P:World->α->List Value->Nat->Nat->Prop} {w:World} {g:Nat} (hF:∀ w' n x m1 m2,w.heap.size<=w'.heap.size->P w n x m1 m2->(∀ k,m1<=k->k<m2->w'.heap[k]?=w.heap[k]?)->P w' n x m1 m2):∀ (a b:List α) (n:α) (xs:List (List Value)) (lo hi:Nat),kM P w g (a++n::b) xs lo hi->∃ m1 m2 x,xs[a.length]?=some x/\lo<=m1/\m1<=m2/\m2<=hi/\¬ (m1<=g/\g<m2)/\P w n x m1 m2/\
  ∀ w' n',w.heap.size<=w'.heap.size->(∀ q,lo<=q->q<hi->q≠g->¬ (m1<=q/\q<m2)->w'.heap[q]?=w.heap[q]?)->P w' n' x m1 m2->kM P w' g (a++n'::b) xs lo hi
 | [],b,n, [],lo,hi,h=>h.elim
 | [],b,n,x::xs,lo,hi,h=>by
  obtain ⟨m1,m2,hS,hp,ht⟩:=h
  have hS':=hS
  have hle:=ht.le
  unfold Sub at hS'
  refine ⟨m1,m2,x,rfl,by omega,by omega,by omega,by omega,hp,λw' n' hs hk hp'=>⟨m1,m2,hS,hp',ht.frame (λn x m1 m2 h1 h2=>hF w' n x m1 m2 hs h1 h2) λq h1 h2 h3=>hk q (by omega) h2 h3 (by omega)⟩⟩
 | y::a,b,n, [],lo,hi,h=>h.elim
 | y::a,b,n,x::xs,lo,hi,h=>by
  obtain ⟨m1,m2,hS,hp,ht⟩:=h
  obtain ⟨p1,p2,u,e,l1,l2,l3,l4,l5,l6⟩:=kM.upd hF a b n xs m2 hi ht
  have hS':=hS
  unfold Sub at hS'
  refine ⟨p1,p2,u,by simpa using e,by omega,l2,l3,l4,l5,λw' n' hs hk hp'=>⟨m1,m2,hS,hF w' _ _ _ _ hs hp (λq h1 h2=>hk q (by omega) (by omega) (by omega) (by omega)),l6 w' n' hs (λq h1 h2 h3 h4=>hk q (by omega) h2 h3 h4) hp'⟩⟩
theorem mO {β:Type} (L:Nat):∀ (xs:List (List β)) (_:∀ x∈xs,x.length=L) (j d:Nat) (x:List β),xs[j]?=some x->d<L->xs.flatten[j*L+d]?=x[d]?
 | [],_,j,d,x,h,_=>by simp at h
 | y::xs,hl,0,d,x,h,hd=>by
  simp at h;subst h
  have:=hl y (by simp)
  simp only [List.flatten_cons,Nat.zero_mul,Nat.zero_add]
  rw [List.getElem?_append_left (by omega)]
 | y::xs,hl,j+1,d,x,h,hd=>by
  have ih:=mO L xs (λz hz=>hl z (by simp [hz])) j d x (by simpa using h) hd
  have hy:=hl y (by simp)
  simp only [List.flatten_cons]
  rw [List.getElem?_append_right (by rw [hy,Nat.succ_mul];omega),<- ih]
  congr 1
  rw [hy,Nat.succ_mul];omega
theorem tY (T:List Sp.Tb) (t:Sp.Tb):∀ (l:List (Nat×Nd)) (x:Nat×Nd) (c:CS),gH T t (l ++ [x]) c=(fill t x.1 (Sp.ck T x.2 [] 0 (gH T t l c).1).1.dropLast (Sp.ck T x.2 [] 0 (gH T t l c).1).2.1,(gH T t l c).2 ++ [(x.1,(Sp.ck T x.2 [] 0 (gH T t l c).1).2.2)])
 | [],x,c=>rfl
 | (a,e)::l,x,c=>by
  have ih:=tY T t l x (fill t a (Sp.ck T e [] 0 c).1.dropLast (Sp.ck T e [] 0 c).2.1)
  simp only [List.cons_append,gH]
  rw [ih]
theorem qR (T:List Sp.Tb) (t:Sp.Tb):∀ (l:List (Nat×Nd)) (c:CS),(gH T t l c).2.length=l.length
 | [],_=>rfl
 | (a,e)::l,c=>by simp only [gH,List.length_cons,qR T t l]
theorem fL.Uc {w:World} {n:Nat×Nd} {x:List Value} {m1 m2:Nat} (h:fL w n x m1 m2):x.length=2:=by obtain ⟨v,e,_⟩:=h;rw [e];rfl
theorem Oa (w:World):Sem.run Tryz.prog (binOp BinOp.neq 179 .nilIface .nilIface) w = .ok (.bool false) w:=by kernel_rfl
theorem zN {T:List Sp.Tb} {N k cb lo hi q a:Nat} {tv sl:Value} {c:CS} {w:World} {nm:Nm} {rows:List (Nat×Nd)} (hX:∀ x∈rows,K5 T x.2/\x.2.dep<=100000/\wf N x.2 .list/\x.2.len<=90000) (hrl:rows.length<=90000)
  (hc:CB cb tv c w) (ht:sF k w T tv) (hkl:k<=lo) (E4:hi<=cb) (hlq:lo<=q/\q<hi) (hA:At w q [.int .i64 (a:Nat), .string (bz nm.1), .int .i64 (nm.2:Nat),sl, .nilIface]) (hL:GD fL w rows (q+1) hi sl) :
  Calls Tryz.prog 137 #[.pointer (some ⟨cb,0,none⟩), .pointer (some ⟨q,0,none⟩)] w λr w'=>r = .returned (.tuple #[])/\CB cb tv (gH T (aR T nm c).1 rows (aR T nm c).2).1 w'/\GD fL w' (gH T (aR T nm c).1 rows (aR T nm c).2).2 (q+1) hi sl/\Fc cb (q+1) hi w w':=by
 have hcw:=hc.lt
 obtain ⟨g,kc,xs,h0,rfl,hg1,hg2,hh0,Sr,hcells⟩:=hL
 have b1:=hA.k1
 have b2:=hA.k2
 have b3:=hA.k3
 have b4:=hA.k4
 have AC:=hA.1
 have hle:=Sr.le
 have M8:=kM.lens (L:=2) (λn x m1 m2 h=>fL.Uc h) Sr
 obtain ⟨n,hn⟩:∃ n,n=rows.length:=⟨_,rfl⟩
 rw [<- hn] at b3 hrl
 have HN:=hid hn
 have HC:=hid hc
 have HT:=hid ht
 have HX:=hid hX
 have Yd:=hid Sr
 have Ob:=hid hcells
 have VJ:=hid M8
 have HA:=hid hA
 obtain ⟨nw,na⟩:=nm
 simp only [] at b1 b2
 have fC:=hid ht.2.1
 have QE:=hid (kF hc ht (nw,na))
 have u1:=Oa
 generalize aR T (nw,na) c=TC at *
 obtain ⟨t,c0⟩:=TC
 simp only [] at QE ⊢
 clear hc ht hX Sr hcells M8 hA hn
 go_enter Tryz.func137,Tryz.ntmps137
 go_wp2_with fail
 refine QE.out.mono ?_
 rintro e w1 ⟨tt,rfl,ht1,h1,k1⟩
 have K1:=hid k1
 have HT1:=hid ht1
 have H1:=hid h1
 obtain ⟨tn,mD,mF,mG,mE,mH,mI⟩:=tt
 have hz1:=k1.size
 have c3:=(k1.cell (p:=⟨q,3,none⟩) AC (by show q≠cb;omega)).trans b3
 have c4:=(k1.cell (p:=⟨q,4,none⟩) AC (by show q≠cb;omega)).trans b4
 have Ud:q<w1.heap.size:=by omega
 clear ht1 h1 k1 QE b1 b2
 rw [show sE ⟨tn,mD,mF,mG,mE,mH,mI⟩ = .agg #[.string tn, .slice mD mF mG, .slice mE mH mI] from rfl]
 go_wp2_with fail
 go_loopw [18] (λi wr=>∃ j:Nat,j<=n/\i = .int .i64 (j:Nat)/\Hid (CB cb tv (gH T t (rows.take j) c0).1 wr)/\Hid (kM fL wr g ((gH T t (rows.take j) c0).2++rows.drop j) xs (q+1) h0)/\Hid (Fc cb (q+1) hi w wr)/\Hid (Sb g w wr)/\Hid (B3 wr w1.heap.size (.string tn) (.slice mD mF mG) (.slice mE mH mI))/\Hid (nZ k wr t ⟨tn,mD,mF,mG,mE,mH,mI⟩)) (λi _=>n - (intOf i).toNat)
 case atStart=>
  refine ⟨0,fO _,rfl,H1.out.alloc _,?_,(Fc.of (K1.out.alloc _)),?_,B3.new w1 _ _ _ _,HT1.out.low (cE fC.out hz1) (Low.dZ ((Gr.refl w1).alloc _))⟩
  ·exact Yd.out.frame (λn x m1 m2 h hk=>fL.frame (cE hz1 (by simp)) n x m1 m2 h hk) λu u1 u2 _=>(kX _ _ _ (by omega)).trans (K1.out.block u (by omega) (by omega))
  ·exact (kX _ _ _ (by omega)).trans (K1.out.block g (by omega) (by omega))
 case round=>
  obtain ⟨j,hj,rfl,zC,I7,HF,Po,HB4,AX⟩:=hrel
  have hwr:=HF.out.size
  have hq4:=HB4.out.lt
  by_cases hlt:j<n
  ·have hjz:j<rows.length:=by have:=HN.out;omega
   have HS:=hid (tY T t (rows.take j) rows[j] c0)
   rw [<- uV hjz] at HS
   have hl2:=qR T t (rows.take j) c0
   rw [List.length_take,Nat.min_eq_left (by omega)] at hl2
   have hx:=I7.out
   rw [nS hjz] at hx
   obtain ⟨m1,m2,x,ex,l1,l2,l3,l4,⟨xv,rfl,hrq⟩,l6⟩:=kM.upd (λw' n x m1 m2 hs h hk=>fL.frame hs n x m1 m2 h hk) _ _ _ _ _ _ hx
   rw [hl2] at ex
   have f0:=mO 2 xs VJ.out j 0 _ ex (by omega)
   have f1:=mO 2 xs VJ.out j 1 _ ex (by omega)
   have e0:=(fB (w:=w) (a:=⟨g,_,none⟩) Po.out).trans (Ob.out _ _ f0)
   have e1:=(fB (w:=w) (a:=⟨g,_,none⟩) Po.out).trans (Ob.out _ _ f1)
   rw [Nat.add_zero] at e0
   have QF:=HX.out _ (jD hjz)
   obtain ⟨xa,xn,xc,rfl⟩:=hrq.1.P2 QF.2.2.1
   have Ue:=hid QF
   have Oc:=hid hrq
   have VK:=hid l6
   have HLen:=hid (λc=>(mJ T N rows[j].2 QF.2.2.1 [] c).trans rfl)
   have hln:=QF.2.2.2
   clear f0 f1 hx ex hl2 QF hrq l6 I7
   generalize gH T t (rows.take j) c0=R at *
   obtain ⟨R1,R2⟩:=R
   generalize rows[j]=rj at *
   obtain ⟨ra,re⟩:=rj
   simp only [] at e0 e1 Ue Oc HLen hln HS zC VK
   have hlen:=HLen.out R1
   have GX:=hid ((((Gr.refl wr).alloc (.cells #[.int .i64 (ra:Nat), .slice xa xn xc] 239)).drew))
   have Ds:=GX.out.size
   have Ye:Hid (En T k cb (cb+1) tv R1 [] (.pointer none) m1 m2 ((wr.alloc (.cells #[.int .i64 (ra:Nat), .slice xa xn xc] 239)).drew)):=
    ⟨zC.out.gr GX.out,(HT.out.low (Low.ET HF.out (by omega) (by omega))).low (Low.dZ GX.out),rfl,by omega,by omega,by omega,by omega⟩
   have VN:=hid (Ue.out.1 k cb (cb+1) m1 m2 tv (.slice xa xn xc) (.pointer none) R1 [] _ Ye.out (by simpa using Ue.out.2.1) (Oc.out.1.gr GX.out (by omega) λblk off n c e=>by have:=Oc.out.2 blk off n c e;omega) (λblk off n c e=>by have:=Oc.out.2 blk off n c e;omega))
   generalize Yf:Sp.ck T re [] 0 R1=CK at *
   clear Yf
   obtain ⟨Yg,ZM,VO⟩:=CK
   simp only [] at VN HS hlen
   generalize Yg.dropLast=iM at *
   have hlb:iM.length<=90000:=by rw [hlen];exact hln
   clear hlen HLen
   obtain ⟨bl,z0,z1,z2,z3,z4,z5⟩:=HB4.out
   have q0:(wr.alloc (.cells #[.int .i64 (ra:Nat), .slice xa xn xc] 239)).cell? ⟨wr.heap.size,0,none⟩=some (.int .i64 (ra:Nat)):=by simp
   have q1:(wr.alloc (.cells #[.int .i64 (ra:Nat), .slice xa xn xc] 239)).cell? ⟨wr.heap.size,1,none⟩=some (.slice xa xn xc):=by simp
   have hq6:wr.heap.size<(wr.alloc (.cells #[.int .i64 (ra:Nat), .slice xa xn xc] 239)).heap.size:=by simp
   have y0:=(((Gr.refl wr).alloc (.cells #[.int .i64 (ra:Nat), .slice xa xn xc] 239)).cell (p:=⟨w1.heap.size,0,none⟩) hq4).trans z0
   have y1:=(((Gr.refl wr).alloc (.cells #[.int .i64 (ra:Nat), .slice xa xn xc] 239)).cell (p:=⟨w1.heap.size,1,none⟩) hq4).trans z1
   have y2:=(((Gr.refl wr).alloc (.cells #[.int .i64 (ra:Nat), .slice xa xn xc] 239)).cell (p:=⟨w1.heap.size,2,none⟩) hq4).trans z2
   go_wp2_with fail
   have hkr:k<=wr.heap.size:=cE fC.out hwr
   have GG : w1.heap.size<(wr.alloc (.cells #[.int .i64 (ra:Nat), .slice xa xn xc] 239)).heap.size:=by simp;omega
   have hqq:wr.heap.size≠cb/\w1.heap.size≠cb/\¬ (m1<=wr.heap.size/\wr.heap.size<m2)/\¬ (m1<=w1.heap.size/\w1.heap.size<m2):=by omega
   go_region_held3 (λw'=>w'.cell? ⟨w1.heap.size,0,none⟩=some (.string tn)/\w'.cell? ⟨w1.heap.size,1,none⟩=some (.slice mD mF mG)/\w'.cell? ⟨w1.heap.size,2,none⟩=some (.slice mE mH mI)/\w'.cell? ⟨wr.heap.size,0,none⟩=some (.int .i64 (ra:Nat))/\w'.cell? ⟨wr.heap.size,1,none⟩=some (.slice xa xn xc)) (first | go_keep | exact ⟨y0,y1,y2,q0,q1⟩ | exact ⟨d0,d1,d2,d3,d4⟩ | exact ⟨s0,s1,s2,s3,s4⟩) (first | (go_at_call 180;refine VN.out.mono ?_;rintro e2 w2 ⟨v2,rfl,o2,h2,r2,g2⟩;have d0:=(g2.cell (p:=⟨w1.heap.size,0,none⟩) GG hqq.2.1 hqq.2.2.2).trans y0;have d1:=(g2.cell (p:=⟨w1.heap.size,1,none⟩) GG hqq.2.1 hqq.2.2.2).trans y1;have d2:=(g2.cell (p:=⟨w1.heap.size,2,none⟩) GG hqq.2.1 hqq.2.2.2).trans y2;have d3:=(g2.cell (p:=⟨wr.heap.size,0,none⟩) hq6 hqq.1 hqq.2.2.1).trans q0;have d4:=(g2.cell (p:=⟨wr.heap.size,1,none⟩) hq6 hqq.1 hqq.2.2.1).trans q1;have hz2:(wr.alloc (.cells #[.int .i64 (ra:Nat), .slice xa xn xc] 239)).heap.size<=w2.heap.size:=g2.size;have VP:=(AX.out.low hkr (Low.dZ GX.out)).low (cE hkr Ds) (Low.ET g2 (by omega) (by omega));obtain ⟨oa,oc,rfl⟩:=o2.sl) | (go_at_call 179;refine (Ju (a:=ra) h2 (cE hkr (cE Ds g2.size)) (by omega) VP o2.si (λb' o' n' c' e=>by have:=o2.fresh b' o' n' c' e;omega) (by omega)).mono ?_;rintro e3 w3 ⟨rfl,h3,k3⟩;have s0:=(k3.cell (p:=⟨w1.heap.size,0,none⟩) (bY GG hz2) hqq.2.1).trans d0;have s1:=(k3.cell (p:=⟨w1.heap.size,1,none⟩) (bY GG hz2) hqq.2.1).trans d1;have s2:=(k3.cell (p:=⟨w1.heap.size,2,none⟩) (bY GG hz2) hqq.2.1).trans d2;have s3:=(k3.cell (p:=⟨wr.heap.size,0,none⟩) (bY hq6 hz2) hqq.1).trans d3;have s4:=(k3.cell (p:=⟨wr.heap.size,1,none⟩) (bY hq6 hz2) hqq.1).trans d4))
   have Tz:=hid k3
   have F2:Hid (Fc cb m1 m2 wr w2):=(Fc.gr GX.out).trans g2
   have F3:Hid (Fc cb m1 m2 wr w3):=F2.out.trans (Fc.of k3)
   have hz3:=F3.out.size
   have HR3:Hid (fL w3 (ra,VO) [.int .i64 (ra:Int), .slice xa xn xc] m1 m2):=⟨_,rfl,r2.frame k3.size _ _ _ _ (λu _ u2=>k3.block u (by have:=F2.out.size;omega) (by omega)) (λblk off n c e=>k3.block blk (by have:=Oc.out.2 blk off n c e;have:=F2.out.size;omega) (by have:=Oc.out.2 blk off n c e;omega)),Oc.out.2⟩
   have H3:=hid h3
   have HB3:Hid (B3 w3 w1.heap.size (.string tn) (.slice mD mF mG) (.slice mE mH mI)):=HB4.out.same hz3 (F3.out.block w1.heap.size hq4 (by omega) (by omega))
   have HT3:Hid (nZ k w3 t ⟨tn,mD,mF,mG,mE,mH,mI⟩):=AX.out.low hkr (Low.ET F3.out (by omega) (by omega))
   have I8:Hid (kM fL w3 g ((gH T t (rows.take (j+1)) c0).2++rows.drop (j+1)) xs (q+1) h0):=by
    show kM _ _ _ _ _ _ _
    rw [HS.out]
    have E:=VK.out w3 (ra,VO) hz3 (λu u1 u2 u3 u4=>F3.out.block u (by omega) (by omega) u4) HR3.out
    simpa using E
   have zA:Hid (CB cb tv (gH T t (rows.take (j+1)) c0).1 w3):=by show CB _ _ _ _;rw [HS.out];exact H3.out
   have HF3:Hid (Fc cb (q+1) hi w w3):=HF.out.trans (F3.out.wide l1 (by omega))
   have Pp:Hid (Sb g w w3):=(F3.out.block g (by omega) (by omega) l4).trans Po.out
   clear h3 k3 h2 o2 r2 g2 VP d0 d1 d2 d3 d4 s0 s1 s2 s3 s4 y0 y1 y2 q0 q1 z0 z1 z2 z3 z4 z5 e0 e1
   go_wp2_with fail
   go_roundw
   case rel=>exact ⟨j+1,by omega,by go_num,zA,I8,HF3,Pp,HB3,HT3⟩
   case measure=>simp [intOf];omega
  ·have hje:rows.take j=rows:=sD (by have:=HN.out;omega)
   have hdr:rows.drop j = []:=Aw (by have:=HN.out;omega)
   rw [hje] at zC I7
   rw [hdr,List.append_nil] at I7
   have r4:=(HF.out.cell (p:=⟨q,4,none⟩) AC (by show q≠cb;omega) (by show ¬ (q+1<=q/\q<hi);omega)).trans b4
   have hlen2:=qR T t rows c0
   clear hje hdr
   go_wp2_with fail
   go_end0
   refine ⟨rfl,zC.out,⟨g,kc,xs,h0,?_,hg1,hg2,⟨hh0.1,by rw [hlen2];exact hh0.2⟩,I7.out,λu v hu=>(fB (w:=w) (a:=⟨g,_,none⟩) Po.out).trans (Ob.out u v hu)⟩,HF.out⟩
   rw [hlen2]
end Go.Proofs.YtgnncnhkgmhngaaGreatDoor
