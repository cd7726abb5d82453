import Derived.Test.YtgnncnhkgmhngaaGreatDoorJ39
set_option maxHeartbeats 4000000
set_option maxRecDepth 100000
namespace Go.Proofs.YtgnncnhkgmhngaaGreatDoor
open Sp
open Tryz
open Go.RowKit Go.Sort
theorem sN {pb po:Nat} {t:TypeId} {p:Value} {ia:Option Addr} {c:Sv.Val} {w:World} (_hp:pb<w.heap.size) (c1:w.cell? ⟨pb,po+1,none⟩=some (.iface t p))
  (hC:Calls prog 194 #[.iface t p, .pointer ia] w λe W'=>e = .returned (dF c)/\Gr w W') :
  Calls prog 150 #[.pointer (some ⟨pb,po,none⟩), .pointer ia] w λe w'=>e = .returned (.bool (Sv.isTrue c))/\Gr w w':=by
 have HC:=hid hC
 have HT:=hid (λW=>oV c W)
 clear hC
 generalize Sv.isTrue c=tr at *
 obtain ⟨ck,cn,cs⟩:=c
 go_enter func150,ntmps150
 go_wp2_with fail
 refine HC.out.mono ?_
 rintro e w1 ⟨rfl,g1⟩
 have G1:=hid g1
 clear g1 HC
 go_wp2_with fail
 refine (HT.out _).mono ?_
 rintro e w2 ⟨rfl,g2⟩
 have G2:=hid (G1.out.trans g2)
 clear g2
 go_wp2_with fail
 go_ret
 exact ⟨rfl,G2.out⟩
theorem CO {ia:Option Addr} {w:World} :
  Calls prog 150 #[.pointer none, .pointer ia] w λe w'=>e = .returned (.bool true)/\Gr w w':=by
 go_enter func150,ntmps150
 go_wp2_with fail
 go_ret
 exact ⟨rfl,Gr.refl w⟩
theorem Gx:∀ (l:List Sv.Val) (i d:Nat) (h:i<l.length) (_:d<3),(lE l)[i*3+d]?=([.int .i64 l[i].k, .int .i64 l[i].n, .string l[i].s]:List Value)[d]?
 | [],i,d,h,_=>by simp at h
 | p::l,0,d,_,hd=>by
  simp only [lE,List.flatMap_cons,List.getElem_cons_zero,Nat.zero_mul,Nat.zero_add]
  rw [List.getElem?_append_left (by simp;omega)]
 | p::l,i+1,d,h,hd=>by
  have ih:=Gx l i d (by simpa using h) hd
  simp only [lE,List.flatMap_cons,List.getElem_cons_succ] at ih ⊢
  rw [List.getElem?_append_right (by simp;omega),<- ih]
  congr 1
  simp;omega
theorem kO.hv {base:Nat} {w:World} {v:Value} {vs:List Sv.Val} (h:kO base w v vs) (hne:vs ≠ []):∃ b c,v = .slice (some ⟨b,0,none⟩) vs.length c/\base<=b/\Hv w b 0 vs:=by
 have hb:=aB h
 obtain ⟨hl,h | ⟨g',cap,cur,hv,h0,hc,r1,r2,r3,r4⟩⟩:=h
 ·exact absurd (zE h.2) hne
 ·subst hv
  have key:∀ j d,(hj:j<vs.length)->d<3->w.cell? ⟨g',0+j*3+d,none⟩=([.int .i64 vs[j].k, .int .i64 vs[j].n, .string vs[j].s]:List Value)[d]?:=λj d hj hd=>by
   have e:=Gx vs j d hj hd
   rw [<- r4,List.getElem?_take_of_lt (by omega)] at e
   simp [World.cell?,hc]
   simpa using e
  exact ⟨g',cap,rfl,h0,(hb g' rfl).2,λj hj=>by simpa using key j 0 hj (by omega),λj hj=>by simpa using key j 1 hj (by omega),λj hj=>by simpa using key j 2 hj (by omega)⟩
theorem eF {w:World} {q b o:Nat} {x y z v:Value} (h:b≠q) (hc:w.cell? ⟨b,o,none⟩=some v):(((w.setCell ⟨q,0,none⟩ x).setCell ⟨q,1,none⟩ y).setCell ⟨q,2,none⟩ z).cell? ⟨b,o,none⟩=some v:=
 (dV (w:=w) (a:=⟨b,o,none⟩) (((c6 _ _ _ _ h).trans (c6 _ _ _ _ h)).trans (c6 _ _ _ _ h))).trans hc
theorem Lc {b a g off cap:Nat} {ia:Option Addr} {wd:Sp.Bs} {vals:List Sv.Val} {w:World} (hA:At w b [.string (bz wd), .int .i64 (a:Int), .slice (some ⟨g,off,none⟩) vals.length cap]) (hm:vals.length<=100000) (h1:1<=vals.length) (h2:Sv.iM wd=true->2<=vals.length) (hg:g<w.heap.size)
  (hE:∀ i,(hi:i<vals.length)->∃ t p,w.cell? ⟨g,off+i,none⟩=some (.iface t p)/\∀ W,RowKit.Below w.heap.size w W->Calls prog 194 #[.iface t p, .pointer ia] W λe W'=>e = .returned (dF vals[i])/\Gr W W') :
  Calls prog 194 #[.iface 363 (.pointer (some ⟨b,0,none⟩)), .pointer ia] w λe w'=>e = .returned (dF (Sv.of wd vals))/\Gr w w':=by
 apply fJ
 have b0:=hA.k0
 have b2:=hA.k2
 have hbw:=hA.1
 have GA:=hid ((Gr.refl w).alloc (.cells #[.int .i64 0, .int .i64 0, .string ⟨#[]⟩] 40) |>.drew)
 have Nq:=GA.out.size
 have d0:=(((Gr.refl w).alloc (.cells #[.int .i64 0, .int .i64 0, .string ⟨#[]⟩] 40)).cell (p:=⟨b,0,none⟩) hbw).trans b0
 have d2:=(((Gr.refl w).alloc (.cells #[.int .i64 0, .int .i64 0, .string ⟨#[]⟩] 40)).cell (p:=⟨b,2,none⟩) hbw).trans b2
 have HR:Hid (∀ p1 p2,p1=(w.alloc (.cells #[.int .i64 0, .int .i64 0, .string ⟨#[]⟩] 40)).drew.heap.size->p2=(w.alloc (.cells #[.int .i64 0, .int .i64 0, .string ⟨#[]⟩] 40)).drew.heap.size+1->Calls prog 188 #[.func (.func 229) #[] #[.pointer (some ⟨p1,0,none⟩), .pointer (some ⟨p2,0,none⟩)]] (boxes (w.alloc (.cells #[.int .i64 0, .int .i64 0, .string ⟨#[]⟩] 40)).drew (.slice (some ⟨g,off,none⟩) vals.length cap) (.pointer ia)) λe W'=>∃ v,e = .returned v/\kO (w.alloc (.cells #[.int .i64 0, .int .i64 0, .string ⟨#[]⟩] 40)).drew.heap.size W' v vals/\RowKit.Below (w.alloc (.cells #[.int .i64 0, .int .i64 0, .string ⟨#[]⟩] 40)).drew.heap.size (w.alloc (.cells #[.int .i64 0, .int .i64 0, .string ⟨#[]⟩] 40)).drew W'):=by
  rintro p1 p2 rfl rfl
  exact rU hm (b6 hg Nq) (λi hi=>by
   obtain ⟨t,p,e1,e2⟩:=hE i hi
   exact ⟨t,p,(GA.out.cell (p:=⟨g,off+i,none⟩) hg).trans e1,λW hb=>e2 W (GA.out.below.trans (hb.mono Nq))⟩)
 have UV:=hid (λ(bb cc:Nat) (W:World) (hv:Hv W bb 0 vals)=>Pr bb 0 vals.length cc (bz wd) vals W rfl h1 (by rw [cY];exact h2) hm hv)
 simp only [cY] at UV
 have ZZ:Hid (vals ≠ []):=λe=>by rw [e] at h1;simp at h1
 generalize Sv.of wd vals=val at *
 obtain ⟨vk,vn,vs⟩:=val
 have t0:=OL
 have t1:=OM
 have t2:=ON
 have hB0:=hid ((B3.new w (.int .i64 0) (.int .i64 0) (.string ⟨#[]⟩) 40).gr (Gr.refl _).drew)
 have hbb:b<(w.alloc (.cells #[.int .i64 0, .int .i64 0, .string ⟨#[]⟩] 40)).heap.size:=by simp;omega
 clear hA hE h2
 go_enter func194,ntmps194
 go_wp2_with fail
 have hbq:b≠w.heap.size:=by omega
 have d0' : (w.alloc (.cells #[.int .i64 0, .int .i64 0, .string ⟨#[]⟩] 40)).drew.cell? ⟨b,0,none⟩=some (.string (bz wd)):=d0
 have XA : (w.alloc (.cells #[.int .i64 0, .int .i64 0, .string ⟨#[]⟩] 40)).drew.cell? ⟨b,2,none⟩=some (.slice (some ⟨g,off,none⟩) vals.length cap):=d2
 go_region_held3 (λw'=>w'.cell? ⟨b,0,none⟩=some (.string (bz wd))/\w'.cell? ⟨b,2,none⟩=some (.slice (some ⟨g,off,none⟩) vals.length cap)) (first | (with_reducible exact ⟨d0',XA⟩) | (with_reducible exact ⟨d0,d2⟩) | (with_reducible exact ⟨f0,f2⟩) | (with_reducible exact ⟨g0,g2'⟩) | (with_reducible exact ⟨k0,k2⟩) | (with_reducible exact ⟨eF hbq k0,eF hbq k2⟩) | go_keep) (first | (go_at_call 189;refine (pJ _ _ _ _ _).mono ?_;rintro e1 w2 ⟨rfl,hw2⟩;have HW2:=hid hw2;have f0:w2.cell? ⟨b,0,none⟩=some (.string (bz wd)):=(by rw [HW2.out];exact ((qR _ _ _).cell (p:=⟨b,0,none⟩) hbb).trans d0);have f2:w2.cell? ⟨b,2,none⟩=some (.slice (some ⟨g,off,none⟩) vals.length cap):=(by rw [HW2.out];exact ((qR _ _ _).cell (p:=⟨b,2,none⟩) hbb).trans d2);clear hw2) | (have _hx:=HW2;go_at_call 188;rw [HW2.out];refine (HR.out _ _ (by simp) (by simp)).mono ?_;rintro e2 w3 ⟨v3,rfl,o3,Jk⟩;obtain ⟨rb,rc,rfl,hrb,hv3⟩:=o3.hv ZZ.out;have g0:=(Jk.cell (p:=⟨b,0,none⟩) hbb).trans d0;have g2':=(Jk.cell (p:=⟨b,2,none⟩) hbb).trans d2;have hb3:b<w3.heap.size:=b6 hbb Jk.size;have Nr:=hid Jk;have Ti:=hid hv3;clear Jk hv3 o3) | (have _hx:=Ti;go_at_call 233;refine (UV.out rb rc w3 Ti.out).mono ?_;rintro e3 w4 ⟨rfl,g4⟩;have k0:=(g4.cell (p:=⟨b,0,none⟩) hb3).trans g0;have k2:=(g4.cell (p:=⟨b,2,none⟩) hb3).trans g2';have hB4:=(hB0.out.same Nr.out.size (Nr.out.block w.heap.size (by simp))).gr g4;obtain ⟨q0,q1,q2,q3,q4,q5,q6⟩:=hB4;have Ik:=hid g4;clear g4))
 have Mi:Hid (RowKit.Below w.heap.size w w4):=((GA.out.below.trans (Nr.out.mono GA.out.size))).trans (Ik.out.below.mono (cF GA.out.size Nr.out.size))
 go_wp2_with fail
 exact cV (v := .agg #[.int .i64 vk, .int .i64 vn, .string vs]) (by simp [results,results194,go_sem,q1,q2,q3]) rfl ⟨rfl,((Mi.out.setCell (aF _) _).setCell (aF _) _).setCell (aF _) _⟩
theorem CJ.bel {w w' : World} {tk:List (List Sv.Val)} {v:Value} (h:CJ w tk v) (g:RowKit.Below w.heap.size w w'):CJ w' tk v:=by
 obtain ⟨a,c,e,h⟩:=h
 refine ⟨a,c,e,λhne=>?_⟩
 obtain ⟨rb,ro,e1,hr⟩:=h hne
 exact ⟨rb,ro,e1,(hr.below g).up g.size⟩
theorem oL.bel {w w' : World} {tv:Value} (g:RowKit.Below w.heap.size w w'):∀ {env:List (List (List Sv.Val))} {v:Value},oL w tv env v->oL w' tv env v
 | [],_,⟨b,e,hb,c0⟩=>⟨b,e,b6 hb g.size,(g.cell (p:=⟨b,0,none⟩) hb).trans c0⟩
 | _::_,_,⟨b,sv,ov,e,hb,c0,c1,c2,ht,hr⟩=>⟨b,sv,ov,e,b6 hb g.size,(g.cell (p:=⟨b,0,none⟩) hb).trans c0,(g.cell (p:=⟨b,1,none⟩) hb).trans c1,(g.cell (p:=⟨b,2,none⟩) hb).trans c2,ht.bel g,hr.bel g⟩
theorem Rp.bel {w w' : World} {nd:Nd} {lo hi:Nat} {x:Value} (h:Rp w nd lo hi x) (g:RowKit.Below w.heap.size w w') (hh:hi<=w.heap.size) (hx:∀ blk off n c,x = .slice (some ⟨blk,off,none⟩) n c->blk<w.heap.size):Rp w' nd lo hi x:=
 h.frame g.size _ _ _ _ (λk _ h2=>g.block k (by omega)) (λblk off n c e=>g.block blk (hx blk off n c e))
theorem Rp.s9 {w w' : World} {nd:Nd} {lo hi:Nat} {x:Value} (h:Rp w nd lo hi x) (g:RowKit.Below w.heap.size w w') (hh:hi<=w.heap.size) (hx:b9 x):Rp w' nd lo hi x:=h.bel g hh λ_ _ _ _ e=>absurd e (hx _ _ _)
namespace Sp
structure Eo (env:List (List Row)) (aC:List Lv):Prop where
 len:env.length<=100000
 at_:∀ (o:Nat) (lv:Lv),aC[o]?=some lv->∃ tk:List Row,env[o]?=some tk/\tk.length<=100000/\∀ (i:Nat) (x:Bs×Tb),lv[i]?=some x->∃ r:Row,tk[i]?=some r/\r.length<=100000/\x.2.cols.length<=r.length
theorem tO (T:List Tb) (env:List (List Row)):∀ ns:List Nd,rn T (gZ ns .nil) env = [ns.map λn=>val (rn T n env)]
 | []=>rfl
 | n::ns=>by
  have ih:=tO T env ns
  simp only [gZ,List.foldr_cons] at ih ⊢
  simp only [rn,ih,List.headD_cons,List.map_cons]
theorem IE {w:Bs} {n:Nat} (h:arity w n=true):1<=n:=by
 unfold arity at h
 split at h
 ·simp at h;omega
 ·split at h
  ·simp at h;omega
  ·split at h
   ·simpa using h
   ·simp at h;omega
theorem IF {w:Bs} {n:Nat} (h:arity w n=true) (hc:Sv.iM w=true):2<=n:=by
 unfold Sv.iM Sv.oQ at hc
 simp only [Bool.not_eq_true',Bool.or_eq_false_iff] at hc
 obtain ⟨⟨⟨⟨⟨h1,h2⟩,h3⟩,h4⟩,h5⟩,h6⟩:=hc
 have h7:(w == [45])=false:=by
  by_cases hh:(w == [45])=true
  ·simp [hh] at h6
  ·simpa using hh
 unfold arity at h
 simp only [h3,h4,h5,h7,Bool.or_false,Bool.false_eq_true,if_false] at h
 simp at h;omega
theorem AE {T:List Tb} {aC:List Lv} : ∀ (nd:Nd),bd T nd aC->∀ n∈nd.els,bd T n aC
 | .cons h t,hw,n,hn=>by
  simp only [Nd.els,List.mem_cons] at hn
  rcases hn with rfl | hn
  ·exact hw.1
  ·exact AE t hw.2 n hn
 | .nil,_,n,hn=>by simp [Nd.els] at hn
 | .none,_,n,hn=>by simp [Nd.els] at hn
 | .clause _ _,_,n,hn=>by simp [Nd.els] at hn
 | .const _,_,n,hn=>by simp [Nd.els] at hn
 | .col _ _ _ _ _ _,_,n,hn=>by simp [Nd.els] at hn
 | .op _ _ _,_,n,hn=>by simp [Nd.els] at hn
 | .b8 _ _,_,n,hn=>by simp [Nd.els] at hn
 | .arms _ _ _ _ _,_,n,hn=>by simp [Nd.els] at hn
 | .within _ _ _ _,_,n,hn=>by simp [Nd.els] at hn
 | .comb _ _ _ _ _,_,n,hn=>by simp [Nd.els] at hn
 | .sel _ _ _ _ _,_,n,hn=>by simp [Nd.els] at hn
end Sp
def AF (T:List Sp.Tb) (nd:Nd):Prop:=∀ (lo hi:Nat) (tv ev iv:Value) (env:List (List Row)) (aC:List Sp.Lv) (w:World),oL w tv env iv->Eo env aC->bd T nd aC->Rp w nd lo hi ev->hi<=w.heap.size->
 Calls prog 194 #[ev,iv] w λr w'=>r = .returned (dF (Sp.val (Sp.rn T nd env)))/\Gr w w'
theorem Ld (T:List Sp.Tb) (v:Sv.Val):AF T (.const v):=by
 intro lo hi tv ev iv env aC w ha _ _ hr _
 obtain ⟨b,rfl,l1,l2,hA⟩:=hr
 obtain ⟨ib,rfl,_⟩:=ha.ptr
 exact CN hA
theorem Qm (T:List Sp.Tb) (t n:Sp.Bs) (a o sr:Nat) (ce:Int):AF T (.col t n a o sr ce):=by
 intro lo hi tv ev iv env aC w ha he hb hr hh
 obtain ⟨b,rfl,l1,l2,hA,_⟩:=hr
 obtain ⟨lv,x,e1,e2,h0,hc⟩:=hb
 obtain ⟨tk,e3,t1,t2⟩:=he.at_ o lv e1
 obtain ⟨r,e4,r1,r2⟩:=t2 sr x e2
 obtain ⟨ho,e3'⟩:=List.getElem?_eq_some_iff.1 e3
 obtain ⟨hs,e4'⟩:=List.getElem?_eq_some_iff.1 e4
 obtain ⟨cn,rfl⟩:=Int.eq_ofNat_of_zero_le h0
 simp only [Int.toNat_natCast] at hc
 subst e3' 
 subst e4'
 have hcl:cn<env[o][sr].length:=by omega
 have hval:Sp.val (Sp.rn T (.col t n a o sr (cn:Int)) env)=env[o][sr][cn]:=by
  simp [Sp.val,Sp.rn,ho,hs,hcl]
 rw [hval]
 obtain ⟨ib,rfl,hib,_⟩:=ha.ptr
 exact AD λW g=>Iz (ha.gr g) (hA.same g.size (g.below.block b hA.1)) ho he.len hs t1 hcl r1
theorem Tj {T:List Sp.Tb} {N:Nat} {wd:Sp.Bs} {a:Nat} {args:Nd} (hN:N<=90000) (hw:wf N (.op wd a args) .expr) (hX:∀ n∈args.els,AF T n):AF T (.op wd a args):=by
 intro lo hi tv ev iv env aC w ha he hb hr hh
 obtain ⟨_,Mf,hl,har⟩:=hw
 obtain ⟨b,sv,m1,m2,rfl,l1,l2,hS,hA,hI,hR⟩:=hr
 obtain ⟨e1,e2,e3⟩:=iT N args Mf
 have hbe:=AE args hb
 have hone:=IE har
 generalize hns:args.els=ns at *
 rw [e1] at hR
 unfold Sub at hS
 have hval:Sp.val (Sp.rn T (.op wd a args) env)=Sv.of wd (ns.map λn=>Sp.val (Sp.rn T n env)):=by
  simp only [Sp.rn]
  rw [e1,tO]
  rfl
 rw [hval]
 obtain ⟨blk,off,n,cp,rfl,hbl⟩:∃ blk off n c,sv = .slice (some ⟨blk,off,none⟩) n c/\blk<w.heap.size:=by
  cases ns with
  | nil=>simp at e2;omega
  | cons n0 ns'=>
   simp only [gZ,List.foldr_cons] at hR
   obtain ⟨blk,off,n,c,v,m1,m2,e,hl,_⟩:=hR
   exact ⟨blk,off,_,c,e,hl⟩
 obtain ⟨hn,xs,hel,hxs⟩:=Rp.els ns m1 m2 blk off n cp hR
 obtain ⟨ib,rfl,hib,_⟩:=ha.ptr
 have hlen:(ns.map λn=>Sp.val (Sp.rn T n env)).length=n:=by simp [hn]
 refine Lc (g:=blk) (off:=off) (cap:=cp) (by rw [hlen];exact hA) (by rw [hlen];omega) (by rw [hlen];omega) (λhc=>by have:=IF har hc;rw [hlen];omega) hbl (λi hi'=>?_)
 rw [hlen] at hi'
 have hin:i<ns.length:=by omega
 have hsp:ns=ns.take i++ns[i]::ns.drop (i+1):=by rw [<- lJ hin,List.take_append_drop]
 rw [hsp] at hel
 obtain ⟨p1,p2,x,ex,q1,q2,q3,q4,q5,q6,_⟩:=hel.upd
 rw [List.length_take,Nat.min_eq_left (by omega)] at ex
 obtain ⟨tt,pp,rfl⟩:=q6.Md (e3 _ (hU hin))
 refine ⟨tt,_,hxs i _ ex,λW hbW=>?_⟩
 have:=hX ns[i] (hU hin) p1 p2 tv _ _ env aC W (ha.bel hbW) he (hbe _ (hU hin)) (q6.s9 hbW (by omega) q5) (by have:=hbW.size;omega)
 simpa using this
def Gy (T:List Sp.Tb) (env:List (List Row)):List pB->Option Sv.Val
 | []=>none
 | x::l=>if Sv.isTrue (Sp.val (Sp.rn T x.2.1 env)) then some (Sp.val (Sp.rn T x.2.2.2 env)) else Gy T env l
theorem CP (T:List Sp.Tb) (env:List (List Row)):∀ ar:List pB,(Sp.rn T (cC ar) env).headD []=(Gy T env ar).toList
 | []=>rfl
 | x::l=>by
  have ih:=CP T env l
  simp only [cC,List.foldr_cons] at ih ⊢
  simp only [Sp.rn,Gy]
  split
  ·rfl
  ·exact ih
def Ns (T:List Sp.Tb) (env:List (List Row)):Nd->Sv.Val
 | .clause _ e=>Sp.val (Sp.rn T e env)
 | _=>Sv.null
theorem Le (T:List Sp.Tb) (env:List (List Row)) (ar:List pB) (els:Nd):Sp.val (Sp.rn T (.b8 (cC ar) els) env)=(Gy T env ar).getD (Ns T env els):=by
 simp only [Sp.rn]
 rw [CP]
 cases Gy T env ar with
 | some v=>rfl
 | none=>cases els <;> rfl
theorem Lf {T:List Sp.Tb} {env:List (List Row)} {ar:List pB} {j:Nat} (hj:j<ar.length):Gy T env (ar.drop j)=if Sv.isTrue (Sp.val (Sp.rn T ar[j].2.1 env)) then some (Sp.val (Sp.rn T ar[j].2.2.2 env)) else Gy T env (ar.drop (j+1)):=by
 rw [lJ hj];rfl
theorem wD.get {w:World} {g:Nat} : ∀ {ar:List pB} {vs:List (Value×Value)} {lo hi:Nat},wD w g ar vs lo hi->∀ j (hj:j<ar.length),∃ p1 p2 p3 v,vs[j]?=some v/\p3<=hi/\p2<=p3/\b9 v.1/\Rp w ar[j].2.1 p1 p2 v.1/\b9 v.2/\Rp w ar[j].2.2.2 p2 p3 v.2
 | [],_,_,_,_,j,hj=>by simp at hj
 | _::_, [],_,_,h,_,_=>h.elim
 | x::ar,v::vs,lo,hi,h,j,hj=>by
  obtain ⟨m1,m2,m3,hS,n1,r1,n2,r2,ht⟩:=h
  cases j with
  | zero=>exact ⟨m1,m2,m3,v,rfl,by have:=ht.le;omega,by omega,n1,r1,n2,r2⟩
  | succ j=>
   obtain ⟨p1,p2,p3,v',e,h1,h2,h3,h4,h5,h6⟩:=ht.get j (by simpa using hj)
   exact ⟨p1,p2,p3,v',by simpa using e,h1,h2,h3,by simpa using h4,h5,by simpa using h6⟩
theorem CQ {T:List Sp.Tb} {N b m1 m2 m3:Nat} {tv av ev iv:Value} {env:List (List Row)} {aC:List Sp.Lv} {w:World} {ar:List pB} {els:Nd} (hlen:ar.length<=90000) (hwx:∀ x∈ar,wf N x.2.1 .expr/\wf N x.2.2.2 .expr) (hX:∀ x∈ar,AF T x.2.1/\AF T x.2.2.2)
  (hY:els = .none\/∃ a e,els = .clause a e/\AF T e/\wf N e .expr) (ha:oL w tv env iv) (he:Eo env aC) (wF:∀ x∈ar,bd T x.2.1 aC/\bd T x.2.2.2 aC) (Yc:bd T els aC) (hm2:m2<=w.heap.size) (hm3:m3<=w.heap.size) (hA:At w b [av,ev]) (hr:Rp w (cC ar) m1 m2 av) (hr2:Rp w els m2 m3 ev) :
  Calls prog 234 #[.pointer (some ⟨b,0,none⟩),iv] w λr w'=>r = .returned (dF ((Gy T env ar).getD (Ns T env els)))/\Gr w w':=by
 apply fJ
 obtain ⟨ib,rfl,_⟩:=ha.ptr
 obtain ⟨va,vc,blk,off,vs,rfl,hAr,hce,hvl,hva⟩:=hr.arms'
 have b0:=hA.k0
 have b1:=hA.k1
 have hbw:=hA.1
 obtain ⟨n,hN⟩:∃ n,n=ar.length:=⟨_,rfl⟩
 have HN:=hid hN
 rw [<- hN] at b0 hlen
 obtain ⟨rv,Nu⟩:∃ z,z=(Gy T env ar).getD (Ns T env els):=⟨_,rfl⟩
 rw [<- Nu]
 have Yd:=hid Nu
 have HX:=hid hX
 have Vw:=hid hwx
 have HY:=hid hY
 have HA:=hid ha
 have HE:=hid he
 have Wb:=hid wF
 have Ye:=hid Yc
 have Vx:=hid hAr
 have Us:=hid hce
 have Ut:=hid hva
 have HR2:=hid hr2
 clear hX hY hwx ha he wF Yc hAr hce hvl hva hr2 hr hA hN Nu
 go_enter func234,ntmps234
 go_wp2_with fail
 go_loopw [12] (λi wr=>∃ j:Nat,j<=n/\i = .int .i64 (j:Nat)/\Hid (Gy T env ar=Gy T env (ar.drop j))/\Hid (Gr (w.alloc (.cells #[.int .i64 0, .int .i64 0, .string ⟨#[]⟩] 40)) wr)) (λi _=>n - (intOf i).toNat)
 case atStart=>exact ⟨0,eX _,rfl,rfl,Gr.refl _⟩
 case round=>
  obtain ⟨j,hj,rfl,O6,HG⟩:=hrel
  have HB:=hid (((Gr.refl w).alloc (.cells #[.int .i64 0, .int .i64 0, .string ⟨#[]⟩] 40)).trans HG.out).below
  have hwr:=HB.out.size
  have r0:=(HB.out.cell (p:=⟨b,0,none⟩) hbw).trans b0
  have r1:=(HB.out.cell (p:=⟨b,1,none⟩) hbw).trans b1
  by_cases hlt:j<n
  ·have hjz:j<ar.length:=by have:=HN.out;omega
   obtain ⟨rfl,hbl⟩:=Ut.out (by intro e;rw [e] at hjz;simp at hjz)
   obtain ⟨p1,p2,p3,v,ex,l1,l2,l3,l4,l5,l6⟩:=Vx.out.get j hjz
   obtain ⟨d0,d1,d2,d3⟩:=Us.out j _ _ (tC hjz) ex
   have e0:=(HB.out.cell (p:=⟨blk,_,none⟩) hbl).trans d0
   have e1:=(HB.out.cell (p:=⟨blk,_,none⟩) hbl).trans d1
   have e2:=(HB.out.cell (p:=⟨blk,_,none⟩) hbl).trans d2
   have e3:=(HB.out.cell (p:=⟨blk,_,none⟩) hbl).trans d3
   have OD:=hid (O6.out.trans (Lf hjz))
   have hm:=hU hjz
   have PY:=Vw.out _ hm
   obtain ⟨x1,x2⟩:=v
   obtain ⟨t1,y1,hy1⟩:=l4.Md PY.1
   obtain ⟨t2,y2,hy2⟩:=l6.Md PY.2
   simp only [] at hy1 hy2
   subst hy1 hy2
   simp only [] at e1 e3
   have Gf:=hid (λ(W:World) (g:RowKit.Below wr.heap.size wr W)=>(HX.out _ hm).1 p1 p2 tv _ _ env aC W (HA.out.bel (HB.out.trans (g.mono hwr))) HE.out (Wb.out _ hm).1 (l4.s9 (HB.out.trans (g.mono hwr)) (by omega) l3) (by have:=g.size;omega))
   have UO:=hid (λ(W:World) (g:RowKit.Below wr.heap.size wr W)=>(HX.out _ hm).2 p2 p3 tv _ _ env aC W (HA.out.bel (HB.out.trans (g.mono hwr))) HE.out (Wb.out _ hm).2 (l6.s9 (HB.out.trans (g.mono hwr)) (by omega) l5) (by have:=g.size;omega))
   clear d0 d1 d2 d3 PY l3 l4 l5 l6 ex hm
   generalize Sp.val (Sp.rn T ar[j].2.1 env)=wv at *
   generalize Sp.val (Sp.rn T ar[j].2.2.2 env)=tn at *
   generalize ar[j]=aj at *
   obtain ⟨wa,en,ta,tz⟩:=aj
   simp only [] at e0 e2
   have G1:=hid ((Gr.refl wr).alloc (.cells #[.int .i64 (wa:Nat), .iface t1 (.pointer (some ⟨y1,0,none⟩)), .int .i64 (ta:Nat), .iface t2 (.pointer (some ⟨y2,0,none⟩))] 407))
   have q1:(wr.alloc (.cells #[.int .i64 (wa:Nat), .iface t1 (.pointer (some ⟨y1,0,none⟩)), .int .i64 (ta:Nat), .iface t2 (.pointer (some ⟨y2,0,none⟩))] 407)).cell? ⟨wr.heap.size,0+1,none⟩=some (.iface t1 (.pointer (some ⟨y1,0,none⟩))):=by simp
   have q3:(wr.alloc (.cells #[.int .i64 (wa:Nat), .iface t1 (.pointer (some ⟨y1,0,none⟩)), .int .i64 (ta:Nat), .iface t2 (.pointer (some ⟨y2,0,none⟩))] 407)).cell? ⟨wr.heap.size,3,none⟩=some (.iface t2 (.pointer (some ⟨y2,0,none⟩))):=by simp
   have hq:wr.heap.size<(wr.alloc (.cells #[.int .i64 (wa:Nat), .iface t1 (.pointer (some ⟨y1,0,none⟩)), .int .i64 (ta:Nat), .iface t2 (.pointer (some ⟨y2,0,none⟩))] 407)).heap.size:=by simp
   have HH:=hid (sN (po:=0) (ia:=some ⟨ib,0,none⟩) hq q1 (Gf.out _ G1.out.below))
   go_wp2_with fail
   refine HH.out.mono ?_
   rintro e w2 ⟨rfl,g2⟩
   have G2:=hid (G1.out.trans g2)
   have s3:=(g2.cell (p:=⟨wr.heap.size,3,none⟩) hq).trans q3
   have hz2:wr.heap.size<w2.heap.size:=b6 hq g2.size
   clear g2 q1 q3 HH
   cases htr:Sv.isTrue wv
   ·have HC2:Hid (Gy T env ar=Gy T env (ar.drop (j+1))):=by have:=OD.out;rw [htr] at this;exact this
    have HB2:=hid (HG.out.trans G2.out)
    go_wp2_with fail
    go_roundw
    case rel=>exact ⟨j+1,by omega,by go_num,HC2,HB2⟩
    case measure=>simp [intOf];omega
   ·have HC2:Hid (rv=tn):=by have:=OD.out;rw [htr] at this;show _=_;rw [Yd.out,this];rfl
    have lY:=hid (UO.out w2 G2.out.below)
    go_wp2_with fail
    refine lY.out.mono ?_
    rintro e w3 ⟨rfl,g3⟩
    have G3:=hid ((HG.out.trans G2.out).trans g3)
    obtain ⟨lt,c0,c1,c2,f0,f1,f2⟩:=(B3.new w (.int .i64 0) (.int .i64 0) (.string ⟨#[]⟩) 40).gr G3.out
    have HB3:=hid (((Gr.refl w).alloc (.cells #[.int .i64 0, .int .i64 0, .string ⟨#[]⟩] 40)).trans G3.out).below
    clear g3
    generalize tn=tv' at *
    obtain ⟨ck,cn,cs⟩:=tv'
    rw [show dF ⟨ck,cn,cs⟩ = .agg #[.int .i64 ck, .int .i64 cn, .string cs] from rfl]
    go_wp2_with fail
    exact cV (v := .agg #[.int .i64 ck, .int .i64 cn, .string cs]) (by simp [results,results234,go_sem,c0,c1,c2]) rfl ⟨by rw [HC2.out],((HB3.out.setCell (aF _) _).setCell (aF _) _).setCell (aF _) _⟩
  ·have hnone:Gy T env ar=none:=by
    rw [O6.out,Bn (by have:=HN.out;omega)];rfl
   have HC2:Hid (rv=Ns T env els):=by show _=_;rw [Yd.out,hnone];rfl
   rcases HY.out with rfl | ⟨ea,en,rfl,hxe,hwe⟩
   ·have HC2:Hid (rv=Sv.null):=HC2
    have e1:ev = .pointer none:=HR2.out.2
    subst e1
    go_wp2_with fail
    refine (mO _).mono ?_
    rintro e w3 ⟨rfl,g3⟩
    have G3:=hid (HG.out.trans g3)
    obtain ⟨lt,c0,c1,c2,f0,f1,f2⟩:=(B3.new w (.int .i64 0) (.int .i64 0) (.string ⟨#[]⟩) 40).gr G3.out
    have HB3:=hid (((Gr.refl w).alloc (.cells #[.int .i64 0, .int .i64 0, .string ⟨#[]⟩] 40)).trans G3.out).below
    clear g3
    generalize Sv.null=tv' at *
    obtain ⟨ck,cn,cs⟩:=tv'
    rw [show dF ⟨ck,cn,cs⟩ = .agg #[.int .i64 ck, .int .i64 cn, .string cs] from rfl]
    go_wp2_with fail
    exact cV (v := .agg #[.int .i64 ck, .int .i64 cn, .string cs]) (by simp [results,results234,go_sem,c0,c1,c2]) rfl ⟨by rw [HC2.out],((HB3.out.setCell (aF _) _).setCell (aF _) _).setCell (aF _) _⟩
   ·obtain ⟨b',v,p1,p2,rfl,hb1,hb2,hS,hAt,Ej,hre⟩:=HR2.out
    unfold Sub at hS
    have MX:=(HB.out.cell (p:=⟨b',1,none⟩) hAt.1).trans hAt.k1
    have H8:=hAt.1
    have HC2:Hid (rv=Sp.val (Sp.rn T en env)):=HC2
    have Z0:=hid (hxe p1 p2 tv v _ env aC wr (HA.out.bel HB.out) HE.out Ye.out (hre.s9 HB.out (by omega) Ej) (by omega))
    obtain ⟨t1,y1,rfl⟩:=hre.Md hwe
    clear hAt hre Ej hxe
    go_wp2_with fail
    refine Z0.out.mono ?_
    rintro e w3 ⟨rfl,g3⟩
    have G3:=hid (HG.out.trans g3)
    obtain ⟨lt,c0,c1,c2,f0,f1,f2⟩:=(B3.new w (.int .i64 0) (.int .i64 0) (.string ⟨#[]⟩) 40).gr G3.out
    have HB3:=hid (((Gr.refl w).alloc (.cells #[.int .i64 0, .int .i64 0, .string ⟨#[]⟩] 40)).trans G3.out).below
    clear g3
    generalize Sp.val (Sp.rn T en env)=tv' at *
    obtain ⟨ck,cn,cs⟩:=tv'
    rw [show dF ⟨ck,cn,cs⟩ = .agg #[.int .i64 ck, .int .i64 cn, .string cs] from rfl]
    go_wp2_with fail
    exact cV (v := .agg #[.int .i64 ck, .int .i64 cn, .string cs]) (by simp [results,results234,go_sem,c0,c1,c2]) rfl ⟨by rw [HC2.out],((HB3.out.setCell (aF _) _).setCell (aF _) _).setCell (aF _) _⟩
theorem Nv {T:List Sp.Tb} {N:Nat} {ar:List pB} {els:Nd} (hlen:ar.length<=90000) (hwx:∀ x∈ar,wf N x.2.1 .expr/\wf N x.2.2.2 .expr) (hX:∀ x∈ar,AF T x.2.1/\AF T x.2.2.2) (hY:els = .none\/∃ a e,els = .clause a e/\AF T e/\wf N e .expr)
  (wF:∀ aC,bd T (cC ar) aC->∀ x∈ar,bd T x.2.1 aC/\bd T x.2.2.2 aC):AF T (.b8 (cC ar) els):=by
 intro lo hi tv ev iv env aC w ha he hb hr hh
 obtain ⟨b,av,ev',m1,m2,m3,rfl,l1,l2,hm,_,hA,hI,hR,hn,hR2⟩:=hr
 rw [Le]
 have hp:=ha.ptr
 obtain ⟨ib,rfl,_⟩:=hp
 exact E5 λW g=>CQ hlen hwx hX hY (ha.gr g) he (wF aC hb.1) hb.2 (by have:=g.size;omega) (by have:=g.size;omega) (hA.same g.size (g.below.block b hA.1)) (hR.bel g.below (by omega) (λblk off n c e=>by have:=hI blk off n c e;omega)) (hR2.s9 g.below (by omega) hn)
theorem CR {T:List Sp.Tb} {aC:List Sp.Lv} : ∀ {ar:List pB},bd T (cC ar) aC->∀ x∈ar,bd T x.2.1 aC/\bd T x.2.2.2 aC
 | [],_,x,hx=>by simp at hx
 | y::l,h,x,hx=>by
  obtain ⟨h1,h2,h3⟩:=h
  rcases List.mem_cons.1 hx with rfl | hx
  ·exact ⟨h1,h2⟩
  ·exact CR h3 x hx
namespace Sp
def plain:Nd->Bool
 | .cons h t=>plain h&&plain t
 | .clause _ e=>plain e
 | .op _ _ a=>plain a
 | .b8 a e=>plain a&&plain e
 | .arms _ w _ t r=>plain w&&plain t&&plain r
 | .within _ _ _ _=>false
 | .comb _ _ _ p q=>plain p&&plain q
 | .sel _ _ e _ w=>plain e&&plain w
 | _=>true
end Sp
theorem Lg (T:List Sp.Tb) (N:Nat) (hN:N<=90000):∀ nd:Nd,plain nd=true->(wf N nd .expr->AF T nd)/\(wf N nd .list->∀ n∈nd.els,AF T n)/\(wf N nd .arms->∀ x∈nd.wX,AF T x.2.1/\AF T x.2.2.2)/\(∀ a e,nd = .clause a e->wf N e .expr->AF T e):=by
 intro nd
 induction nd with
 | nil=>exact λ_=>⟨λh=>by simp [wf] at h,λ_ n hn=>by simp [Nd.els] at hn,λ_ x hx=>by simp [Nd.wX] at hx,λ_ _ e=>by cases e⟩
 | none=>exact λ_=>⟨λh=>by simp [wf] at h,λh=>by simp [wf] at h,λh=>by simp [wf] at h,λ_ _ e=>by cases e⟩
 | cons h t ih1 ih2=>
  intro hp
  simp only [plain,Bool.and_eq_true] at hp
  refine ⟨λh=>by simp [wf] at h,λhw n hn=>?_,λh=>by simp [wf] at h,λ_ _ e=>by cases e⟩
  obtain ⟨_,h1,h2⟩:=hw
  simp only [Nd.els,List.mem_cons] at hn
  rcases hn with rfl | hn
  ·exact (ih1 hp.1).1 h1
  ·exact (ih2 hp.2).2.1 h2 n hn
 | clause a e ih=>exact λhp=>⟨λh=>by simp [wf] at h,λh=>by simp [wf] at h,λh=>by simp [wf] at h,λa' e' he hw=>by injection he with h1 h2;subst h2;exact (ih hp).1 hw⟩
 | const v=>exact λ_=>⟨λ_=>Ld T v,λh=>by simp [wf] at h,λh=>by simp [wf] at h,λ_ _ e=>by cases e⟩
 | col t n a o sr ce=>exact λ_=>⟨λ_=>Qm T t n a o sr ce,λh=>by simp [wf] at h,λh=>by simp [wf] at h,λ_ _ e=>by cases e⟩
 | op wd a args ih=>exact λhp=>⟨λhw=>Tj hN hw ((ih hp).2.1 hw.2.1),λh=>by simp [wf] at h,λh=>by simp [wf] at h,λ_ _ e=>by cases e⟩
 | b8 arms els ih1 ih2=>
  intro hp
  simp only [plain,Bool.and_eq_true] at hp
  refine ⟨λhw=>?_,λh=>by simp [wf] at h,λh=>by simp [wf] at h,λ_ _ e=>by cases e⟩
  obtain ⟨_,Mf,hl,hwe⟩:=hw
  obtain ⟨e1,e2,e3⟩:=vC N arms Mf
  have hX:=(ih1 hp.1).2.2.1 Mf
  rw [e1]
  refine Nv (N:=N) (by omega) e3 hX ?_ (λ_ h=>CR h)
  cases els with
  | none=>exact .inl rfl
  | clause a e=>exact .inr ⟨a,e,rfl,(ih2 hp.2).2.2.2 a e rfl hwe.2,hwe.2⟩
  | _=>simp [wf] at hwe
 | arms wa e ta t r ih1 ih2 ih3=>
  intro hp
  simp only [plain,Bool.and_eq_true] at hp
  refine ⟨λh=>by simp [wf] at h,λh=>by simp [wf] at h,λhw x hx=>?_,λ_ _ e=>by cases e⟩
  obtain ⟨_,h1,h2,h3⟩:=hw
  simp only [Nd.wX,List.mem_cons] at hx
  rcases hx with rfl | hx
  ·exact ⟨(ih1 hp.1.1).1 h1,(ih2 hp.1.2).1 h2⟩
  ·exact (ih3 hp.2).2.2.1 h3 x hx
 | within wd a args q ih1 ih2=>exact λhp=>by simp [plain] at hp
 | comb wd a all p q ih1 ih2=>exact λ_=>⟨λh=>by simp [wf] at h,λh=>by simp [wf] at h,λh=>by simp [wf] at h,λ_ _ e=>by cases e⟩
 | sel di st ex src wh ih1 ih2=>exact λ_=>⟨λh=>by simp [wf] at h,λh=>by simp [wf] at h,λh=>by simp [wf] at h,λ_ _ e=>by cases e⟩
theorem tP (T:List Sp.Tb) (N:Nat) (hN:N<=90000) (nd:Nd) (hp:plain nd=true):(wf N nd .expr->AF T nd)/\(wf N nd .list->∀ n∈nd.els,AF T n):=⟨(Lg T N hN nd hp).1,(Lg T N hN nd hp).2.1⟩
def Wc (T:List Sp.Tb) (wh:Nd):Prop:=∀ (lo hi:Nat) (tv wv iv:Value) (env:List (List Row)) (aC:List Sp.Lv) (w:World),oL w tv env iv->Eo env aC->bd T wh aC->Rp w wh lo hi wv->hi<=w.heap.size->
 Calls prog 150 #[wv,iv] w λr w'=>r = .returned (.bool (holds T wh env))/\Gr w w'
theorem Nw (T:List Sp.Tb):Wc T .none:=by
 intro lo hi tv wv iv env aC w ha _ _ hr _
 obtain ⟨_,rfl⟩:=hr
 obtain ⟨ib,rfl,_⟩:=ha.ptr
 exact CO
theorem IG {T:List Sp.Tb} {N a:Nat} {e:Nd} (hw:wf N e .expr) (hX:AF T e):Wc T (.clause a e):=by
 intro lo hi tv wv iv env aC w ha he hb hr hh
 obtain ⟨b,v,m1,m2,rfl,l1,l2,hS,hA,hn,hR⟩:=hr
 obtain ⟨ib,rfl,_⟩:=ha.ptr
 unfold Sub at hS
 obtain ⟨t,q,rfl⟩:=hR.Md hw
 have c1:=hA.k1
 exact sN (po:=0) hA.1 (by rw [Nat.zero_add];exact c1) (hX m1 m2 tv _ _ env aC w ha he hb hR (by omega))
theorem AG (T:List Sp.Tb) (N:Nat) (hN:N<=90000) (wh:Nd) (hp:plain wh=true) (hw:wf N wh .cl):Wc T wh:=by
 cases wh with
 | none=>exact Nw T
 | clause a e=>exact IG hw.2 ((tP T N hN e hp).1 hw.2)
 | _=>simp [wf] at hw
end Go.Proofs.YtgnncnhkgmhngaaGreatDoor
