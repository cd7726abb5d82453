import Derived.Test.YtgnncnhkgmhngaaGreatDoorJ39
set_option maxHeartbeats 4000000
set_option maxRecDepth 100000
namespace Go.Proofs.YtgnncnhkgmhngaaGreatDoor
open Sp
open Go.RowKit Go.Sort
theorem Ce {b:Nat} {ia:Option Addr} {c:Sv.Val} {w:World} (hA:At w b [.int .i64 c.k, .int .i64 c.n, .string c.s]) :
  Calls Tryz.prog 194 #[.iface 358 (.pointer (some ⟨b,0,none⟩)), .pointer ia] w λe w'=>e = .returned (dI c)/\Gr w w':=by
 have b0:=hA.k0
 have b1:=hA.k1
 have b2:=hA.k2
 have hbw:=hA.1
 obtain ⟨ck,cn,cs⟩:=c
 have t0:=MO
 have G:=(Gr.refl w).alloc (.cells #[.int .i64 0, .int .i64 0, .string ⟨#[]⟩] 40)
 have d0:=(G.cell (p:=⟨b,0,none⟩) hbw).trans b0
 have d1:=(G.cell (p:=⟨b,1,none⟩) hbw).trans b1
 have d2:=(G.cell (p:=⟨b,2,none⟩) hbw).trans b2
 clear hA G
 go_enter Tryz.func194,Tryz.ntmps194
 go_wp2_with fail
 exact cL (v := .agg #[.int .i64 ck, .int .i64 cn, .string cs]) (by simp [results,Tryz.results194,go_sem]) rfl ⟨rfl,(Gr.refl w).alloc _⟩
theorem Ab {b:Nat} {ia:Option Addr} {c:Sv.Val} {w:World} (hC:∀ W,Gr w W->Calls Tryz.prog 232 #[.pointer ia, .pointer (some ⟨b,0,none⟩)] W λe W'=>e = .returned (dI c)/\Gr W W') :
  Calls Tryz.prog 194 #[.iface 361 (.pointer (some ⟨b,0,none⟩)), .pointer ia] w λe w'=>e = .returned (dI c)/\Gr w w':=by
 apply gP
 have GA:=hid ((Gr.refl w).alloc (.cells #[.int .i64 0, .int .i64 0, .string ⟨#[]⟩] 40))
 have HC:=hid (hC _ GA.out)
 obtain ⟨ck,cn,cs⟩:=c
 have t0:=MP
 have t1:=MQ
 clear hC
 go_enter Tryz.func194,Tryz.ntmps194
 go_wp2_with fail
 refine HC.out.mono ?_
 rintro e w1 ⟨rfl,g1⟩
 have HB:=hid ((B3.new w (.int .i64 0) (.int .i64 0) (.string ⟨#[]⟩) 40).gr g1)
 have HG:=hid (GA.out.trans g1)
 obtain ⟨lt,c0,c1,c2,f0,f1,f2⟩:=HB.out
 show _
 rw [show dI ⟨ck,cn,cs⟩ = .agg #[.int .i64 ck, .int .i64 cn, .string cs] from rfl]
 clear g1
 go_wp2_with fail
 exact cL (v := .agg #[.int .i64 ck, .int .i64 cn, .string cs]) (by simp [results,Tryz.results194,go_sem,c0,c1,c2]) rfl ⟨rfl,((HG.out.below.setCell (aF _) _).setCell (aF _) _).setCell (aF _) _⟩
theorem Oq {b:Nat} {ia:Option Addr} {c:Sv.Val} {w:World} (hC:∀ W,Gr w W->Calls Tryz.prog 234 #[.pointer (some ⟨b,0,none⟩), .pointer ia] W λe W'=>e = .returned (dI c)/\Gr W W') :
  Calls Tryz.prog 194 #[.iface 365 (.pointer (some ⟨b,0,none⟩)), .pointer ia] w λe w'=>e = .returned (dI c)/\Gr w w':=by
 apply gP
 have GA:=hid ((Gr.refl w).alloc (.cells #[.int .i64 0, .int .i64 0, .string ⟨#[]⟩] 40))
 have HC:=hid (hC _ GA.out)
 obtain ⟨ck,cn,cs⟩:=c
 have t0:=MU
 have t1:=MV
 have t2:=MW
 have t3:=MX
 clear hC
 go_enter Tryz.func194,Tryz.ntmps194
 go_wp2_with fail
 refine HC.out.mono ?_
 rintro e w1 ⟨rfl,g1⟩
 have HB:=hid ((B3.new w (.int .i64 0) (.int .i64 0) (.string ⟨#[]⟩) 40).gr g1)
 have HG:=hid (GA.out.trans g1)
 obtain ⟨lt,c0,c1,c2,f0,f1,f2⟩:=HB.out
 show _
 rw [show dI ⟨ck,cn,cs⟩ = .agg #[.int .i64 ck, .int .i64 cn, .string cs] from rfl]
 clear g1
 go_wp2_with fail
 exact cL (v := .agg #[.int .i64 ck, .int .i64 cn, .string cs]) (by simp [results,Tryz.results194,go_sem,c0,c1,c2]) rfl ⟨rfl,((HG.out.below.setCell (aF _) _).setCell (aF _) _).setCell (aF _) _⟩
theorem Cf {pb po:Nat} {t:TypeId} {p:Value} {ia:Option Addr} {c:Sv.Val} {w:World} (_hp:pb<w.heap.size) (c1:w.cell? ⟨pb,po+1,none⟩=some (.iface t p))
  (hC:Calls Tryz.prog 194 #[.iface t p, .pointer ia] w λe W'=>e = .returned (dI c)/\Gr w W') :
  Calls Tryz.prog 150 #[.pointer (some ⟨pb,po,none⟩), .pointer ia] w λe w'=>e = .returned (.bool (Sv.isTrue c))/\Gr w w':=by
 have HC:=hid hC
 have HT:=hid (λW=>oC c W)
 clear hC
 generalize Sv.isTrue c=tr at *
 obtain ⟨ck,cn,cs⟩:=c
 go_enter Tryz.func150,Tryz.ntmps150
 go_wp2_with fail
 refine HC.out.mono ?_
 rintro e w1 ⟨rfl,g1⟩
 have G1:=hid g1
 clear g1 HC
 go_wp2_with fail
 refine (HT.out _).mono ?_
 rintro e w2 ⟨rfl,g2⟩
 have G2:=hid (G1.out.trans g2)
 clear g2
 go_wp2_with fail
 go_ret
 exact ⟨rfl,G2.out⟩
theorem Cg {ia:Option Addr} {w:World} :
  Calls Tryz.prog 150 #[.pointer none, .pointer ia] w λe w'=>e = .returned (.bool true)/\Gr w w':=by
 go_enter Tryz.func150,Tryz.ntmps150
 go_wp2_with fail
 go_ret
 exact ⟨rfl,Gr.refl w⟩
theorem Fs:∀ (l:List Sv.Val) (i d:Nat) (h:i<l.length) (_:d<3),(oS l)[i*3+d]?=([.int .i64 l[i].k, .int .i64 l[i].n, .string l[i].s]:List Value)[d]?
 | [],i,d,h,_=>by simp at h
 | p::l,0,d,_,hd=>by
  simp only [oS,List.flatMap_cons,List.getElem_cons_zero,Nat.zero_mul,Nat.zero_add]
  rw [List.getElem?_append_left (by simp;omega)]
 | p::l,i+1,d,h,hd=>by
  have ih:=Fs l i d (by simpa using h) hd
  simp only [oS,List.flatMap_cons,List.getElem_cons_succ] at ih ⊢
  rw [List.getElem?_append_right (by simp;omega),<- ih]
  congr 1
  simp;omega
theorem uX.hv {base:Nat} {w:World} {v:Value} {vs:List Sv.Val} (h:uX base w v vs) (hne:vs ≠ []):∃ b c,v = .slice (some ⟨b,0,none⟩) vs.length c/\base<=b/\Hv w b 0 vs:=by
 have hb:=aB h
 obtain ⟨hl,h | ⟨g',cap,cur,hv,h0,hc,r1,r2,r3,r4⟩⟩:=h
 ·exact absurd (Av h.2) hne
 ·subst hv
  have key:∀ j d,(hj:j<vs.length)->d<3->w.cell? ⟨g',0+j*3+d,none⟩=([.int .i64 vs[j].k, .int .i64 vs[j].n, .string vs[j].s]:List Value)[d]?:=λj d hj hd=>by
   have e:=Fs vs j d hj hd
   rw [<- r4,List.getElem?_take_of_lt (by omega)] at e
   simp [World.cell?,hc]
   simpa using e
  exact ⟨g',cap,rfl,h0,(hb g' rfl).2,λj hj=>by simpa using key j 0 hj (by omega),λj hj=>by simpa using key j 1 hj (by omega),λj hj=>by simpa using key j 2 hj (by omega)⟩
theorem xT {w:World} {q b o:Nat} {x y z v:Value} (h:b≠q) (hc:w.cell? ⟨b,o,none⟩=some v):(((w.setCell ⟨q,0,none⟩ x).setCell ⟨q,1,none⟩ y).setCell ⟨q,2,none⟩ z).cell? ⟨b,o,none⟩=some v:=
 (fB (w:=w) (a:=⟨b,o,none⟩) (((dQ _ _ _ _ h).trans (dQ _ _ _ _ h)).trans (dQ _ _ _ _ h))).trans hc
theorem J1 {b a g off cap:Nat} {ia:Option Addr} {wd:Sp.Bs} {vals:List Sv.Val} {w:World} (hA:At w b [.string (bz wd), .int .i64 (a:Int), .slice (some ⟨g,off,none⟩) vals.length cap]) (hm:vals.length<=100000) (h1:1<=vals.length) (h2:Sv.hZ wd=true->2<=vals.length) (hg:g<w.heap.size)
  (hE:∀ i,(hi:i<vals.length)->∃ t p,w.cell? ⟨g,off+i,none⟩=some (.iface t p)/\∀ W,RowKit.Below w.heap.size w W->Calls Tryz.prog 194 #[.iface t p, .pointer ia] W λe W'=>e = .returned (dI vals[i])/\Gr W W') :
  Calls Tryz.prog 194 #[.iface 363 (.pointer (some ⟨b,0,none⟩)), .pointer ia] w λe w'=>e = .returned (dI (Sv.of wd vals))/\Gr w w':=by
 apply gP
 have b0:=hA.k0
 have b2:=hA.k2
 have hbw:=hA.1
 have GA:=hid ((Gr.refl w).alloc (.cells #[.int .i64 0, .int .i64 0, .string ⟨#[]⟩] 40) |>.drew)
 have QY:=GA.out.size
 have d0:=(((Gr.refl w).alloc (.cells #[.int .i64 0, .int .i64 0, .string ⟨#[]⟩] 40)).cell (p:=⟨b,0,none⟩) hbw).trans b0
 have d2:=(((Gr.refl w).alloc (.cells #[.int .i64 0, .int .i64 0, .string ⟨#[]⟩] 40)).cell (p:=⟨b,2,none⟩) hbw).trans b2
 have HR:Hid (∀ p1 p2,p1=(w.alloc (.cells #[.int .i64 0, .int .i64 0, .string ⟨#[]⟩] 40)).drew.heap.size->p2=(w.alloc (.cells #[.int .i64 0, .int .i64 0, .string ⟨#[]⟩] 40)).drew.heap.size+1->Calls Tryz.prog 188 #[.func (.func 229) #[] #[.pointer (some ⟨p1,0,none⟩), .pointer (some ⟨p2,0,none⟩)]] (boxes (w.alloc (.cells #[.int .i64 0, .int .i64 0, .string ⟨#[]⟩] 40)).drew (.slice (some ⟨g,off,none⟩) vals.length cap) (.pointer ia)) λe W'=>∃ v,e = .returned v/\uX (w.alloc (.cells #[.int .i64 0, .int .i64 0, .string ⟨#[]⟩] 40)).drew.heap.size W' v vals/\RowKit.Below (w.alloc (.cells #[.int .i64 0, .int .i64 0, .string ⟨#[]⟩] 40)).drew.heap.size (w.alloc (.cells #[.int .i64 0, .int .i64 0, .string ⟨#[]⟩] 40)).drew W'):=by
  rintro p1 p2 rfl rfl
  exact rB hm (bY hg QY) (λi hi=>by
   obtain ⟨t,p,e1,e2⟩:=hE i hi
   exact ⟨t,p,(GA.out.cell (p:=⟨g,off+i,none⟩) hg).trans e1,λW hb=>e2 W (GA.out.below.trans (hb.mono QY))⟩)
 have SL:=hid (λ(bb cc:Nat) (W:World) (hv:Hv W bb 0 vals)=>NA bb 0 vals.length cc (bz wd) vals W rfl h1 (by rw [dJ];exact h2) hm hv)
 simp only [dJ] at SL
 have YK:Hid (vals ≠ []):=λe=>by rw [e] at h1;simp at h1
 generalize Sv.of wd vals=val at *
 obtain ⟨vk,vn,vs⟩:=val
 have t0:=MR
 have t1:=MS
 have t2:=MT
 have hB0:=hid ((B3.new w (.int .i64 0) (.int .i64 0) (.string ⟨#[]⟩) 40).gr (Gr.refl _).drew)
 have hbb:b<(w.alloc (.cells #[.int .i64 0, .int .i64 0, .string ⟨#[]⟩] 40)).heap.size:=by simp;omega
 clear hA hE h2
 go_enter Tryz.func194,Tryz.ntmps194
 go_wp2_with fail
 have hbq:b≠w.heap.size:=by omega
 have d0' : (w.alloc (.cells #[.int .i64 0, .int .i64 0, .string ⟨#[]⟩] 40)).drew.cell? ⟨b,0,none⟩=some (.string (bz wd)):=d0
 have Vr : (w.alloc (.cells #[.int .i64 0, .int .i64 0, .string ⟨#[]⟩] 40)).drew.cell? ⟨b,2,none⟩=some (.slice (some ⟨g,off,none⟩) vals.length cap):=d2
 go_region_held3 (λw'=>w'.cell? ⟨b,0,none⟩=some (.string (bz wd))/\w'.cell? ⟨b,2,none⟩=some (.slice (some ⟨g,off,none⟩) vals.length cap)) (first | (with_reducible exact ⟨d0',Vr⟩) | (with_reducible exact ⟨d0,d2⟩) | (with_reducible exact ⟨f0,f2⟩) | (with_reducible exact ⟨g0,g2'⟩) | (with_reducible exact ⟨k0,k2⟩) | (with_reducible exact ⟨xT hbq k0,xT hbq k2⟩) | go_keep) (first | (go_at_call 189;refine (oT _ _ _ _ _).mono ?_;rintro e1 w2 ⟨rfl,hw2⟩;have HW2:=hid hw2;have f0:w2.cell? ⟨b,0,none⟩=some (.string (bz wd)):=(by rw [HW2.out];exact ((p7 _ _ _).cell (p:=⟨b,0,none⟩) hbb).trans d0);have f2:w2.cell? ⟨b,2,none⟩=some (.slice (some ⟨g,off,none⟩) vals.length cap):=(by rw [HW2.out];exact ((p7 _ _ _).cell (p:=⟨b,2,none⟩) hbb).trans d2);clear hw2) | (have _hx:=HW2;go_at_call 188;rw [HW2.out];refine (HR.out _ _ (by simp) (by simp)).mono ?_;rintro e2 w3 ⟨v3,rfl,o3,Ib⟩;obtain ⟨rb,rc,rfl,hrb,hv3⟩:=o3.hv YK.out;have g0:=(Ib.cell (p:=⟨b,0,none⟩) hbb).trans d0;have g2':=(Ib.cell (p:=⟨b,2,none⟩) hbb).trans d2;have hb3:b<w3.heap.size:=bY hbb Ib.size;have LV:=hid Ib;have QZ:=hid hv3;clear Ib hv3 o3) | (have _hx:=QZ;go_at_call 233;refine (SL.out rb rc w3 QZ.out).mono ?_;rintro e3 w4 ⟨rfl,g4⟩;have k0:=(g4.cell (p:=⟨b,0,none⟩) hb3).trans g0;have k2:=(g4.cell (p:=⟨b,2,none⟩) hb3).trans g2';have hB4:=(hB0.out.same LV.out.size (LV.out.block w.heap.size (by simp))).gr g4;obtain ⟨q0,q1,q2,q3,q4,q5,q6⟩:=hB4;have LQ:=hid g4;clear g4))
 have Uq:Hid (RowKit.Below w.heap.size w w4):=((GA.out.below.trans (LV.out.mono GA.out.size))).trans (LQ.out.below.mono (cE GA.out.size LV.out.size))
 go_wp2_with fail
 exact cL (v := .agg #[.int .i64 vk, .int .i64 vn, .string vs]) (by simp [results,Tryz.results194,go_sem,q1,q2,q3]) rfl ⟨rfl,((Uq.out.setCell (aF _) _).setCell (aF _) _).setCell (aF _) _⟩
theorem BW.bel {w w' : World} {tk:List (List Sv.Val)} {v:Value} (h:BW w tk v) (g:RowKit.Below w.heap.size w w'):BW w' tk v:=by
 obtain ⟨a,c,e,h⟩:=h
 refine ⟨a,c,e,λhne=>?_⟩
 obtain ⟨rb,ro,e1,hr⟩:=h hne
 exact ⟨rb,ro,e1,(hr.below g).up g.size⟩
theorem pW.bel {w w' : World} {tv:Value} (g:RowKit.Below w.heap.size w w'):∀ {env:List (List (List Sv.Val))} {v:Value},pW w tv env v->pW w' tv env v
 | [],_,⟨b,e,hb,c0⟩=>⟨b,e,bY hb g.size,(g.cell (p:=⟨b,0,none⟩) hb).trans c0⟩
 | _::_,_,⟨b,sv,ov,e,hb,c0,c1,c2,ht,hr⟩=>⟨b,sv,ov,e,bY hb g.size,(g.cell (p:=⟨b,0,none⟩) hb).trans c0,(g.cell (p:=⟨b,1,none⟩) hb).trans c1,(g.cell (p:=⟨b,2,none⟩) hb).trans c2,ht.bel g,hr.bel g⟩
theorem Rp.bel {w w' : World} {nd:Nd} {lo hi:Nat} {x:Value} (h:Rp w nd lo hi x) (g:RowKit.Below w.heap.size w w') (hh:hi<=w.heap.size) (hx:∀ blk off n c,x = .slice (some ⟨blk,off,none⟩) n c->blk<w.heap.size):Rp w' nd lo hi x:=
 h.frame g.size _ _ _ _ (λk _ h2=>g.block k (by omega)) (λblk off n c e=>g.block blk (hx blk off n c e))
theorem Rp.Ac {w w' : World} {nd:Nd} {lo hi:Nat} {x:Value} (h:Rp w nd lo hi x) (g:RowKit.Below w.heap.size w w') (hh:hi<=w.heap.size) (hx:cH x):Rp w' nd lo hi x:=h.bel g hh λ_ _ _ _ e=>absurd e (hx _ _ _)
namespace Sp
structure Eo (env:List (List Row)) (aE:List Lv):Prop where
 len:env.length<=100000
 at_:∀ (o:Nat) (lv:Lv),aE[o]?=some lv->∃ tk:List Row,env[o]?=some tk/\tk.length<=100000/\∀ (i:Nat) (x:Bs×Tb),lv[i]?=some x->∃ r:Row,tk[i]?=some r/\r.length<=100000/\x.2.cols.length<=r.length
theorem sS (T:List Tb) (env:List (List Row)):∀ ns:List Nd,rn T (gG ns .nil) env = [ns.map λn=>val (rn T n env)]
 | []=>rfl
 | n::ns=>by
  have ih:=sS T env ns
  simp only [gG,List.foldr_cons] at ih ⊢
  simp only [rn,ih,List.headD_cons,List.map_cons]
theorem Hc {w:Bs} {n:Nat} (h:arity w n=true):1<=n:=by
 unfold arity at h
 split at h
 ·simp at h;omega
 ·split at h
  ·simp at h;omega
  ·split at h
   ·simpa using h
   ·simp at h;omega
theorem Hd {w:Bs} {n:Nat} (h:arity w n=true) (hc:Sv.hZ w=true):2<=n:=by
 unfold Sv.hZ Sv.nY at hc
 simp only [Bool.not_eq_true',Bool.or_eq_false_iff] at hc
 obtain ⟨⟨⟨⟨⟨h1,h2⟩,h3⟩,h4⟩,h5⟩,h6⟩:=hc
 have h7:(w == [45])=false:=by
  by_cases hh:(w == [45])=true
  ·simp [hh] at h6
  ·simpa using hh
 unfold arity at h
 simp only [h3,h4,h5,h7,Bool.or_false,Bool.false_eq_true,if_false] at h
 simp at h;omega
theorem Ad {T:List Tb} {aE:List Lv} : ∀ (nd:Nd),bd T nd aE->∀ n∈nd.els,bd T n aE
 | .cons h t,hw,n,hn=>by
  simp only [Nd.els,List.mem_cons] at hn
  rcases hn with rfl | hn
  ·exact hw.1
  ·exact Ad t hw.2 n hn
 | .nil,_,n,hn=>by simp [Nd.els] at hn
 | .none,_,n,hn=>by simp [Nd.els] at hn
 | .clause _ _,_,n,hn=>by simp [Nd.els] at hn
 | .const _,_,n,hn=>by simp [Nd.els] at hn
 | .col _ _ _ _ _ _,_,n,hn=>by simp [Nd.els] at hn
 | .op _ _ _,_,n,hn=>by simp [Nd.els] at hn
 | .dW _ _,_,n,hn=>by simp [Nd.els] at hn
 | .arms _ _ _ _ _,_,n,hn=>by simp [Nd.els] at hn
 | .within _ _ _ _,_,n,hn=>by simp [Nd.els] at hn
 | .comb _ _ _ _ _,_,n,hn=>by simp [Nd.els] at hn
 | .sel _ _ _ _ _,_,n,hn=>by simp [Nd.els] at hn
end Sp
def Ot (T:List Sp.Tb) (nd:Nd):Prop:=∀ (lo hi:Nat) (tv ev iv:Value) (env:List (List Row)) (aE:List Sp.Lv) (w:World),pW w tv env iv->Eo env aE->bd T nd aE->Rp w nd lo hi ev->hi<=w.heap.size->
 Calls Tryz.prog 194 #[ev,iv] w λr w'=>r = .returned (dI (Sp.val (Sp.rn T nd env)))/\Gr w w'
theorem J2 (T:List Sp.Tb) (v:Sv.Val):Ot T (.const v):=by
 intro lo hi tv ev iv env aE w ha _ _ hr _
 obtain ⟨b,rfl,l1,l2,hA⟩:=hr
 obtain ⟨ib,rfl,_⟩:=ha.ptr
 exact Ce hA
theorem Ov (T:List Sp.Tb) (t n:Sp.Bs) (a o sr:Nat) (ce:Int):Ot T (.col t n a o sr ce):=by
 intro lo hi tv ev iv env aE w ha he hb hr hh
 obtain ⟨b,rfl,l1,l2,hA,_⟩:=hr
 obtain ⟨lv,x,e1,e2,h0,hc⟩:=hb
 obtain ⟨tk,e3,t1,t2⟩:=he.at_ o lv e1
 obtain ⟨r,e4,r1,r2⟩:=t2 sr x e2
 obtain ⟨ho,e3'⟩:=List.getElem?_eq_some_iff.1 e3
 obtain ⟨hs,e4'⟩:=List.getElem?_eq_some_iff.1 e4
 obtain ⟨cn,rfl⟩:=Int.eq_ofNat_of_zero_le h0
 simp only [Int.toNat_natCast] at hc
 subst e3' 
 subst e4'
 have hcl:cn<env[o][sr].length:=by omega
 have hval:Sp.val (Sp.rn T (.col t n a o sr (cn:Int)) env)=env[o][sr][cn]:=by
  simp [Sp.val,Sp.rn,ho,hs,hcl]
 rw [hval]
 obtain ⟨ib,rfl,hib,_⟩:=ha.ptr
 exact Ab λW g=>G7 (ha.gr g) (hA.same g.size (g.below.block b hA.1)) ho he.len hs t1 hcl r1
theorem Q0 {T:List Sp.Tb} {N:Nat} {wd:Sp.Bs} {a:Nat} {args:Nd} (hN:N<=90000) (hw:wf N (.op wd a args) .expr) (hX:∀ n∈args.els,Ot T n):Ot T (.op wd a args):=by
 intro lo hi tv ev iv env aE w ha he hb hr hh
 obtain ⟨_,QD,hl,har⟩:=hw
 obtain ⟨b,sv,m1,m2,rfl,l1,l2,hS,hA,hI,hR⟩:=hr
 obtain ⟨e1,e2,e3⟩:=gK N args QD
 have hbe:=Ad args hb
 have hone:=Hc har
 generalize hns:args.els=ns at *
 rw [e1] at hR
 unfold Sub at hS
 have hval:Sp.val (Sp.rn T (.op wd a args) env)=Sv.of wd (ns.map λn=>Sp.val (Sp.rn T n env)):=by
  simp only [Sp.rn]
  rw [e1,sS]
  rfl
 rw [hval]
 obtain ⟨blk,off,n,cp,rfl,hbl⟩:∃ blk off n c,sv = .slice (some ⟨blk,off,none⟩) n c/\blk<w.heap.size:=by
  cases ns with
  | nil=>simp at e2;omega
  | cons n0 ns'=>
   simp only [gG,List.foldr_cons] at hR
   obtain ⟨blk,off,n,c,v,m1,m2,e,hl,_⟩:=hR
   exact ⟨blk,off,_,c,e,hl⟩
 obtain ⟨hn,xs,hel,hxs⟩:=Rp.els ns m1 m2 blk off n cp hR
 obtain ⟨ib,rfl,hib,_⟩:=ha.ptr
 have hlen:(ns.map λn=>Sp.val (Sp.rn T n env)).length=n:=by simp [hn]
 refine J1 (g:=blk) (off:=off) (cap:=cp) (by rw [hlen];exact hA) (by rw [hlen];omega) (by rw [hlen];omega) (λhc=>by have:=Hd har hc;rw [hlen];omega) hbl (λi hi'=>?_)
 rw [hlen] at hi'
 have hin:i<ns.length:=by omega
 have hsp:ns=ns.take i++ns[i]::ns.drop (i+1):=by rw [<- nS hin,List.take_append_drop]
 rw [hsp] at hel
 obtain ⟨p1,p2,x,ex,q1,q2,q3,q4,q5,q6,_⟩:=hel.upd
 rw [List.length_take,Nat.min_eq_left (by omega)] at ex
 obtain ⟨tt,pp,rfl⟩:=q6.R7 (e3 _ (jD hin))
 refine ⟨tt,_,hxs i _ ex,λW hbW=>?_⟩
 have:=hX ns[i] (jD hin) p1 p2 tv _ _ env aE W (ha.bel hbW) he (hbe _ (jD hin)) (q6.Ac hbW (by omega) q5) (by have:=hbW.size;omega)
 simpa using this
namespace Sp
def plain:Nd->Bool
 | .cons h t=>plain h&&plain t
 | .clause _ e=>plain e
 | .op _ _ a=>plain a
 | .dW _ _=>false
 | .arms _ _ _ _ _=>false
 | .within _ _ _ _=>false
 | .comb _ _ _ p q=>plain p&&plain q
 | .sel _ _ e _ w=>plain e&&plain w
 | _=>true
end Sp
theorem Ae (T:List Sp.Tb) (N:Nat) (hN:N<=90000):∀ nd:Nd,plain nd=true->(wf N nd .expr->Ot T nd)/\(wf N nd .list->∀ n∈nd.els,Ot T n):=by
 intro nd
 induction nd with
 | nil=>exact λ_=>⟨λh=>by simp [wf] at h,λ_ n hn=>by simp [Nd.els] at hn⟩
 | none=>exact λ_=>⟨λh=>by simp [wf] at h,λh=>by simp [wf] at h⟩
 | cons h t ih1 ih2=>
  intro hp
  simp only [plain,Bool.and_eq_true] at hp
  refine ⟨λh=>by simp [wf] at h,λhw n hn=>?_⟩
  obtain ⟨_,h1,h2⟩:=hw
  simp only [Nd.els,List.mem_cons] at hn
  rcases hn with rfl | hn
  ·exact (ih1 hp.1).1 h1
  ·exact (ih2 hp.2).2 h2 n hn
 | clause a e ih=>exact λ_=>⟨λh=>by simp [wf] at h,λh=>by simp [wf] at h⟩
 | const v=>exact λ_=>⟨λ_=>J2 T v,λh=>by simp [wf] at h⟩
 | col t n a o sr ce=>exact λ_=>⟨λ_=>Ov T t n a o sr ce,λh=>by simp [wf] at h⟩
 | op wd a args ih=>exact λhp=>⟨λhw=>Q0 hN hw ((ih hp).2 hw.2.1),λh=>by simp [wf] at h⟩
 | dW arms els ih1 ih2=>exact λhp=>by simp [plain] at hp
 | arms wa e ta t r ih1 ih2 ih3=>exact λhp=>by simp [plain] at hp
 | within wd a args q ih1 ih2=>exact λhp=>by simp [plain] at hp
 | comb wd a all p q ih1 ih2=>exact λ_=>⟨λh=>by simp [wf] at h,λh=>by simp [wf] at h⟩
 | sel di st ex src wh ih1 ih2=>exact λ_=>⟨λh=>by simp [wf] at h,λh=>by simp [wf] at h⟩
def Ur (T:List Sp.Tb) (wh:Nd):Prop:=∀ (lo hi:Nat) (tv wv iv:Value) (env:List (List Row)) (aE:List Sp.Lv) (w:World),pW w tv env iv->Eo env aE->bd T wh aE->Rp w wh lo hi wv->hi<=w.heap.size->
 Calls Tryz.prog 150 #[wv,iv] w λr w'=>r = .returned (.bool (holds T wh env))/\Gr w w'
theorem LW (T:List Sp.Tb):Ur T .none:=by
 intro lo hi tv wv iv env aE w ha _ _ hr _
 obtain ⟨_,rfl⟩:=hr
 obtain ⟨ib,rfl,_⟩:=ha.ptr
 exact Cg
theorem He {T:List Sp.Tb} {N a:Nat} {e:Nd} (hw:wf N e .expr) (hX:Ot T e):Ur T (.clause a e):=by
 intro lo hi tv wv iv env aE w ha he hb hr hh
 obtain ⟨b,v,m1,m2,rfl,l1,l2,hS,hA,hn,hR⟩:=hr
 obtain ⟨ib,rfl,_⟩:=ha.ptr
 unfold Sub at hS
 obtain ⟨t,q,rfl⟩:=hR.R7 hw
 have c1:=hA.k1
 exact Cf (po:=0) hA.1 (by rw [Nat.zero_add];exact c1) (hX m1 m2 tv _ _ env aE w ha he hb hR (by omega))
theorem LZ (T:List Sp.Tb) (N:Nat) (hN:N<=90000) (wh:Nd) (hp:plain wh=true) (hw:wf N wh .cl):Ur T wh:=by
 cases wh with
 | none=>exact LW T
 | clause a e=>exact He hw.2 ((Ae T N hN e hp).1 hw.2)
 | _=>simp [wf] at hw
def J3 (w0 w:World) (v:Value) (vals:List Sv.Val):Prop:=Calls Tryz.prog 188 #[v] w λe W'=>∃ u,e = .returned u/\uX w0.heap.size W' u vals/\RowKit.Below w0.heap.size w0 W'
theorem uX.lower {b b' : Nat} {w:World} {v:Value} {vs:List Sv.Val} (h:uX b w v vs) (hb:b'<=b):uX b' w v vs:=mZ h hb
theorem Ch (v:Value) (hv:∃ a l c,v = .slice a l c) (w:World) :
  Calls Tryz.prog 195 #[v] w λe w'=>e = .returned (.func (.func 237) #[] #[.pointer (some ⟨w.heap.size,0,none⟩)])/\w'=w.alloc (.cells #[v] 32):=
 callsIn_wide.1 (BL Fence.wide 6 trivial rfl v hv w)
theorem Hf {w:World} {tk:List (List Sv.Val)} {sv:Value} (h:BW w tk sv) (hne:tk ≠ []) (hl:tk.length<=100000) (hf:tk.flatten.length<=100000):J3 w (w.alloc (.cells #[sv] 32)) (.func (.func 237) #[] #[.pointer (some ⟨w.heap.size,0,none⟩)]) tk.flatten:=by
 have G:=(Gr.refl w).alloc (.cells #[sv] 32)
 have h':=h.gr G
 obtain ⟨a,c,rfl,h1⟩:=h'
 obtain ⟨rb,ro,rfl,hr⟩:=h1 hne
 refine (callsIn_wide.1 (row_in 6 (aF _) 237 _ tk.flatten hf _ (enters_of Tryz.func237 (by kernel_rfl) rfl)
  (rT Fence.wide (6 - 1) trivial rfl (by omega) w.heap.size _ rb ro c tk tk.flatten rfl hl hf _ (by simp) (aF _) (by simp) hr))).mono ?_
 rintro e W' ⟨u,rfl,o,b⟩
 exact ⟨u,rfl,o.lower G.size,G.below.trans (b.mono G.size)⟩
theorem Ci {sb st:Nat} {di:Bool} {fv wv tv iv:Value} {env:List (List Row)} {tk:List Row} {w:World} (hs:At w sb [.bool di, .int .i64 (st:Int), .slice none 0 0,fv,wv]) (ha:pW w tv (tk::env) iv) (hne:tk ≠ []) (hl:tk.length<=100000) (hf:tk.flatten.length<=100000) :
  Calls Tryz.prog 197 #[.pointer (some ⟨sb,0,none⟩),iv] w λe w'=>∃ gf lb,e = .returned (.func (.func gf) #[] lb)/\J3 w w' (.func (.func gf) #[] lb) tk.flatten/\Gr w w':=by
 obtain ⟨ib,sv,ov,rfl,hib,c0,c1,c2,ht,hr⟩:=ha
 have HT:=hid ht
 obtain ⟨va,vc,rfl⟩:=ht.sl
 have b2:=hs.k2
 have hbw:=hs.1
 have HC:=hid (Ch (.slice va tk.length vc) ⟨_,_,_,rfl⟩ w)
 have HR:=hid (Hf HT.out hne hl hf)
 generalize tk.flatten=vals at *
 clear ht hr hs hne
 have hq:=λ(w' : World)=>Lib.run_eql_slice_nil (P:=Tryz.prog) w' 237 _ none 0 0 0 0 Tryz.underlying237
 simp only [Option.isNone_none] at hq
 go_enter Tryz.func197,Tryz.ntmps197
 go_wp2_with fail
 refine HC.out.mono ?_
 rintro e w1 ⟨rfl,rfl⟩
 go_wp2_with fail
 go_ret
 exact ⟨_,_,rfl,HR.out,(Gr.refl w).alloc _⟩
theorem Ag {sb st g off cap:Nat} {di:Bool} {fv wv:Value} {ia:Option Addr} {vals:List Sv.Val} {w:World} (hs:At w sb [.bool di, .int .i64 (st:Int), .slice (some ⟨g,off,none⟩) vals.length cap,fv,wv]) (hm:vals.length<=100000) (hg:g<w.heap.size)
  (hE:∀ i,(hi:i<vals.length)->∃ t p,w.cell? ⟨g,off+i,none⟩=some (.iface t p)/\∀ W,RowKit.Below w.heap.size w W->Calls Tryz.prog 194 #[.iface t p, .pointer ia] W λe W'=>e = .returned (dI vals[i])/\Gr W W') :
  Calls Tryz.prog 197 #[.pointer (some ⟨sb,0,none⟩), .pointer ia] w λe w'=>∃ gf lb,e = .returned (.func (.func gf) #[] lb)/\J3 w w' (.func (.func gf) #[] lb) vals/\Gr w w':=by
 have b2:=hs.k2
 have hbw:=hs.1
 have HR:Hid (J3 w (boxes w (.slice (some ⟨g,off,none⟩) vals.length cap) (.pointer ia)) (.func (.func 229) #[] #[.pointer (some ⟨w.heap.size,0,none⟩), .pointer (some ⟨w.heap.size+1,0,none⟩)]) vals):=by
  exact rB hm hg hE
 clear hs hE
 have hq:=λ(w' : World)=>Lib.run_eql_slice_nil (P:=Tryz.prog) w' 237 _ (some ⟨g,off,none⟩) vals.length cap 0 0 Tryz.underlying237
 simp only [Option.isNone_some] at hq
 go_enter Tryz.func197,Tryz.ntmps197
 go_wp2_with fail
 refine (oT _ _ _ _ _).mono ?_
 rintro e w1 ⟨rfl,rfl⟩
 go_wp2_with fail
 go_ret
 exact ⟨_,_,rfl,HR.out,p7 _ _ _⟩
def Us:Option Value->Int
 | some (.int _ n)=>n
 | _=>0
def Wh:Option Value->ByteArray
 | some (.string s)=>s
 | _=>⟨#[]⟩
def lB (_:Nat) (w:World):Value->List Sv.Val
 | .slice (some ⟨b,o,_⟩) l _=>(List.range l).map λj=>⟨Us (w.cell? ⟨b,o+j*3,none⟩),Us (w.cell? ⟨b,o+j*3+1,none⟩),Wh (w.cell? ⟨b,o+j*3+2,none⟩)⟩
 | _ => []
theorem Ft {k:Nat} {w:World} {v:Value} {r:List Sv.Val} (h:Rw k w v r):lB k w v=r:=by
 rcases h with ⟨rfl,rfl⟩ | ⟨b,off,c,rfl,_,hv⟩
 ·rfl
 ·refine List.ext_getElem (by simp [lB]) λi h1 h2=>?_
  simp only [lB,List.getElem_map,List.getElem_range,hv.k i h2,hv.n i h2,hv.s i h2,Us,Wh]
theorem Cj {k:Nat} {w:World} : ∀ {xs:List Value} {rows:List (List Sv.Val)},Al (Rw k w) xs rows->xs.map (lB k w)=rows
 | [], [],_=>rfl
 | _::_,_::_,h=>by rw [List.map_cons,Ft h.1,Cj h.2]
 | [],_::_,h=>h.elim
 | _::_, [],h=>h.elim
theorem xU {α β:Type} (f:α->β):∀ l:List (List α),aK (l.map (·.map f))=(aK l).map (·.map f)
 | []=>rfl
 | t::l=>by
  simp only [List.map_cons,aK,xU f l,List.flatMap_map,List.map_flatMap,List.map_map]
  congr 1
theorem rC {α:Type} : ∀ {l:List (List α)} {x:List α},x∈aK l->x.length=l.length/\∀ i,(h:i<x.length)->(h' : i<l.length)->x[i]∈l[i]
 | [],x,h=>by simp [aK] at h;subst h;exact ⟨rfl,λi h=>by simp at h⟩
 | t::l,x,h=>by
  simp only [aK,List.mem_flatMap,List.mem_map] at h
  obtain ⟨r,hr,y,hy,rfl⟩:=h
  obtain ⟨h1,h2⟩:=rC hy
  refine ⟨by simp [h1],λi hi hi'=>?_⟩
  match i,hi,hi' with
  | 0,_,_=>exact hr
  | i+1,hi,hi'=>exact h2 i (by simpa using hi) (by simpa using hi')
theorem Ow {k:Nat} {w:World} {t:Sp.Tb} {V:TV} (h:nZ k w t V) (hk:k<=w.heap.size):∃ xs,Sl (·<k) w V.rv xs/\Al (Rw k w) xs t.rows:=by
 rcases h.rows with ⟨e,e1,e2⟩ | ⟨rb,ro,e1,hr⟩
 ·refine ⟨[], .inl ⟨?_,rfl⟩,by rw [e];trivial⟩
  have:=h.rl
  rw [e] at this
  simp [TV.rv,e1,e2,this]
 ·obtain ⟨xs,h1,h2⟩:=jA (λi v=>∃ h:i<t.rows.length,w.cell? ⟨rb,ro+i,none⟩=some v/\Rw k w v t.rows[i]) t.rows.length (λi hi=>by obtain ⟨v,hv1,hv2⟩:=hr.at_ i hi;exact ⟨v,hi,hv1,hv2⟩)
  refine ⟨xs, .inr ⟨rb,ro,V.rc,?_,by have:=hr.lb;omega,hr.lb,λj hj=>(h2 j hj).2.1⟩,Al.of h1 λi hi hi'=>(h2 i hi).2.2⟩
  simp [TV.rv,e1,h.rl,h1]
theorem Fu {k:Nat} {w:World} {T:List Sp.Tb} (hk:k<=w.heap.size):∀ {vs:List Value} {src:List (Nm×Nm)},Al (λv (x:Nm×Nm)=>∃ t V,v=V.rv/\aG x.1.1 T=some t/\nZ k w t V) vs src->
  ∃ tabs:List (List Value),Al (λv xs=>Sl (·<k) w v xs) vs tabs/\Al (Al (Rw k w)) tabs (rowsOf T src)
 | [], [],_=>⟨[],trivial,trivial⟩
 | v::vs,x::src,h=>by
  obtain ⟨⟨t,V,rfl,e,h1⟩,h2⟩:=h
  obtain ⟨xs,h3,h4⟩:=Ow h1 hk
  obtain ⟨tabs,h5,h6⟩:=Fu hk h2
  refine ⟨xs::tabs,⟨h3,h5⟩,?_,h6⟩
  show Al (Rw k w) xs ((aG x.1.1 T).getD iR).rows
  rw [e]
  exact h4
 | [],_::_,h=>h.elim
 | _::_, [],h=>h.elim
theorem xV {k:Nat} {w:World} : ∀ {tabs:List (List Value)} {q7:List (List (List Sv.Val))},Al (Al (Rw k w)) tabs q7->tabs.map (·.map (lB k w))=q7
 | [], [],_=>rfl
 | _::_,_::_,h=>by rw [List.map_cons,Cj h.1,xV h.2]
 | [],_::_,h=>h.elim
 | _::_, [],h=>h.elim
theorem JO.tkn {k Tb:Nat} {w W:World} {tabs:List (List Value)} {q7:List (List (List Sv.Val))} {x:List Value} (h:JO Tb tabs x W) (ha:Al (Al (Rw k w)) tabs q7) (hb:RowKit.Below w.heap.size w W) (hk:k<=w.heap.size):BW W (x.map (lB k w)) (.slice (some ⟨Tb,0,none⟩) tabs.length tabs.length):=by
 obtain ⟨hT,hl,hm⟩:=h
 obtain ⟨_,hmem⟩:=rC hm
 refine ⟨some ⟨Tb,0,none⟩,tabs.length,by rw [List.length_map,hl],λ_=>⟨Tb,0,rfl,hT.lt,λi hi=>?_⟩⟩
 have hix:i<x.length:=by simpa using hi
 have hit:i<tabs.length:=by omega
 refine ⟨x[i],by rw [Nat.zero_add];exact hT.at_ i hix,?_⟩
 rw [List.getElem_map]
 have har:=ha.get i hit (by rw [<- ha.len];exact hit)
 obtain ⟨r,_,hr⟩:=har.Oj (hmem i hix hit)
 rw [Ft hr]
 have h5:Rw k W x[i] r:=hr.below (hb.mono hk)
 rcases h5 with h5 | ⟨b,o,c,e,hb',hv⟩
 ·exact .inl h5
 ·exact .inr ⟨b,o,c,e,by have:=hb.size;omega,hv⟩
attribute [local go_sem] Oper.semAt_some
theorem Hg {n:Nat} {g:Operand} {ps:Array Tmp} {assign body:Code} {Q:Exit->Act->World->Prop} {a:Act} {W:World} {Bt tb tc:Nat} {tabs:List (List Value)}
  (h1:1<=n) (hg:a.eval g = .func (.func 191) #[] #[.pointer (some ⟨Bt,0,none⟩)]) (hps:ps.size=1)
  (C:Nat->Prop) (hC0:C W.heap.size) (Uh:C (W.heap.size+1)) (hC2:C (W.heap.size+2))
  (hm:0<tabs.length) (hb:tabs.length<=1000) (hbb:∀ t∈tabs,t.length<=100000) (hrs:∀ t∈tabs,∀ r∈t,∃ a l c,r = .slice a l c) (hlen:(aK tabs).length<=1000)
  (hBt:Bt<W.heap.size) (hc:W.cell? ⟨Bt,0,none⟩=some (.slice (some ⟨tb,0,none⟩) tabs.length tc)) (ht:Tabs (λk=>C k/\k≠W.heap.size+2) W tb 0 tabs)
  (I:List (List Value)->World->Prop) (hI:∀ s A B,I s A->A.heap.size<=B.heap.size->B.os=A.os->B.tape=A.tape->B.output=A.output->(∀ j,j<A.heap.size->j≠W.heap.size->j≠W.heap.size+1->j≠W.heap.size+2->B.heap[j]?=A.heap[j]?)->I s B)
  (h0:∀ W1,W1.heap.size=W.heap.size+2->RowKit.Below W.heap.size W W1->I [] W1)
  (a₁:Act)
  (hassign:∀ (l:Nat) (A:World) (K:Act->World->Prop),K a₁ A->
   assign.wpIn (Fence.wide.inRound l) (n - 1 - 1) Tryz.prog (Exit.then K (λ_ _ _=>False)) { tmps:=(ps.zip #[.slice (some ⟨W.heap.size+2,0,none⟩) tabs.length tabs.length]).foldl (λt (p,v)=>t.setIfInBounds p v) a.tmps,defers := [] } A)
  (hbody:∀ (l:Nat) (pre:List (List Value)) (x:List Value) (A:World),I pre A->JO (W.heap.size+2) tabs x A->pre.length<1000->W.heap.size+2<A.heap.size->body.wpIn (Fence.wide.inRound l) (n - 1 - 1) Tryz.prog (λe _ A'=>e = .normal/\Fr C A A'/\I (pre ++ [x]) A') a₁ A)
  (hdone:∀ (A:World),I (aK tabs) A->A.heap[W.heap.size]?=some (.deferred (some []))->Q .normal { a with defers:={ target := .collected W.heap.size,args:=#[] }::a.defers } A) :
  (Code.rangeFunc g ps assign body).wpIn Fence.wide n Tryz.prog Q a W:=by
 refine GT rfl h1 (gf:=191) (lb:=#[.pointer (some ⟨Bt,0,none⟩)]) hg trivial (enters_of Tryz.func191 (by kernel_rfl) rfl)
  (λ_:List Value=>#[.slice (some ⟨W.heap.size+2,0,none⟩) tabs.length tabs.length]) (λ_=>by rw [hps];rfl)
  C hC0 Uh (λl=>l.length<=1000) (λx A=>JO (W.heap.size+2) tabs x A) (λx A o h=>?hM)
  (λxs=>xs=aK tabs) (λA B=>W.heap.size+2<=A.heap.size/\Fr (·≠W.heap.size+2) A B) (λA B h=>⟨h.2.block _ (by omega) (by omega),h.2.block _ (by omega) (by omega)⟩)
  (λJ hJ hY W1 hs1 hb1 hj0=>?hseq)
  I (λs A B hi h=>hI s A B hi h.2.size h.2.os h.2.tape h.2.output λj hj _ _ h2=>h.2.block j hj h2) (λs A k o hk hi=>?QO) h0 (λ_=>a₁) (λl x A K hK=>hassign l A K hK) (λl pre x A hi hx hl=>?hbd) (λxs A e hi hd=>?hdn)
 case hM=>
  obtain ⟨hT,h2,h3⟩:=h
  have e:(A.putObj (W.heap.size+1) o).heap[W.heap.size+2]?=A.heap[W.heap.size+2]?:=World.putObj_heap_other (by omega)
  exact ⟨⟨by simpa using hT.lt,λi hi=>by obtain ⟨v,hv⟩:=hT.some_ i hi;exact ⟨v,(fB (w:=A) (a:=⟨W.heap.size+2,i,none⟩) e).trans hv⟩,λi=>(wF (w:=A) (a:=⟨W.heap.size+2,i,none⟩) e).trans (hT.un i),λi hi=>(fB (w:=A) (a:=⟨W.heap.size+2,i,none⟩) e).trans (hT.at_ i hi)⟩,h2,h3⟩
 case hseq=>
  refine (zZ W C hC2 (n - 1) Bt tb 0 tc tabs hm hb hbb hrs hBt hc ht (λl=>l.length<=1000) (λp q h=>by rw [List.length_append] at h;omega) hlen (λs A=>J s A/\W.heap.size+2<=A.heap.size) (λs A B h f=>⟨hJ s A B h.1 ⟨h.2,f⟩,cE h.2 f.size⟩) (λpre x A h hx hl=>?_) W1 hs1 hb1 ⟨hj0,by omega⟩).mono ?_
  ·obtain ⟨fn,tmps,assign',body',hy,hR⟩:=hY pre x A h.1 hx hl
   exact ⟨fn,tmps,assign',body',hy,hR.mono λe A' hr=>⟨hr.1,⟨hr.2.1,cE h.2 hr.2.2.size⟩,hr.2.2⟩⟩
  ·rintro e A ⟨hv,xs,rfl,hj⟩
   exact ⟨hv,_,rfl,hj.1⟩
 case QO=>
  refine hI s A _ hi (by simp) rfl rfl rfl λj hj h1 h2 _=>?_
  rcases hk with rfl | rfl
  ·exact World.putObj_heap_other h1
  ·exact World.putObj_heap_other h2
 case hbd=>
  refine wpIn_mono (hbody l pre x A hi hx (by simpa [Nat.lt_iff_add_one_le] using hl) hx.1.lt) ?_
  rintro e a' A' h
  exact h
 case hdn=>
  subst e
  exact hdone A hi hd
end Go.Proofs.YtgnncnhkgmhngaaGreatDoor
