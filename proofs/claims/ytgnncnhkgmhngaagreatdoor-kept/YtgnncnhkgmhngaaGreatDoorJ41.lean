import Derived.Test.YtgnncnhkgmhngaaGreatDoorJ40
set_option maxHeartbeats 4000000
set_option maxRecDepth 100000
namespace Go.Proofs.YtgnncnhkgmhngaaGreatDoor
open Go.RowKit Go.Sort
theorem rholds_some {pb po:Nat} {t:TypeId} {p:Value} {ia:Option Addr} {c:Sv.Val} {w:World} (_hp:pb<w.heap.size) (c1:w.cell? ⟨pb,po+1,none⟩=some (.iface t p))
  (hC:Calls Tryz.prog 194 #[.iface t p, .pointer ia] w fun e W'=>e = .returned (enV c)/\Gr w W') :
  Calls Tryz.prog 150 #[.pointer (some ⟨pb,po,none⟩), .pointer ia] w fun e w'=>e = .returned (.bool (Sv.isTrue c))/\Gr w w':=by
 have HC:=hid hC
 have HT:=hid (fun W=>isTrue_any c W)
 clear hC
 generalize Sv.isTrue c=tr at *
 obtain ⟨ck,cn,cs⟩:=c
 go_enter Tryz.func150,Tryz.ntmps150
 go_wp2_with fail
 refine HC.out.mono ?_
 rintro e w1 ⟨rfl,g1⟩
 have G1:=hid g1
 clear g1 HC
 go_wp2_with fail
 refine (HT.out _).mono ?_
 rintro e w2 ⟨rfl,g2⟩
 have G2:=hid (G1.out.trans g2)
 clear g2
 go_wp2_with fail
 go_ret
 exact ⟨rfl,G2.out⟩
theorem rholds_none {ia:Option Addr} {w:World} :
  Calls Tryz.prog 150 #[.pointer none, .pointer ia] w fun e w'=>e = .returned (.bool true)/\Gr w w':=by
 go_enter Tryz.func150,Tryz.ntmps150
 go_wp2_with fail
 go_ret
 exact ⟨rfl,Gr.refl w⟩
theorem enVs_at:∀ (l:List Sv.Val) (i d:Nat) (h:i<l.length) (_:d<3),(enVs l)[i*3+d]?=([.int .i64 l[i].k, .int .i64 l[i].n, .string l[i].s]:List Value)[d]?
 | [],i,d,h,_=>by simp at h
 | p::l,0,d,_,hd=>by
  simp only [enVs,List.flatMap_cons,List.getElem_cons_zero,Nat.zero_mul,Nat.zero_add]
  rw [List.getElem?_append_left (by simp;omega)]
 | p::l,i+1,d,h,hd=>by
  have ih:=enVs_at l i d (by simpa using h) hd
  simp only [enVs,List.flatMap_cons,List.getElem_cons_succ] at ih ⊢
  rw [List.getElem?_append_right (by simp;omega),<- ih]
  congr 1
  simp;omega
theorem OwR.hv {base:Nat} {w:World} {v:Value} {vs:List Sv.Val} (h:OwR base w v vs) (hne:vs ≠ []):∃ b c,v = .slice (some ⟨b,0,none⟩) vs.length c/\base<=b/\Hv w b 0 vs:=by
 have hb:=ownsV_block h
 obtain ⟨hl,h | ⟨g',cap,cur,hv,h0,hc,r1,r2,r3,r4⟩⟩:=h
 ·exact absurd (List.eq_nil_of_length_eq_zero h.2) hne
 ·subst hv
  have key:∀ j d,(hj:j<vs.length)->d<3->w.cell? ⟨g',0+j*3+d,none⟩=([.int .i64 vs[j].k, .int .i64 vs[j].n, .string vs[j].s]:List Value)[d]?:=fun j d hj hd=>by
   have e:=enVs_at vs j d hj hd
   rw [<- r4,List.getElem?_take_of_lt (by omega)] at e
   simp [World.cell?,hc]
   simpa using e
  exact ⟨g',cap,rfl,h0,(hb g' rfl).2,fun j hj=>by simpa using key j 0 hj (by omega),fun j hj=>by simpa using key j 1 hj (by omega),fun j hj=>by simpa using key j 2 hj (by omega)⟩
theorem put3_cell {w:World} {q b o:Nat} {x y z v:Value} (h:b≠q) (hc:w.cell? ⟨b,o,none⟩=some v):(((w.setCell ⟨q,0,none⟩ x).setCell ⟨q,1,none⟩ y).setCell ⟨q,2,none⟩ z).cell? ⟨b,o,none⟩=some v:=
 (World.cell?_of_block (w:=w) (a:=⟨b,o,none⟩) (((Below.heap_setCell _ _ _ _ h).trans (Below.heap_setCell _ _ _ _ h)).trans (Below.heap_setCell _ _ _ _ h))).trans hc
theorem rexpr_op {b a g off cap:Nat} {ia:Option Addr} {wd:Sp.Bs} {vals:List Sv.Val} {w:World} (hA:At w b [.string (bz wd), .int .i64 (a:Int), .slice (some ⟨g,off,none⟩) vals.length cap]) (hm:vals.length<=100000) (h1:1<=vals.length) (h2:Sv.isCmp wd=true->2<=vals.length) (hg:g<w.heap.size)
  (hE:∀ i,(hi:i<vals.length)->∃ t p,w.cell? ⟨g,off+i,none⟩=some (.iface t p)/\∀ W,RowKit.Below w.heap.size w W->Calls Tryz.prog 194 #[.iface t p, .pointer ia] W fun e W'=>e = .returned (enV vals[i])/\Gr W W') :
  Calls Tryz.prog 194 #[.iface 363 (.pointer (some ⟨b,0,none⟩)), .pointer ia] w fun e w'=>e = .returned (enV (Sv.of wd vals))/\Gr w w':=by
 apply gr_of_below
 have b0:=hA.k0
 have b2:=hA.k2
 have hbw:=hA.1
 have GA:=hid ((Gr.refl w).alloc (.cells #[.int .i64 0, .int .i64 0, .string ⟨#[]⟩] 40) |>.drew)
 have hzA:=GA.out.size
 have d0:=(((Gr.refl w).alloc (.cells #[.int .i64 0, .int .i64 0, .string ⟨#[]⟩] 40)).cell (p:=⟨b,0,none⟩) hbw).trans b0
 have d2:=(((Gr.refl w).alloc (.cells #[.int .i64 0, .int .i64 0, .string ⟨#[]⟩] 40)).cell (p:=⟨b,2,none⟩) hbw).trans b2
 have HR:Hid (∀ p1 p2,p1=(w.alloc (.cells #[.int .i64 0, .int .i64 0, .string ⟨#[]⟩] 40)).drew.heap.size->p2=(w.alloc (.cells #[.int .i64 0, .int .i64 0, .string ⟨#[]⟩] 40)).drew.heap.size+1->Calls Tryz.prog 188 #[.func (.func 229) #[] #[.pointer (some ⟨p1,0,none⟩), .pointer (some ⟨p2,0,none⟩)]] (boxes (w.alloc (.cells #[.int .i64 0, .int .i64 0, .string ⟨#[]⟩] 40)).drew (.slice (some ⟨g,off,none⟩) vals.length cap) (.pointer ia)) fun e W'=>∃ v,e = .returned v/\OwR (w.alloc (.cells #[.int .i64 0, .int .i64 0, .string ⟨#[]⟩] 40)).drew.heap.size W' v vals/\RowKit.Below (w.alloc (.cells #[.int .i64 0, .int .i64 0, .string ⟨#[]⟩] 40)).drew.heap.size (w.alloc (.cells #[.int .i64 0, .int .i64 0, .string ⟨#[]⟩] 40)).drew W'):=by
  rintro p1 p2 rfl rfl
  exact row_exprs hm (Nat.lt_of_lt_of_le hg hzA) (fun i hi=>by
   obtain ⟨t,p,e1,e2⟩:=hE i hi
   exact ⟨t,p,(GA.out.cell (p:=⟨g,off+i,none⟩) hg).trans e1,fun W hb=>e2 W (GA.out.below.trans (hb.mono hzA))⟩)
 have HOf:=hid (fun (bb cc:Nat) (W:World) (hv:Hv W bb 0 vals)=>of_any bb 0 vals.length cc (bz wd) vals W rfl h1 (by rw [bz_list];exact h2) hm hv)
 simp only [bz_list] at HOf
 have HNe:Hid (vals ≠ []):=fun e=>by rw [e] at h1;simp at h1
 generalize Sv.of wd vals=val at *
 obtain ⟨vk,vn,vs⟩:=val
 have t0:=te_20
 have t1:=te_21
 have t2:=te_22
 have hB0:=hid ((B3.new w (.int .i64 0) (.int .i64 0) (.string ⟨#[]⟩) 40).gr (Gr.refl _).drew)
 have hbb:b<(w.alloc (.cells #[.int .i64 0, .int .i64 0, .string ⟨#[]⟩] 40)).heap.size:=by simp;omega
 clear hA hE h2
 go_enter Tryz.func194,Tryz.ntmps194
 go_wp2_with fail
 have hbq:b≠w.heap.size:=by omega
 have d0' : (w.alloc (.cells #[.int .i64 0, .int .i64 0, .string ⟨#[]⟩] 40)).drew.cell? ⟨b,0,none⟩=some (.string (bz wd)):=d0
 have d2' : (w.alloc (.cells #[.int .i64 0, .int .i64 0, .string ⟨#[]⟩] 40)).drew.cell? ⟨b,2,none⟩=some (.slice (some ⟨g,off,none⟩) vals.length cap):=d2
 go_region_held3 (fun w'=>w'.cell? ⟨b,0,none⟩=some (.string (bz wd))/\w'.cell? ⟨b,2,none⟩=some (.slice (some ⟨g,off,none⟩) vals.length cap)) (first | (with_reducible exact ⟨d0',d2'⟩) | (with_reducible exact ⟨d0,d2⟩) | (with_reducible exact ⟨f0,f2⟩) | (with_reducible exact ⟨g0,g2'⟩) | (with_reducible exact ⟨k0,k2⟩) | (with_reducible exact ⟨put3_cell hbq k0,put3_cell hbq k2⟩) | go_keep) (first | (go_at_call 189;refine (rexprs_any _ _ _ _ _).mono ?_;rintro e1 w2 ⟨rfl,hw2⟩;have HW2:=hid hw2;have f0:w2.cell? ⟨b,0,none⟩=some (.string (bz wd)):=(by rw [HW2.out];exact ((boxes_gr _ _ _).cell (p:=⟨b,0,none⟩) hbb).trans d0);have f2:w2.cell? ⟨b,2,none⟩=some (.slice (some ⟨g,off,none⟩) vals.length cap):=(by rw [HW2.out];exact ((boxes_gr _ _ _).cell (p:=⟨b,2,none⟩) hbb).trans d2);clear hw2) | (have _hx:=HW2;go_at_call 188;rw [HW2.out];refine (HR.out _ _ (by simp) (by simp)).mono ?_;rintro e2 w3 ⟨v3,rfl,o3,bl3⟩;obtain ⟨rb,rc,rfl,hrb,hv3⟩:=o3.hv HNe.out;have g0:=(bl3.cell (p:=⟨b,0,none⟩) hbb).trans d0;have g2':=(bl3.cell (p:=⟨b,2,none⟩) hbb).trans d2;have hb3:b<w3.heap.size:=Nat.lt_of_lt_of_le hbb bl3.size;have HBl3:=hid bl3;have HV3:=hid hv3;clear bl3 hv3 o3) | (have _hx:=HV3;go_at_call 233;refine (HOf.out rb rc w3 HV3.out).mono ?_;rintro e3 w4 ⟨rfl,g4⟩;have k0:=(g4.cell (p:=⟨b,0,none⟩) hb3).trans g0;have k2:=(g4.cell (p:=⟨b,2,none⟩) hb3).trans g2';have hB4:=(hB0.out.same HBl3.out.size (HBl3.out.block w.heap.size (by simp))).gr g4;obtain ⟨q0,q1,q2,q3,q4,q5,q6⟩:=hB4;have HG4:=hid g4;clear g4))
 have HBw:Hid (RowKit.Below w.heap.size w w4):=((GA.out.below.trans (HBl3.out.mono GA.out.size))).trans (HG4.out.below.mono (Nat.le_trans GA.out.size HBl3.out.size))
 go_wp2_with fail
 exact bodyPost_ret (v := .agg #[.int .i64 vk, .int .i64 vn, .string vs]) (by simp [results,Tryz.results194,go_sem,q1,q2,q3]) rfl ⟨rfl,((HBw.out.setCell (Nat.le_refl _) _).setCell (Nat.le_refl _) _).setCell (Nat.le_refl _) _⟩
theorem Tkn.bel {w w' : World} {tk:List (List Sv.Val)} {v:Value} (h:Tkn w tk v) (g:RowKit.Below w.heap.size w w'):Tkn w' tk v:=by
 obtain ⟨a,c,e,h⟩:=h
 refine ⟨a,c,e,fun hne=>?_⟩
 obtain ⟨rb,ro,e1,hr⟩:=h hne
 exact ⟨rb,ro,e1,(hr.below g).up g.size⟩
theorem Arn.bel {w w' : World} {tv:Value} (g:RowKit.Below w.heap.size w w'):∀ {env:List (List (List Sv.Val))} {v:Value},Arn w tv env v->Arn w' tv env v
 | [],_,⟨b,e,hb,c0⟩=>⟨b,e,Nat.lt_of_lt_of_le hb g.size,(g.cell (p:=⟨b,0,none⟩) hb).trans c0⟩
 | _::_,_,⟨b,sv,ov,e,hb,c0,c1,c2,ht,hr⟩=>⟨b,sv,ov,e,Nat.lt_of_lt_of_le hb g.size,(g.cell (p:=⟨b,0,none⟩) hb).trans c0,(g.cell (p:=⟨b,1,none⟩) hb).trans c1,(g.cell (p:=⟨b,2,none⟩) hb).trans c2,ht.bel g,hr.bel g⟩
theorem Rp.bel {w w' : World} {nd:Sp.Nd} {lo hi:Nat} {x:Value} (h:Rp w nd lo hi x) (g:RowKit.Below w.heap.size w w') (hh:hi<=w.heap.size) (hx:∀ blk off n c,x = .slice (some ⟨blk,off,none⟩) n c->blk<w.heap.size):Rp w' nd lo hi x:=
 h.frame g.size _ _ _ _ (fun k _ h2=>g.block k (by omega)) (fun blk off n c e=>g.block blk (hx blk off n c e))
theorem Rp.belN {w w' : World} {nd:Sp.Nd} {lo hi:Nat} {x:Value} (h:Rp w nd lo hi x) (g:RowKit.Below w.heap.size w w') (hh:hi<=w.heap.size) (hx:NoSl x):Rp w' nd lo hi x:=h.bel g hh fun _ _ _ _ e=>absurd e (hx _ _ _)
namespace Sp
structure Eo (env:List (List Row)) (lvs:List Lv):Prop where
 len:env.length<=100000
 at_:∀ (o:Nat) (lv:Lv),lvs[o]?=some lv->∃ tk:List Row,env[o]?=some tk/\tk.length<=100000/\∀ (i:Nat) (x:Bs×Tb),lv[i]?=some x->∃ r:Row,tk[i]?=some r/\r.length<=100000/\x.2.cols.length<=r.length
def noW:Nd->Bool
 | .cons h t=>noW h&&noW t
 | .clause _ e=>noW e
 | .op _ _ a=>noW a
 | .kase a e=>noW a&&noW e
 | .arms _ w _ t r=>noW w&&noW t&&noW r
 | .within _ _ _ _=>false
 | .comb _ _ _ p q=>noW p&&noW q
 | .sel _ _ e _ w=>noW e&&noW w
 | _=>true
theorem rn_list (T:List Tb) (env:List (List Row)):∀ ns:List Nd,rn T (lapp ns .nil) env = [ns.map fun n=>val (rn T n env)]
 | []=>rfl
 | n::ns=>by
  have ih:=rn_list T env ns
  simp only [lapp,List.foldr_cons] at ih ⊢
  simp only [rn,ih,List.headD_cons,List.map_cons]
theorem arity_one {w:Bs} {n:Nat} (h:arity w n=true):1<=n:=by
 unfold arity at h
 split at h
 ·simp at h;omega
 ·split at h
  ·simp at h;omega
  ·split at h
   ·simpa using h
   ·simp at h;omega
theorem arity_two {w:Bs} {n:Nat} (h:arity w n=true) (hc:Sv.isCmp w=true):2<=n:=by
 unfold Sv.isCmp Sv.isSum at hc
 simp only [Bool.not_eq_true',Bool.or_eq_false_iff] at hc
 obtain ⟨⟨⟨⟨⟨h1,h2⟩,h3⟩,h4⟩,h5⟩,h6⟩:=hc
 have h7:(w == [45])=false:=by
  by_cases hh:(w == [45])=true
  ·simp [hh] at h6
  ·simpa using hh
 unfold arity at h
 simp only [h3,h4,h5,h7,Bool.or_false,Bool.false_eq_true,if_false] at h
 simp at h;omega
theorem noW_els:∀ (nd:Nd),noW nd=true->∀ n∈nd.els,noW n=true
 | .cons h t,hw,n,hn=>by
  simp only [noW,Bool.and_eq_true] at hw
  simp only [Nd.els,List.mem_cons] at hn
  rcases hn with rfl | hn
  ·exact hw.1
  ·exact noW_els t hw.2 n hn
 | .nil,_,n,hn=>by simp [Nd.els] at hn
 | .none,_,n,hn=>by simp [Nd.els] at hn
 | .clause _ _,_,n,hn=>by simp [Nd.els] at hn
 | .const _,_,n,hn=>by simp [Nd.els] at hn
 | .col _ _ _ _ _ _,_,n,hn=>by simp [Nd.els] at hn
 | .op _ _ _,_,n,hn=>by simp [Nd.els] at hn
 | .kase _ _,_,n,hn=>by simp [Nd.els] at hn
 | .arms _ _ _ _ _,_,n,hn=>by simp [Nd.els] at hn
 | .within _ _ _ _,_,n,hn=>by simp [Nd.els] at hn
 | .comb _ _ _ _ _,_,n,hn=>by simp [Nd.els] at hn
 | .sel _ _ _ _ _,_,n,hn=>by simp [Nd.els] at hn
theorem bd_els {T:List Tb} {lvs:List Lv} : ∀ (nd:Nd),bd T nd lvs->∀ n∈nd.els,bd T n lvs
 | .cons h t,hw,n,hn=>by
  simp only [Nd.els,List.mem_cons] at hn
  rcases hn with rfl | hn
  ·exact hw.1
  ·exact bd_els t hw.2 n hn
 | .nil,_,n,hn=>by simp [Nd.els] at hn
 | .none,_,n,hn=>by simp [Nd.els] at hn
 | .clause _ _,_,n,hn=>by simp [Nd.els] at hn
 | .const _,_,n,hn=>by simp [Nd.els] at hn
 | .col _ _ _ _ _ _,_,n,hn=>by simp [Nd.els] at hn
 | .op _ _ _,_,n,hn=>by simp [Nd.els] at hn
 | .kase _ _,_,n,hn=>by simp [Nd.els] at hn
 | .arms _ _ _ _ _,_,n,hn=>by simp [Nd.els] at hn
 | .within _ _ _ _,_,n,hn=>by simp [Nd.els] at hn
 | .comb _ _ _ _ _,_,n,hn=>by simp [Nd.els] at hn
 | .sel _ _ _ _ _,_,n,hn=>by simp [Nd.els] at hn
end Sp
def RxC (T:List Sp.Tb) (nd:Sp.Nd):Prop:=∀ (lo hi:Nat) (tv ev iv:Value) (env:List (List Sp.Row)) (lvs:List Sp.Lv) (w:World),Arn w tv env iv->Sp.Eo env lvs->Sp.bd T nd lvs->Rp w nd lo hi ev->hi<=w.heap.size->
 Calls Tryz.prog 194 #[ev,iv] w fun r w'=>r = .returned (enV (Sp.val (Sp.rn T nd env)))/\Gr w w'
theorem rx_const (T:List Sp.Tb) (v:Sv.Val):RxC T (.const v):=by
 intro lo hi tv ev iv env lvs w ha _ _ hr _
 obtain ⟨b,rfl,l1,l2,hA⟩:=hr
 obtain ⟨ib,rfl,_⟩:=ha.ptr
 exact rexpr_const hA
theorem rx_col (T:List Sp.Tb) (t n:Sp.Bs) (a o sr:Nat) (ce:Int):RxC T (.col t n a o sr ce):=by
 intro lo hi tv ev iv env lvs w ha he hb hr hh
 obtain ⟨b,rfl,l1,l2,hA,_⟩:=hr
 obtain ⟨lv,x,e1,e2,h0,hc⟩:=hb
 obtain ⟨tk,e3,t1,t2⟩:=he.at_ o lv e1
 obtain ⟨r,e4,r1,r2⟩:=t2 sr x e2
 obtain ⟨ho,e3'⟩:=List.getElem?_eq_some_iff.1 e3
 obtain ⟨hs,e4'⟩:=List.getElem?_eq_some_iff.1 e4
 obtain ⟨cn,rfl⟩:=Int.eq_ofNat_of_zero_le h0
 simp only [Int.toNat_natCast] at hc
 subst e3' 
 subst e4'
 have hcl:cn<env[o][sr].length:=by omega
 have hval:Sp.val (Sp.rn T (.col t n a o sr (cn:Int)) env)=env[o][sr][cn]:=by
  simp [Sp.val,Sp.rn,ho,hs,hcl]
 rw [hval]
 obtain ⟨ib,rfl,hib,_⟩:=ha.ptr
 exact rexpr_column fun W g=>acell_any (ha.gr g) (hA.same g.size (g.below.block b hA.1)) ho he.len hs t1 hcl r1
theorem rx_op {T:List Sp.Tb} {N:Nat} {wd:Sp.Bs} {a:Nat} {args:Sp.Nd} (hN:N<=90000) (hw:Sp.wf N (.op wd a args) .expr) (hX:∀ n∈args.els,RxC T n):RxC T (.op wd a args):=by
 intro lo hi tv ev iv env lvs w ha he hb hr hh
 obtain ⟨_,hwa,hl,har⟩:=hw
 obtain ⟨b,sv,m1,m2,rfl,l1,l2,hS,hA,hI,hR⟩:=hr
 obtain ⟨e1,e2,e3⟩:=els_lapp N args hwa
 have hbe:=Sp.bd_els args hb
 have hone:=Sp.arity_one har
 generalize hns:args.els=ns at *
 rw [e1] at hR
 unfold Sub at hS
 have hval:Sp.val (Sp.rn T (.op wd a args) env)=Sv.of wd (ns.map fun n=>Sp.val (Sp.rn T n env)):=by
  simp only [Sp.rn]
  rw [e1,Sp.rn_list]
  rfl
 rw [hval]
 obtain ⟨blk,off,n,cp,rfl,hbl⟩:∃ blk off n c,sv = .slice (some ⟨blk,off,none⟩) n c/\blk<w.heap.size:=by
  cases ns with
  | nil=>simp at e2;omega
  | cons n0 ns'=>
   simp only [Sp.lapp,List.foldr_cons] at hR
   obtain ⟨blk,off,n,c,v,m1,m2,e,hl,_⟩:=hR
   exact ⟨blk,off,_,c,e,hl⟩
 obtain ⟨hn,xs,hel,hxs⟩:=Rp.els ns m1 m2 blk off n cp hR
 obtain ⟨ib,rfl,hib,_⟩:=ha.ptr
 have hlen:(ns.map fun n=>Sp.val (Sp.rn T n env)).length=n:=by simp [hn]
 refine rexpr_op (g:=blk) (off:=off) (cap:=cp) (by rw [hlen];exact hA) (by rw [hlen];omega) (by rw [hlen];omega) (fun hc=>by have:=Sp.arity_two har hc;rw [hlen];omega) hbl (fun i hi'=>?_)
 rw [hlen] at hi'
 have hin:i<ns.length:=by omega
 have hsp:ns=ns.take i++ns[i]::ns.drop (i+1):=by rw [<- List.drop_eq_getElem_cons hin,List.take_append_drop]
 rw [hsp] at hel
 obtain ⟨p1,p2,x,ex,q1,q2,q3,q4,q5,q6,_⟩:=hel.upd
 rw [List.length_take,Nat.min_eq_left (by omega)] at ex
 obtain ⟨tt,pp,rfl⟩:=q6.ifc (e3 _ (List.getElem_mem hin))
 refine ⟨tt,_,hxs i _ ex,fun W hbW=>?_⟩
 have:=hX ns[i] (List.getElem_mem hin) p1 p2 tv _ _ env lvs W (ha.bel hbW) he (hbe _ (List.getElem_mem hin)) (q6.belN hbW (by omega) q5) (by have:=hbW.size;omega)
 simpa using this
namespace Sp
def plain:Nd->Bool
 | .cons h t=>plain h&&plain t
 | .clause _ e=>plain e
 | .op _ _ a=>plain a
 | .kase _ _=>false
 | .arms _ _ _ _ _=>false
 | .within _ _ _ _=>false
 | .comb _ _ _ p q=>plain p&&plain q
 | .sel _ _ e _ w=>plain e&&plain w
 | _=>true
end Sp
theorem rx_main (T:List Sp.Tb) (N:Nat) (hN:N<=90000):∀ nd:Sp.Nd,Sp.plain nd=true->(Sp.wf N nd .expr->RxC T nd)/\(Sp.wf N nd .list->∀ n∈nd.els,RxC T n):=by
 intro nd
 induction nd with
 | nil=>exact fun _=>⟨fun h=>by simp [Sp.wf] at h,fun _ n hn=>by simp [Sp.Nd.els] at hn⟩
 | none=>exact fun _=>⟨fun h=>by simp [Sp.wf] at h,fun h=>by simp [Sp.wf] at h⟩
 | cons h t ih1 ih2=>
  intro hp
  simp only [Sp.plain,Bool.and_eq_true] at hp
  refine ⟨fun h=>by simp [Sp.wf] at h,fun hw n hn=>?_⟩
  obtain ⟨_,h1,h2⟩:=hw
  simp only [Sp.Nd.els,List.mem_cons] at hn
  rcases hn with rfl | hn
  ·exact (ih1 hp.1).1 h1
  ·exact (ih2 hp.2).2 h2 n hn
 | clause a e ih=>exact fun _=>⟨fun h=>by simp [Sp.wf] at h,fun h=>by simp [Sp.wf] at h⟩
 | const v=>exact fun _=>⟨fun _=>rx_const T v,fun h=>by simp [Sp.wf] at h⟩
 | col t n a o sr ce=>exact fun _=>⟨fun _=>rx_col T t n a o sr ce,fun h=>by simp [Sp.wf] at h⟩
 | op wd a args ih=>exact fun hp=>⟨fun hw=>rx_op hN hw ((ih hp).2 hw.2.1),fun h=>by simp [Sp.wf] at h⟩
 | kase arms els ih1 ih2=>exact fun hp=>by simp [Sp.plain] at hp
 | arms wa e ta t r ih1 ih2 ih3=>exact fun hp=>by simp [Sp.plain] at hp
 | within wd a args q ih1 ih2=>exact fun hp=>by simp [Sp.plain] at hp
 | comb wd a all p q ih1 ih2=>exact fun _=>⟨fun h=>by simp [Sp.wf] at h,fun h=>by simp [Sp.wf] at h⟩
 | sel di st ex src wh ih1 ih2=>exact fun _=>⟨fun h=>by simp [Sp.wf] at h,fun h=>by simp [Sp.wf] at h⟩
def RhC (T:List Sp.Tb) (wh:Sp.Nd):Prop:=∀ (lo hi:Nat) (tv wv iv:Value) (env:List (List Sp.Row)) (lvs:List Sp.Lv) (w:World),Arn w tv env iv->Sp.Eo env lvs->Sp.bd T wh lvs->Rp w wh lo hi wv->hi<=w.heap.size->
 Calls Tryz.prog 150 #[wv,iv] w fun r w'=>r = .returned (.bool (Sp.holds T wh env))/\Gr w w'
theorem rh_none (T:List Sp.Tb):RhC T .none:=by
 intro lo hi tv wv iv env lvs w ha _ _ hr _
 obtain ⟨_,rfl⟩:=hr
 obtain ⟨ib,rfl,_⟩:=ha.ptr
 exact rholds_none
theorem rh_clause {T:List Sp.Tb} {N a:Nat} {e:Sp.Nd} (hw:Sp.wf N e .expr) (hX:RxC T e):RhC T (.clause a e):=by
 intro lo hi tv wv iv env lvs w ha he hb hr hh
 obtain ⟨b,v,m1,m2,rfl,l1,l2,hS,hA,hn,hR⟩:=hr
 obtain ⟨ib,rfl,_⟩:=ha.ptr
 unfold Sub at hS
 obtain ⟨t,q,rfl⟩:=hR.ifc hw
 have c1:=hA.k1
 exact rholds_some (po:=0) hA.1 (by rw [Nat.zero_add];exact c1) (hX m1 m2 tv _ _ env lvs w ha he hb hR (by omega))
theorem rh_main (T:List Sp.Tb) (N:Nat) (hN:N<=90000) (wh:Sp.Nd) (hp:Sp.plain wh=true) (hw:Sp.wf N wh .cl):RhC T wh:=by
 cases wh with
 | none=>exact rh_none T
 | clause a e=>exact rh_clause hw.2 ((rx_main T N hN e hp).1 hw.2)
 | _=>simp [Sp.wf] at hw
theorem infoRowC:(Tryz.prog.info? 41).map (fun i=>(i.zero,i.size,i.bytes))=some (some (.slice none 0 0),1,24):=by kernel_rfl
theorem growR_any (n:Nat) (h0:0<n) (hn:n<=100000) (w:World) :
  Calls Tryz.prog 230 #[.slice none 0 0, .int .i64 (n:Nat)] w fun e w'=>∃ g cap,e = .returned (.slice (some ⟨g,0,none⟩) 0 cap)/\w'.ownsRow w.heap.size 41 1 (.slice (some ⟨g,0,none⟩) 0 cap) 0 []/\n<=cap/\Below w.heap.size w w':=by
 obtain ⟨i0,ji,jz0,jz1,jz2⟩:=info_parts infoRowC
 have hb8:Tryz.t41.bytes=24:=rfl
 have hns:Builtin.nextslicecap n 0=n:=by unfold Builtin.nextslicecap;rw [if_pos (by omega)]
 have hn0:n≠0:=by omega
 have hm:(n:Int)<=9223372036854775807:=by omega
 go_enter Tryz.func230,Tryz.ntmps230
 go_wp2_with fail
 go_ret
 have hge:=grownCap_ge w n 0 41
 have hle:=grownCap_le_maxLen w n 0 41 (by unfold maxLen;omega)
 refine ⟨w.heap.size,grownCap w n 0 41,rfl,⟨rfl, .inr ⟨w.heap.size,_,_,rfl,Nat.le_refl _,heap_alloc_new w _,Nat.zero_le _,hle,?_,rfl⟩⟩,hge,below_drewN ((Below.refl _ _).alloc (Nat.le_refl _) _) 1⟩
 simp only [Array.size_append,size_zeroCells]
 show n*1+(grownCap w n 0 41 - n)*1=grownCap w n 0 41*1
 omega
theorem growR_zero (w:World) :
  Calls Tryz.prog 230 #[.slice none 0 0, .int .i64 0] w fun e w'=>e = .returned (.slice none 0 0)/\w'=w:=by
 go_enter Tryz.func230,Tryz.ntmps230
 go_wp2_with fail
 go_ret
 exact ⟨rfl,rfl⟩
theorem concatR_any (b off n c:Nat) (vs:List Value) (ls:List (List Value)) (w:World) (hz:n=vs.length) (hz2:ls.length=vs.length) (hb:b<w.heap.size) (hc:∀ j,(h:j<vs.length)->w.cell? ⟨b,off+j,none⟩=some vs[j])
  (hs:∀ j,(h:j<vs.length)->SlV w vs[j] (ls[j]?.getD [])) (h1:∀ l∈ls,∀ u∈l,u.oneCell'=true) (hbig:ls.flatten.length<=100000) (hn:n<=1000) :
  Calls Tryz.prog 190 #[.slice (some ⟨b,off,none⟩) n c] w fun e w'=>∃ v,e = .returned v/\w'.ownsRow w.heap.size 41 1 v ls.flatten.length ls.flatten/\(ls.flatten = []->v = .slice none 0 0)/\Below w.heap.size w w':=by
 obtain ⟨i0,ji,jz0,jz1,jz2⟩:=info_parts infoRowC
 have HZ:Hid (n=vs.length/\ls.length=vs.length):=⟨hz,hz2⟩
 have HC:=hid hc
 have HS:=hid hs
 have H1:=hid h1
 clear hz hz2 hc hs h1
 have HT:Hid (sumTo ls ls.length=ls.flatten.length):=sumTo_all ls
 go_enter Tryz.func190,Tryz.ntmps190
 go_wp2_with fail
 go_loopw [3,11] (fun sz i wr=>∃ k:Nat,k<=n/\i = .int .i64 k/\sz = .int .i64 (sumTo ls k:Nat)/\w=wr) (fun _ i _=>n - (intOf i).toNat)
 case atStart=>exact ⟨0,Nat.zero_le _,rfl,by rw [sumTo_zero];rfl,rfl⟩
 case round=>
  obtain ⟨k,hk,rfl,rfl,rfl⟩:=hrel
  by_cases hlt:k<n
  ·have hkz:k<vs.length:=by have:=HZ.out.1;omega
   have hkl:k<ls.length:=by have:=HZ.out;omega
   have c0:=HC.out k hkz
   obtain ⟨a0,c1,e0⟩:∃ a0 c1,vs[k] = .slice a0 ls[k].length c1:=by
    have:=HS.out k hkz
    rw [List.getElem?_eq_getElem hkl,Option.getD_some] at this
    rcases this with ⟨e,e'⟩ | ⟨blk,o,c',e,_⟩
    ·exact ⟨none,0,by rw [e,e'];rfl⟩
    ·exact ⟨_,_,e⟩
   rw [e0] at c0
   have HN:Hid (sumTo ls (k+1)=sumTo ls k+ls[k].length):=sumTo_succ ls k hkl
   have hle:sumTo ls k+ls[k].length<=100000:=by have:=sumTo_le ls (k+1);have:=HN.out;omega
   clear e0
   generalize ls[k].length=m at *
   generalize sumTo ls k=s0 at *
   go_wp2_with fail
   go_roundw
   case rel=>exact ⟨k+1,by omega,by go_num,by rw [HN.out];go_num,(by first | rfl | trivial)⟩
   case measure=>simp [intOf];omega
  ·obtain rfl:k=n:=by omega
   have HE:Hid (sumTo ls k=ls.flatten.length):=by show _=_;rw [<- HT.out];congr 1;have:=HZ.out;omega
   have hsl:=sumTo_le ls k
   by_cases ht:sumTo ls k=0
   ·rw [ht]
    have HQ:Hid (ls.flatten.length=0):=by show _=_;rw [<- HE.out];exact ht
    clear ht
    go_wp2_with fail
    refine (growR_zero w).mono ?_
    rintro e w1 ⟨rfl,ew⟩
    subst w1
    go_wp2_with fail
    go_loopw [6,27] (fun v i wr=>∃ j:Nat,j<=k/\i = .int .i64 j/\v = .slice none 0 0/\w=wr) (fun _ i _=>k - (intOf i).toNat)
    case atStart=>exact ⟨0,Nat.zero_le _,rfl,rfl,rfl⟩
    case round=>
     obtain ⟨j,hj,rfl,rfl,rfl⟩:=hrel
     by_cases hlt:j<k
     ·have hkz:j<vs.length:=by have:=HZ.out.1;omega
      have hkl:j<ls.length:=by have:=HZ.out;omega
      have c0:=HC.out j hkz
      have hm0:ls[j].length=0:=by have:=sumTo_succ ls j hkl;have:=sumTo_le ls (j+1);have:=HQ.out;omega
      obtain ⟨a0,c1,e0⟩:∃ a0 c1,vs[j] = .slice a0 0 c1:=by
       have:=HS.out j hkz
       rw [List.getElem?_eq_getElem hkl,Option.getD_some] at this
       rcases this with ⟨e,e'⟩ | ⟨blk,o,c',e,_⟩
       ·exact ⟨none,0,e⟩
       ·exact ⟨_,_,by rw [e,hm0]⟩
      rw [e0] at c0
      clear e0 hm0
      cases a0 with
      | none=>
       go_wp2_with fail
       go_roundw
       case rel=>exact ⟨j+1,by omega,by go_num,(by first | rfl | trivial),(by first | rfl | trivial)⟩
       case measure=>simp [intOf];omega
      | some a0=>
       go_wp2_with fail
       go_roundw
       case rel=>exact ⟨j+1,by omega,by go_num,(by first | rfl | trivial),(by first | rfl | trivial)⟩
       case measure=>simp [intOf];omega
     ·go_wp2_with fail
      go_ret
      have hq:ls.flatten = []:=List.eq_nil_of_length_eq_zero HQ.out
      exact ⟨_,rfl,by rw [hq];exact ⟨rfl, .inl ⟨rfl,rfl⟩⟩,fun _=>rfl,Below.refl _ _⟩
   ·have hle:sumTo ls k<=100000:=by omega
    have HP:Hid (ls.flatten ≠ []):=fun h=>ht (by rw [HE.out,h];rfl)
    have HG:Hid (∀ w1,Calls Tryz.prog 230 #[.slice none 0 0, .int .i64 (sumTo ls k:Nat)] w1 fun e w'=>∃ g cap,e = .returned (.slice (some ⟨g,0,none⟩) 0 cap)/\w'.ownsRow w1.heap.size 41 1 (.slice (some ⟨g,0,none⟩) 0 cap) 0 []/\sumTo ls k<=cap/\Below w1.heap.size w1 w'):=fun w1=>growR_any _ (by omega) hle w1
    go_wp2_with fail
    refine (HG.out w).mono ?_
    rintro e w1 ⟨g,cap,rfl,hown,hcap,hb1⟩
    have HO:=hid hown
    have HB:=hid hb1
    have hgw:=(owns_lt hown).1
    clear hown hb1 HG
    go_wp2_with fail
    go_loopw [6,27] (fun v i wr=>∃ j:Nat,j<=k/\i = .int .i64 j/\v = .slice (some ⟨g,0,none⟩) (sumTo ls j) cap/\Hid (wr.ownsRow w.heap.size 41 1 (.slice (some ⟨g,0,none⟩) (sumTo ls j) cap) (sumTo ls j) (ls.take j).flatten)/\Hid (Below w.heap.size w wr)) (fun _ i _=>k - (intOf i).toNat)
    case atStart=>exact ⟨0,Nat.zero_le _,rfl,by rw [sumTo_zero],by rw [sumTo_zero];exact HO,HB⟩
    case round=>
     obtain ⟨j,hj,rfl,rfl,HOr,HBr⟩:=hrel
     by_cases hlt:j<k
     ·have hkz:j<vs.length:=by have:=HZ.out.1;omega
      have hkl:j<ls.length:=by have:=HZ.out;omega
      have c0:=(HBr.out.cell (p:=⟨b,off+j,none⟩) hb).trans (HC.out j hkz)
      obtain ⟨a0,c1,e0,hnone,hcells⟩:∃ a0 c1,vs[j] = .slice a0 ls[j].length c1/\(a0=none->ls[j].length=0/\c1=0)/\∀ ad,a0=some ad->∀ i u,ls[j][i]?=some u->wr.cell? (ad.add i)=some u:=by
       have:=(HS.out j hkz).below HBr.out
       rw [List.getElem?_eq_getElem hkl,Option.getD_some] at this
       rcases this with ⟨e,e'⟩ | ⟨blk,o,c',e,hb',hc'⟩
       ·exact ⟨none,0,by rw [e,e'];rfl,fun _=>⟨by rw [e'];rfl,rfl⟩,fun ad h=>by cases h⟩
       ·refine ⟨_,_,e,fun h=>(by cases h),fun ad h i u hu=>?_⟩
        injection h with h
        subst h
        rw [Addr.add_lit]
        obtain ⟨hi,rfl⟩:=List.getElem?_eq_some_iff.1 hu
        exact hc' i hi
      rw [e0] at c0
      have HH0:Hid ((a0=none->ls[j].length=0/\c1=0)/\∀ ad,a0=some ad->∀ i u,ls[j][i]?=some u->wr.cell? (ad.add i)=some u):=⟨hnone,hcells⟩
      have HN:Hid (sumTo ls (j+1)=sumTo ls j+ls[j].length):=sumTo_succ ls j hkl
      have HFL:Hid ((ls.take (j+1)).flatten=(ls.take j).flatten++ls[j]):=flat_succ ls j hkl
      have HM1:Hid (∀ u∈ls[j],u.oneCell'=true):=H1.out _ (List.getElem_mem hkl)
      have HEx:Hid (sumTo ls j+ls[j].length<=cap):=by
       have h1:=sumTo_le ls (j+1)
       have h2:=HN.out
       have h3:=HE.out
       show _<=_
       omega
      clear e0 hnone hcells
      go_wp2_with (at_builtin;go_must (refine wpList_append_fits_any _ rfl (.tmp 31) (.tmp 32) 32 rfl w.heap.size 41 i0 1 Tryz.underlying32 ji jz1 g (sumTo ls j) cap (ls.take j).flatten rfl HOr.out a0 ls[j].length c1 ls[j] rfl (by rw [Nat.mul_one]) HH0.out.1 HH0.out.2 HM1.out HEx.out ?_))
      intro w2 hown2 hgrow2
      have HO2:=hid hown2
      have HB2:Hid (Below w.heap.size w w2):=⟨hgrow2.os.trans HBr.out.os,hgrow2.tape.trans HBr.out.tape,hgrow2.output.trans HBr.out.output,Nat.le_trans HBr.out.size hgrow2.size,fun q hq=>(hgrow2.block q (Nat.lt_of_lt_of_le hq HBr.out.size) (by intro e;injection e with e;omega)).trans (HBr.out.block q hq)⟩
      clear hown2 hgrow2
      go_wp2_with fail
      go_roundw
      case rel=>exact ⟨j+1,by omega,by go_num,by rw [HN.out],by rw [HN.out,HFL.out];exact HO2,HB2⟩
      case measure=>simp [intOf];omega
     ·obtain rfl:j=k:=by omega
      have HFL:Hid ((ls.take j).flatten=ls.flatten):=by show _=_;rw [List.take_of_length_le (by have:=HZ.out;omega)]
      go_wp2_with fail
      go_ret
      exact ⟨_,rfl,by rw [<- HE.out,<- HFL.out];exact HOr.out,fun h=>absurd h HP.out,HBr.out⟩
theorem len64_zero (w:World):Calls Tryz.prog 305 #[.int .u64 0] w fun e w'=>e = .returned (.int .i64 0)/\w'=w:=by
 go_enter Tryz.func305,Tryz.ntmps305
 go_wp2_with fail
 go_ret
 exact ⟨by kernel_rfl,rfl⟩
theorem bitsLen_zero (w:World):Calls Tryz.prog 275 #[.int .u64 0] w fun e w'=>e = .returned (.int .i64 0)/\w'=w:=by
 go_enter Tryz.func275,Tryz.ntmps275
 go_wp2_with fail
 refine (len64_zero w).mono ?_
 rintro e w1 ⟨rfl,rfl⟩
 go_wp2_with fail
 go_ret
 exact ⟨rfl,rfl⟩
theorem ins_nil (cv:Value) (w:World):Calls Tryz.prog 296 #[.slice none 0 0, .int .i64 0, .int .i64 0,cv] w fun e w'=>e = .returned (.tuple #[])/\w'=w:=by
 go_enter Tryz.func296,Tryz.ntmps296
 go_wp2_with fail
 go_loopw [8] (fun i wr=>i = .int .i64 1/\wr=w) (fun _ _=>0)
 case atStart=>exact ⟨rfl,rfl⟩
 case round=>
  obtain ⟨rfl,rfl⟩:=hrel
  go_wp2_with fail
  go_end0
  exact ⟨rfl,rfl⟩
theorem pdq_nil (cv:Value) (w:World):Calls Tryz.prog 274 #[.slice none 0 0, .int .i64 0, .int .i64 0, .int .i64 0,cv] w fun e w'=>e = .returned (.tuple #[])/\w'=w:=by
 go_enter Tryz.func274,Tryz.ntmps274
 go_wp2_with fail
 go_loopw [1,2] (fun a b wr=>a = .int .i64 0/\b = .int .i64 0/\wr=w) (fun _ _ _=>0)
 case atStart=>exact ⟨rfl,rfl,rfl⟩
 case round=>
  obtain ⟨rfl,rfl,rfl⟩:=hrel
  go_wp2_with fail
  refine (ins_nil cv _).mono ?_
  rintro e w1 ⟨rfl,rfl⟩
  go_wp2_with fail
  refine bodyPost_ret (results_none rfl _ _ _) rfl ?_
  exact ⟨rfl,rfl⟩
theorem sort_nil (w:World):Calls Tryz.prog 238 #[.slice none 0 0, .func (.func 239) #[] #[]] w fun e w'=>e = .returned (.tuple #[])/\Gr w w':=by
 go_enter Tryz.func238,Tryz.ntmps238
 go_wp2_with fail
 refine (bitsLen_zero _).mono ?_
 rintro e1 w1 ⟨rfl,rfl⟩
 go_wp2_with fail
 refine (pdq_nil _ _).mono ?_
 rintro e1 w2 ⟨rfl,rfl⟩
 go_wp2_with fail
 go_end0
 exact ⟨rfl,Gr.refl _⟩
end Go.Proofs.YtgnncnhkgmhngaaGreatDoor
