import Derived.Test.YtgnncnhkgmhngaaGreatDoorJ23
set_option maxHeartbeats 4000000
set_option maxRecDepth 100000
namespace Go.Proofs.YtgnncnhkgmhngaaGreatDoor
open Sp
open Tryz
open Go.RowKit Go.Sort
theorem Kq (T:List Sp.Tb) (aC:List Sp.Lv) (ns:List Nd) (c:CS) (j:Nat) (h:j<ns.length):lO T aC (ns.take (j+1)) c=((lO T aC (ns.take j) c).1 ++ [(Sp.ck T ns[j] aC 0 (lO T aC (ns.take j) c).2.1).1.headD 0],(Sp.ck T ns[j] aC 0 (lO T aC (ns.take j) c).2.1).2.1,(lO T aC (ns.take j) c).2.2 ++ [(Sp.ck T ns[j] aC 0 (lO T aC (ns.take j) c).2.1).2.2]):=by
 rw [sA h,Gc];rfl
theorem ED {T:List Sp.Tb} {N:Nat} {nd:Nd} (hw:wf N nd .list) (hN:nd.len<=90000) (hE:∀ n∈nd.els,sH T n):MW T nd:=by
 intro k cb m lo hi tv sv iv c aC w he hd hr hsi
 obtain ⟨i0,ji,fU,jz1,fV⟩:=info_parts pZ
 obtain ⟨e1,e2,e3⟩:=iT N nd hw
 generalize hns:nd.els=ns at *
 have hdn:∀ n∈ns,aC.length+n.dep<=100000:=λn hn=>by have:=B5 ns n hn;rw [<- e1] at this;omega
 rw [e1] at hr
 have hle:=Rp.le _ _ _ _ hr
 have HV:Hid ((Sp.ck T nd aC 0 c).1.dropLast=(lO T aC ns c).1/\(Sp.ck T nd aC 0 c).2.1=(lO T aC ns c).2.1/\(Sp.ck T nd aC 0 c).2.2=gZ (lO T aC ns c).2.2 .nil):=by
  have h:=Ad T N aC ns c e3
  rw [<- e1] at h
  rw [h]
  exact ⟨by simp,rfl,rfl⟩
 rw [<- e2] at hN
 have hcw:=he.ck.lt
 have hmw:=he.mw
 have hcm:=he.cm
 have DD:=he.hic
 obtain ⟨ia,rfl⟩:=he.sc.ptr
 clear e1 e2 hw hns
 cases ns with
 | nil=>
  obtain ⟨_,sa,sc,rfl⟩:=hr
  have HE:=hid he
  clear he hE hdn e3
  go_enter func180,ntmps180
  go_wp2_with fail
  go_loopw [7,12] (λv i wr=>v = .slice none 0 0/\i = .int .i64 0/\wr=w) (λ_ _ _=>0)
  case atStart=>exact ⟨rfl,rfl,rfl⟩
  case round=>
   obtain ⟨rfl,rfl,rfl⟩:=hrel
   go_wp2_with fail
   go_ret
   refine ⟨_,rfl,by rw [HV.out.1];exact fB.nil _ _,by rw [HV.out.2.1];exact HE.out.ck,by rw [HV.out.2.2];exact ⟨hle,_,_,rfl⟩,Fc.refl _ _ _ _⟩
 | cons n0 ns'=>
  obtain ⟨blk,off,n,cp,rfl,hbl⟩:∃ blk off n c,sv = .slice (some ⟨blk,off,none⟩) n c/\blk<w.heap.size:=by
   simp only [gZ,List.foldr_cons] at hr
   obtain ⟨blk,off,n,c,v,m1,m2,e,hl,_⟩:=hr
   exact ⟨blk,off,_,c,e,hl⟩
  obtain ⟨hn,xs,hel,hxs⟩:=Rp.els (n0::ns') lo hi blk off n cp hr
  have hbi:=hsi blk off n cp rfl
  have hbc:blk<cb:=hbi.2
  clear hr hsi
  generalize n0::ns'=ns at *
  have HN:=hid hn
  have HEX:=hid hE
  have Zj:=hid hdn
  have XE:=hid hxs
  have HE:=hid he
  have Vu:=hid hel
  rw [<- hn] at hN
  clear hE hdn hxs he hel hn e3
  go_enter func180,ntmps180
  go_wp2_with fail
  go_loopw [7,12] (λv i wr=>∃ j:Nat,j<=n/\i = .int .i64 (j:Nat)/\Hid (fB w.heap.size wr v (lO T aC (ns.take j) c).1)/\Hid (CB cb tv (lO T aC (ns.take j) c).2.1 wr)/\Hid (mU wr blk ((lO T aC (ns.take j) c).2.2++ns.drop j) xs lo hi)/\Hid (Fc cb lo hi w wr)/\Hid (wr.heap[blk]?=w.heap[blk]?)) (λ_ i _=>n - (intOf i).toNat)
  case atStart=>exact ⟨0,eX _,rfl,fB.nil _ _,HE.out.ck,Vu,Fc.refl _ _ _ _,rfl⟩
  case round=>
   obtain ⟨j,hj,rfl,HO,tL,pA,HF,qF⟩:=hrel
   have SC:=hid (HE.out.next (aF _) (aF _) hle HF.out tL.out)
   by_cases hlt:j<n
   ·have hjz:j<ns.length:=by have:=HN.out;omega
    have hl2:=(tK T aC (ns.take j) c)
    rw [List.length_take,Nat.min_eq_left (by omega)] at hl2
    have HS:=hid (Kq T aC ns c j hjz)
    have hx:=pA.out
    rw [lJ hjz] at hx
    obtain ⟨m1,m2,x,ex,l1,l2,l3,l4,l5,l6,l7⟩:=mU.upd _ _ _ _ _ _ hx
    rw [hl2.2] at ex
    have c0:=(dV (w:=w) (a:=⟨blk,off+j,none⟩) qF.out).trans (XE.out j x ex)
    have HC:=HEX.out _ (hU hjz) k cb m m1 m2 tv x (.pointer ia) _ aC wr (SC.out.part l1 l3) (Zj.out _ (hU hjz)) l6
    have SD:=hid HC
    have XF:=hid l7
    have hLlen:(lO T aC (ns.take j) c).1.length<=90000:=by omega
    clear HC l7 hx pA l6 ex hl2
    generalize lO T aC (ns.take j) c=R at *
    generalize ns[j]=nj at *
    generalize (Sp.ck T nj aC 0 R.2.1).1.headD 0=ty at SD HS
    go_wp2_with fail
    refine SD.out.mono ?_
    rintro e w2 ⟨rfl,h2,r2,f2⟩
    have hblk:blk≠cb/\¬ (m1<=blk/\blk<m2):=⟨by omega,l4⟩
    have PE:=HF.out.size
    have hwr:w.heap.size<=wr.heap.size:=PE
    have HC2:=hid h2
    have HL2:Hid (mU w2 blk (R.2.2++(Sp.ck T nj aC 0 R.2.1).2.2::ns.drop (j+1)) xs lo hi):=XF.out w2 _ f2.size (λq q1 q2 q3 q4=>f2.block q (by omega) (by omega) q4) r2
    have HF2:Hid (Fc cb lo hi w w2):=HF.out.trans (f2.wide l1 l3)
    have HB2:Hid (w2.heap[blk]?=w.heap[blk]?):=(f2.block blk (by omega) hblk.1 hblk.2).trans qF.out
    have fW:Hid (fB w.heap.size w2 u7 R.1):=HO.out.same λb e=>f2.block b (aB HO.out b e).2 (by have:=(aB HO.out b e).1;omega) (by have:=(aB HO.out b e).1;omega)
    have hz2:=HF2.out.size
    clear h2 r2 f2 SD XF
    go_wp2_with (at_builtin;go_must (refine wpList_append_own _ rfl (.tmp 16) (.tmp 21) 206 rfl w.heap.size 3 i0 (.int .i64 0) 1 8 underlying206 ji fU jz1 fV rfl (by decide) _ _ _ rfl (fW.out.alloc _) ⟨_,0,none⟩ 1 1 [.int .i64 ty] rfl rfl (FQ _ _ rfl) (tF _) ?c3 ?c4 ?c5 ?_))
    case c3=>unfold maxLen;omega
    case c4=>omega
    case c5=>simp;omega
    intro v' w3 hown hgrow _
    have hb3:Below w.heap.size w2 w3:=((Below.refl w.heap.size w2).alloc hz2 _).grown hgrow (by simp;omega) (λq e=>(aB fW.out q e).1)
    have oA:Hid (fB w.heap.size w3 v' (lO T aC (ns.take (j+1)) c).1):=by
     show fB _ _ _ _
     rw [HS.out]
     rw [p6] at hown
     simpa [fB] using hown
    have HF3:Hid (Fc cb lo hi w w3):=⟨hb3.os.trans HF2.out.os,hb3.tape.trans HF2.out.tape,hb3.output.trans HF2.out.output,cF hz2 hb3.size,λq hq h1 h2=>(hb3.block q hq).trans (HF2.out.block q hq h1 h2),λq hq h1 h2=>(hb3.block q hq).trans (HF2.out.slc q hq h1 h2)⟩
    have Sc:Hid (mU w3 blk ((lO T aC (ns.take (j+1)) c).2.2++ns.drop (j+1)) xs lo hi):=by
     show mU _ _ _ _ _ _
     rw [HS.out]
     have E:=HL2.out.frame hb3.size λq h1 h2 _=>hb3.block q (by omega)
     simpa using E
    have Hz:Hid (CB cb tv (lO T aC (ns.take (j+1)) c).2.1 w3):=by
     show CB _ _ _ _
     rw [HS.out]
     exact HC2.out.same hb3.size (hb3.block cb hcw)
    have HB3:Hid (w3.heap[blk]?=w.heap[blk]?):=(hb3.block blk hbl).trans HB2.out
    clear hown hgrow
    go_wp2_with fail
    go_roundw
    case rel=>exact ⟨j+1,by omega,by go_num,oA,Hz,Sc,HF3,HB3⟩
    case measure=>simp [intOf];omega
   ·have hje:ns.take j=ns:=tD (by have:=HN.out;omega)
    have Uq:Hid (lO T aC (ns.take j) c=lO T aC ns c/\ns.drop j = []):=⟨by rw [hje],Bn (by have:=HN.out;omega)⟩
    clear hje
    go_wp2_with fail
    go_ret
    have E:=pA.out
    rw [Uq.out.1,Uq.out.2,List.append_nil] at E
    have hlen:=(tK T aC ns c).2
    refine ⟨_,rfl,by rw [HV.out.1,<- Uq.out.1];exact HO.out,by rw [HV.out.2.1,<- Uq.out.1];exact tL.out,?_,HF.out⟩
    rw [HV.out.2.2]
    have R:=mU.rp (off:=off) (b6 hbl HF.out.size) cp E (λq u hq=>(dV (w:=w) (a:=⟨blk,off+q,none⟩) qF.out).trans (XE.out q u hq))
    rw [hlen,<- HN.out] at R
    exact R
theorem En.gr {T:List Sp.Tb} {k cb m:Nat} {tv:Value} {c:CS} {aC:List Sp.Lv} {iv:Value} {lo hi:Nat} {w w' : World} (h:En T k cb m tv c aC iv lo hi w) (g:Gr w w'):En T k cb m tv c aC iv lo hi w':=
 ⟨h.ck.gr g,h.tb.low (Low.eA g),h.sc.ou h.kw (Ou.gr g),h.Rc,h.hic,h.cm,cF h.mw g.size⟩
theorem Rp.gr {w w' : World} {nd:Nd} {lo hi:Nat} {x:Value} (h:Rp w nd lo hi x) (g:Gr w w') (hh:hi<=w.heap.size) (hx:∀ blk off n c,x = .slice (some ⟨blk,off,none⟩) n c->blk<w.heap.size):Rp w' nd lo hi x:=
 h.frame g.size _ _ _ _ (λq _ h2=>g.below.block q (by omega)) (λblk off n c e=>g.below.block blk (hx blk off n c e))
theorem Rp.Ur {w w' : World} {nd:Nd} {lo hi:Nat} {x:Value} (h:Rp w nd lo hi x) (g:Gr w w') (hh:hi<=w.heap.size) (hx:b9 x):Rp w' nd lo hi x:=h.gr g hh λ_ _ _ _ e=>absurd e (hx _ _ _)
theorem Rp.u6 {cb:Nat} {w w' : World} {nd:Nd} {lo hi:Nat} {x:Value} (h:Rp w nd lo hi x) (g:Kept cb w w') (hh:hi<=cb) (hc:cb<w.heap.size) (hx:b9 x):Rp w' nd lo hi x:=
 h.frame g.size _ _ _ _ (λq _ h2=>g.block q (by omega) (by omega)) (λ_ _ _ _ e=>absurd e (hx _ _ _))
theorem Rp.SE {w:World} {nd:Nd} {lo hi N:Nat} {x:Value} (h:Rp w nd lo hi x) (hw:wf N nd .list):∃ a n c,x = .slice a n c:=by
 cases nd with
 | nil=>obtain ⟨_,a,c,e⟩:=h;exact ⟨_,_,_,e⟩
 | cons _ _=>obtain ⟨blk,off,n,c,v,_,_,e,_⟩:=h;exact ⟨_,_,_,e⟩
 | _=>simp [wf] at hw
theorem vA (w:World) (x y:Int):Si (w.alloc (.cells #[.int .i64 x, .int .i64 y] 3)) (.slice (some ⟨w.heap.size,0,none⟩) 2 2) [x,y]:=JQ w _ [x,y] rfl _ 2
theorem rN {T:List Sp.Tb} {k cb m lo hi a pb po:Nat} {tv ev iv:Value} {c:CS} {aC:List Sp.Lv} {w:World} {e:Nd} (hE:sH T e) (he:En T k cb m tv c aC iv lo hi w) (hd:aC.length+e.dep<=100000) (hr:Rp w e lo hi ev) (_hlh:lo<=hi) (hp:pb<w.heap.size) (hpc:pb≠cb) (hpi:¬ (lo<=pb/\pb<hi))
  (c0:w.cell? ⟨pb,po,none⟩=some (.int .i64 (a:Nat))) (c1:w.cell? ⟨pb,po+1,none⟩=some ev) (hn:b9 ev) :
  Calls prog 138 #[.pointer (some ⟨cb,0,none⟩), .pointer (some ⟨pb,po,none⟩),iv] w λr w'=>r = .returned (.tuple #[])/\CB cb tv ((Sp.ck T e aC 0 c).2.1.fit a [1,(Sp.ck T e aC 0 c).1.headD 0]).2 w'/\Rp w' (Sp.ck T e aC 0 c).2.2 lo hi ev/\Fc cb lo hi w w':=by
 have hcw:=he.ck.lt
 have DD:=he.hic
 obtain ⟨ia,rfl⟩:=he.sc.ptr
 have HC:=hid (hE k cb m lo hi tv ev (.pointer ia) c aC w.drew (he.gr (Gr.refl w).drew) hd (hr.Ur (Gr.refl w).drew (by omega) hn))
 have HN:=hid hn
 clear hE he hd hr hn
 generalize Sp.ck T e aC 0 c=R at *
 obtain ⟨R1,R2,R3⟩:=R
 simp only [] at HC ⊢
 generalize R1.headD 0=ty at *
 go_enter func138,ntmps138
 go_wp2_with fail
 go_region_held3 (λw'=>w'.cell? ⟨pb,po,none⟩=some (.int .i64 (a:Nat))/\w'.cell? ⟨pb,po+1,none⟩=some ev) (first | go_keep | exact ⟨c0,c1⟩ | exact ⟨d0,d1⟩ | exact ⟨f0,f1⟩ | exact ⟨g0,g1⟩) (first | (go_at_call 182;refine HC.out.mono ?_;rintro e2 w2 ⟨rfl,h2,r2,f2⟩;have d0:=(f2.cell (p:=⟨pb,po,none⟩) hp hpc hpi).trans c0;have d1:=(f2.cell (p:=⟨pb,po+1,none⟩) hp hpc hpi).trans c1;have hz2:w.heap.size<=w2.heap.size:=f2.size;have f0:=(((Gr.refl w2).alloc (.cells #[.int .i64 1, .int .i64 ty] 3)).cell (p:=⟨pb,po,none⟩) (by show pb<_;omega)).trans d0;have f1:=(((Gr.refl w2).alloc (.cells #[.int .i64 1, .int .i64 ty] 3)).cell (p:=⟨pb,po+1,none⟩) (by show pb<_;omega)).trans d1) | (go_at_call 181;refine (eY (h2.alloc (.cells #[.int .i64 1, .int .i64 ty] 3)) a (vA w2 1 ty) (by simp)).mono ?_;rintro e3 w3 ⟨rfl,h3,k3⟩;have g0:=(k3.cell (p:=⟨pb,po,none⟩) (by simp;omega) hpc).trans f0;have g1:=(k3.cell (p:=⟨pb,po+1,none⟩) (by simp;omega) hpc).trans f1))
 go_end0
 have Vv : Kept cb w2 w3:=((Kept.refl cb w2).alloc _).trans k3
 exact ⟨rfl,h3,r2.u6 Vv DD (by omega) HN.out,(Fc.drewN (Fc.refl cb lo hi w) 1).trans (f2.trans (Fc.of Vv))⟩
theorem yG {cb:Nat} {ia:Option Addr} {w:World} :
  Calls prog 138 #[.pointer (some ⟨cb,0,none⟩), .pointer none, .pointer ia] w λr w'=>r = .returned (.tuple #[])/\w'=w:=by
 go_enter func138,ntmps138
 go_wp2_with fail
 go_end0
 exact ⟨rfl,rfl⟩
theorem Kr {T:List Sp.Tb} {k cb m lo hi m1 m2 a b:Nat} {tv sv iv:Value} {c:CS} {aC:List Sp.Lv} {w:World} {wd:Sp.Bs} {args:Nd} (hE:MW T args) {N:Nat} (hw:wf N args .list) (he:En T k cb m tv c aC iv lo hi w) (hd:aC.length+args.dep<=100000) (hlen:∀ c,(Sp.ck T args aC 0 c).1.dropLast.length<=90000)
  (hb:lo<=b/\b<hi) (hS:Sub lo hi b m1 m2) (hA:At w b [.string (bz wd), .int .i64 (a:Nat),sv]) (hI:xR lo hi sv) (hr:Rp w args m1 m2 sv) :
  Calls prog 222 #[.pointer (some ⟨cb,0,none⟩), .pointer (some ⟨b,0,none⟩),iv] w λr w'=>r = .returned (.int .i64 (typeOf wd (Sp.ck T args aC 0 c).1.dropLast).1)/\CB cb tv (if (typeOf wd (Sp.ck T args aC 0 c).1.dropLast).2 then (Sp.ck T args aC 0 c).2.1 else (Sp.ck T args aC 0 c).2.1.fail 5 a) w'/\Rp w' (Sp.ck T args aC 0 c).2.2 m1 m2 sv/\Fc cb m1 m2 w w':=by
 have hcw:=he.ck.lt
 have DD:=he.hic
 obtain ⟨ia,rfl⟩:=he.sc.ptr
 unfold Sub at hS
 have HC:=hid (hE k cb m m1 m2 tv sv (.pointer ia) c aC w.drew ((he.part hS.1 hS.2.2.1).gr (Gr.refl w).drew) hd (hr.gr (Gr.refl w).drew (by omega) λblk off n c e=>by have:=hI blk off n c e;omega) (λblk off n c e=>by have:=hI blk off n c e;omega))
 have hln:=hlen c
 have c0:=hA.k0
 have c1:=hA.k1
 have c2:=hA.k2
 have hbw:=hA.1
 have HI:=hid hI
 obtain ⟨va,vn,vc,rfl⟩:=hr.SE hw
 clear hE he hd hr hI hA hlen hw
 generalize Sp.ck T args aC 0 c=R at *
 obtain ⟨R1,R2,R3⟩:=R
 simp only [] at HC hln ⊢
 generalize R1.dropLast=iZ at *
 have XG:Hid (∀ w v,Si w v iZ->Calls prog 258 #[.string (bz wd),v] w λe w'=>e = .returned (.tuple #[.int .i64 (typeOf wd iZ).1, .bool (typeOf wd iZ).2])/\Below w.heap.size w w'):=λw v h=>by
  have:=D5 (bz wd) h hln
  rw [cY] at this
  exact this
 generalize typeOf wd iZ=tt at *
 obtain ⟨t1,t2⟩:=tt
 simp only [] at XG ⊢
 go_enter func222,ntmps222
 go_wp2_with fail
 go_region_held3 (λw'=>w'.cell? ⟨b,0,none⟩=some (.string (bz wd))/\w'.cell? ⟨b,2,none⟩=some (.slice va vn vc)) (first | go_keep | exact ⟨c0,c2⟩ | exact ⟨d0,d2⟩ | exact ⟨f0,f2⟩) (first | (go_at_call 180;refine HC.out.mono ?_;rintro e2 w2 ⟨v2,rfl,o2,h2,r2,g2⟩;have d0:=(g2.cell (p:=⟨b,0,none⟩) hbw (by show b≠cb;omega) (by show ¬ (m1<=b/\b<m2);omega)).trans c0;have d1:=(g2.cell (p:=⟨b,1,none⟩) hbw (by show b≠cb;omega) (by show ¬ (m1<=b/\b<m2);omega)).trans c1;have d2:=(g2.cell (p:=⟨b,2,none⟩) hbw (by show b≠cb;omega) (by show ¬ (m1<=b/\b<m2);omega)).trans c2;have hz2:w.heap.size<=w2.heap.size:=g2.size;obtain ⟨oa,oc,rfl⟩:=o2.sl) | (go_at_call 258;refine (XG.out _ _ o2.si).mono ?_;rintro e3 w3 ⟨rfl,g3⟩;have f0:=(g3.cell (p:=⟨b,0,none⟩) (by show b<_;omega)).trans d0;have f1:=(g3.cell (p:=⟨b,1,none⟩) (by show b<_;omega)).trans d1;have f2:=(g3.cell (p:=⟨b,2,none⟩) (by show b<_;omega)).trans d2))
 have HK:=hid (Kept.below (b:=cb) g3)
 have HB3:=hid g3
 have H3:=hid (h2.same g3.size (g3.block cb h2.lt))
 have HR3:=hid (r2.frame g3.size _ _ _ _ (λq _ q2=>g3.block q (by omega)) (λblk off n c e=>g3.block blk (by have:=HI.out blk off n c e;omega)))
 have HF:=hid ((Fc.drewN (Fc.refl cb m1 m2 w) 1).trans (g2.trans (Fc.of HK.out)))
 clear o2 h2 r2 g2 g3 HC c0 c1 c2 d0 d1 d2 f0 f2
 try clear hHeld
 cases t2
 ·go_wp2_with fail
  refine (cW H3.out 5 a).mono ?_
  rintro e4 w4 ⟨rfl,h4,k4⟩
  have HX:=hid (And.intro h4 k4)
  clear h4 k4
  go_wp2_with fail
  go_ret
  exact ⟨rfl,HX.out.1,HR3.out.frame HX.out.2.size _ _ _ _ (λq _ q2=>HX.out.2.block q (by have:=HB3.out.size;omega) (by omega)) (λblk off n c e=>HX.out.2.block blk (by have:=HI.out blk off n c e;have:=HB3.out.size;omega) (by have:=HI.out blk off n c e;omega)),HF.out.trans (Fc.of HX.out.2)⟩
 ·go_wp2_with fail
  go_ret
  exact ⟨rfl,H3.out,HR3.out,HF.out⟩
abbrev pB:=Nat×Nd×Nat×Nd
def Sp.Nd.wX:Nd->List pB
 | .arms wa e ta t r=>(wa,e,ta,t)::r.wX
 | _ => []
def Sb (b:Nat) (w w' : World):Prop:=w'.heap[b]?=w.heap[b]?
theorem Rp.Md {w:World} {nd:Nd} {lo hi N:Nat} {x:Value} (h:Rp w nd lo hi x) (hw:wf N nd .expr):∃ t q,x = .iface t (.pointer (some ⟨q,0,none⟩)):=by
 cases nd with
 | const _=>obtain ⟨b,e,_⟩:=h;exact ⟨_,_,e⟩
 | col _ _ _ _ _ _=>obtain ⟨b,e,_⟩:=h;exact ⟨_,_,e⟩
 | op _ _ _=>obtain ⟨b,_,_,_,e,_⟩:=h;exact ⟨_,_,e⟩
 | b8 _ _=>obtain ⟨b,_,_,_,_,_,e,_⟩:=h;exact ⟨_,_,e⟩
 | within _ _ _ _=>obtain ⟨b,_,_,_,_,_,_,e,_⟩:=h;exact ⟨_,_,e⟩
 | _=>simp [wf] at hw
theorem fB.fc {base cb lo hi:Nat} {w w' : World} {v:Value} {l:List Int} (h:fB base w v l) (f:Fc cb lo hi w w') (h1:cb<base) (h2:hi<=base):fB base w' v l:=
 h.same λb e=>f.block b (aB h b e).2 (by have:=(aB h b e).1;omega) (by have:=(aB h b e).1;omega)
theorem fB.wide {base base' : Nat} {w:World} {v:Value} {l:List Int} (h:fB base w v l) (hb:base'<=base):fB base' w v l:=by
 obtain ⟨hl,h | ⟨g,cap,cur,hv,h0,r⟩⟩:=h
 ·exact ⟨hl, .inl h⟩
 ·exact ⟨hl, .inr ⟨g,cap,cur,hv,by omega,r⟩⟩
theorem B7 {T:List Sp.Tb} {k cb m lo hi:Nat} {tv wv iv:Value} {c:CS} {aC:List Sp.Lv} {w:World} {wh:Nd} (hW:wh = .none\/∃ a e,wh = .clause a e/\sH T e/\aC.length+e.dep<=100000) (he:En T k cb m tv c aC iv lo hi w) (hr:Rp w wh lo hi wv) :
  Calls prog 138 #[.pointer (some ⟨cb,0,none⟩),wv,iv] w λr w'=>r = .returned (.tuple #[])/\CB cb tv (Sp.cond T wh aC c).1 w'/\Rp w' (Sp.cond T wh aC c).2 lo hi wv/\Fc cb lo hi w w':=by
 have hcw:=he.ck.lt
 have DD:=he.hic
 rcases hW with rfl | ⟨a,en,rfl,hEe,hde⟩
 ·have e1:wv = .pointer none:=hr.2
  subst e1
  obtain ⟨ia,rfl⟩:=he.sc.ptr
  refine yG.mono ?_
  rintro e w' ⟨rfl,rfl⟩
  exact ⟨rfl,he.ck,hr,Fc.refl _ _ _ _⟩
 ·obtain ⟨b',v,p1,p2,rfl,hb1,hb2,hS,hAt,Ej,hre⟩:=hr
  unfold Sub at hS
  have OA:=hAt.k0
  have MX:=hAt.k1
  refine (rN (a:=a) hEe (he.part (by omega:lo<=p1) (by omega:p2<=hi)) hde hre hS.2.1 hAt.1 (by omega) (by omega) OA MX Ej).mono ?_
  rintro e w3 ⟨rfl,h3,r3,f3⟩
  refine ⟨rfl,h3,?_,f3.wide (by omega) (by omega)⟩
  exact ⟨b',v,p1,p2,rfl,hb1,hb2,by unfold Sub;omega,hAt.same f3.size (f3.block b' hAt.1 (by omega) (by omega)),Ej,r3⟩
def lS (T:List Sp.Tb) (aC:List Sp.Lv) (x:pB) (made:Int) (c:CS):Int×CS×pB:=
 let r:=Sp.ck T x.2.1 aC 0 c
 let f:=r.2.1.fit x.1 [1,r.1.headD 0]
 let r':=Sp.ck T x.2.2.2 aC 0 f.2
 let g:=r'.2.1.fit x.2.2.1 [made,r'.1.headD 0]
 (g.1,g.2,(x.1,r.2.2,x.2.2.1,r'.2.2))
def gY (T:List Sp.Tb) (aC:List Sp.Lv):List pB->Int->CS->Int×CS×List pB
 | [],made,c=>(made,c, [])
 | x::ar,made,c=>
  let r:=lS T aC x made c
  let q:=gY T aC ar r.1 r.2.1
  (q.1,q.2.1,r.2.2::q.2.2)
theorem Gd (T:List Sp.Tb) (aC:List Sp.Lv):∀ (a b:List pB) (made:Int) (c:CS),gY T aC (a++b) made c=((gY T aC b (gY T aC a made c).1 (gY T aC a made c).2.1).1,(gY T aC b (gY T aC a made c).1 (gY T aC a made c).2.1).2.1,(gY T aC a made c).2.2++(gY T aC b (gY T aC a made c).1 (gY T aC a made c).2.1).2.2)
 | [],b,made,c=>by simp [gY]
 | n::a,b,made,c=>by simp [gY,Gd T aC a b]
theorem Ks (T:List Sp.Tb) (aC:List Sp.Lv) (ar:List pB) (made:Int) (c:CS) (j:Nat) (h:j<ar.length):gY T aC (ar.take (j+1)) made c=((lS T aC ar[j] (gY T aC (ar.take j) made c).1 (gY T aC (ar.take j) made c).2.1).1,(lS T aC ar[j] (gY T aC (ar.take j) made c).1 (gY T aC (ar.take j) made c).2.1).2.1,(gY T aC (ar.take j) made c).2.2 ++ [(lS T aC ar[j] (gY T aC (ar.take j) made c).1 (gY T aC (ar.take j) made c).2.1).2.2]):=by
 rw [sA h,Gd];rfl
theorem Ae (T:List Sp.Tb) (aC:List Sp.Lv):∀ (a:List pB) (made:Int) (c:CS),(gY T aC a made c).2.2.length=a.length
 | [],_,_=>rfl
 | n::a,made,c=>by simp [gY,Ae T aC a]
def cC (ar:List pB):Nd:=ar.foldr (λx r => .arms x.1 x.2.1 x.2.2.1 x.2.2.2 r) .nil
theorem vB (T:List Sp.Tb) (aC:List Sp.Lv):∀ (ar:List pB) (made:Int) (c:CS),Sp.ck T (cC ar) aC made c=([(gY T aC ar made c).1],(gY T aC ar made c).2.1,cC (gY T aC ar made c).2.2)
 | [],_,_=>rfl
 | x::ar,made,c=>by
  have ih:=vB T aC ar (lS T aC x made c).1 (lS T aC x made c).2.1
  have e:Sp.ck T (cC (x::ar)) aC made c=((Sp.ck T (cC ar) aC (lS T aC x made c).1 (lS T aC x made c).2.1).1,(Sp.ck T (cC ar) aC (lS T aC x made c).1 (lS T aC x made c).2.1).2.1, .arms (lS T aC x made c).2.2.1 (lS T aC x made c).2.2.2.1 (lS T aC x made c).2.2.2.2.1 (lS T aC x made c).2.2.2.2.2 (Sp.ck T (cC ar) aC (lS T aC x made c).1 (lS T aC x made c).2.1).2.2):=rfl
  rw [e,ih]
  rfl
theorem vC (N:Nat):∀ nd:Nd,wf N nd .arms->nd=cC nd.wX/\nd.wX.length=nd.len/\∀ x∈nd.wX,wf N x.2.1 .expr/\wf N x.2.2.2 .expr
 | .nil,_=>⟨rfl,rfl,λn h=>by simp [Nd.wX] at h⟩
 | .arms wa e ta t r,hw=>by
  obtain ⟨_,h1,h2,h3⟩:=hw
  obtain ⟨e1,e2,e3⟩:=vC N r h3
  refine ⟨?_,by simp [Nd.wX,Nd.len,e2],λn hn=>?_⟩
  ·simp only [Nd.wX,cC,List.foldr_cons]
   congr 1
  ·simp only [Nd.wX,List.mem_cons] at hn
   rcases hn with rfl | hn
   ·exact ⟨h1,h2⟩
   ·exact e3 n hn
 | .cons _ _,h=>by simp [wf] at h
 | .none,h=>by simp [wf] at h
 | .clause _ _,h=>by simp [wf] at h
 | .const _,h=>by simp [wf] at h
 | .col _ _ _ _ _ _,h=>by simp [wf] at h
 | .op _ _ _,h=>by simp [wf] at h
 | .b8 _ _,h=>by simp [wf] at h
 | .within _ _ _ _,h=>by simp [wf] at h
 | .comb _ _ _ _ _,h=>by simp [wf] at h
 | .sel _ _ _ _ _,h=>by simp [wf] at h
theorem yH:∀ (ar:List pB) (x:pB),x∈ar->x.2.1.dep<=(cC ar).dep/\x.2.2.2.dep<=(cC ar).dep
 | y::ar,x,h=>by
  simp only [cC,List.foldr_cons,Nd.dep]
  simp only [List.mem_cons] at h
  rcases h with rfl | h
  ·omega
  ·have:=yH ar x h
   simp only [cC] at this
   omega
def wD (w:World) (g:Nat):List pB->List (Value×Value)->Nat->Nat->Prop
 | [], [],lo,hi=>lo<=hi
 | x::ar,v::vs,lo,hi=>∃ m1 m2 m3,(lo<=m1/\m1<=m2/\m2<=m3/\m3<=hi/\¬ (m1<=g/\g<m2)/\¬ (m2<=g/\g<m3))/\b9 v.1/\Rp w x.2.1 m1 m2 v.1/\b9 v.2/\Rp w x.2.2.2 m2 m3 v.2/\wD w g ar vs m3 hi
 | _,_,_,_=>False
theorem wD.le {w:World} {g:Nat} : ∀ {ar:List pB} {vs:List (Value×Value)} {lo hi:Nat},wD w g ar vs lo hi->lo<=hi
 | [], [],_,_,h=>h
 | _::_,_::_,lo,hi,h=>by obtain ⟨m1,m2,m3,hS,_⟩:=h;omega
 | [],_::_,_,_,h=>h.elim
 | _::_, [],_,_,h=>h.elim
theorem wD.frame {w w' : World} {g:Nat} (hs:w.heap.size<=w'.heap.size):∀ {ar:List pB} {vs:List (Value×Value)} {lo hi:Nat},wD w g ar vs lo hi->(∀ k,lo<=k->k<hi->k≠g->w'.heap[k]?=w.heap[k]?)->wD w' g ar vs lo hi
 | [], [],_,_,h,_=>h
 | x::ar,v::vs,lo,hi,h,hk=>by
  obtain ⟨m1,m2,m3,hS,n1,r1,n2,r2,ht⟩:=h
  have:=ht.le
  exact ⟨m1,m2,m3,hS,n1,r1.frame hs _ _ _ _ (λk h1 h2=>hk k (by omega) (by omega) (by omega)) (λ_ _ _ _ e=>absurd e (n1 _ _ _)),n2,r2.frame hs _ _ _ _ (λk h1 h2=>hk k (by omega) (by omega) (by omega)) (λ_ _ _ _ e=>absurd e (n2 _ _ _)),ht.frame hs λk h1 h2 h3=>hk k (by omega) h2 h3⟩
 | [],_::_,_,_,h,_=>h.elim
 | _::_, [],_,_,h,_=>h.elim
def Ag (w:World) (blk off:Nat) (ar:List pB) (vs:List (Value×Value)):Prop:=∀ j x v,ar[j]?=some x->vs[j]?=some v->w.cell? ⟨blk,off+j*4,none⟩=some (.int .i64 (x.1:Nat))/\w.cell? ⟨blk,off+j*4+1,none⟩=some v.1/\w.cell? ⟨blk,off+j*4+2,none⟩=some (.int .i64 (x.2.2.1:Nat))/\w.cell? ⟨blk,off+j*4+3,none⟩=some v.2
theorem Rp.wX {w:World} : ∀ (ar:List pB) (lo hi blk off n c:Nat),Rp w (cC ar) lo hi (.slice (some ⟨blk,off,none⟩) n c)->n=ar.length/\∃ vs,wD w blk ar vs lo hi/\Ag w blk off ar vs/\vs.length=ar.length
 | [],lo,hi,blk,off,n,c,h=>by
  obtain ⟨h1,a,c',e⟩:=h
  injection e with e1 e2
  exact ⟨by simpa using e2, [],h1,λj x v hj=>by simp at hj,rfl⟩
 | x::ar,lo,hi,blk,off,n,c,h=>by
  simp only [cC,List.foldr_cons] at h
  obtain ⟨blk',off',n',c',v1,v2,m1,m2,m3,e,hl,hS,hS2,c0,c1,c2,c3,n1,r1,n2,r2,r3⟩:=h
  injection e with e1 e2 e3
  injection e1 with e1
  injection e1 with e4 e5
  subst e4 e5 e2
  unfold Sub at hS hS2
  obtain ⟨h3,vs,h4,h5,h6⟩:=Rp.wX ar m3 hi blk (off+4) n' c' r3
  refine ⟨by simp [h3],(v1,v2)::vs,⟨m1,m2,m3,by omega,n1,r1,n2,r2,h4⟩,λj y v hj hv=>?_,by simp [h6]⟩
  match j,hj,hv with
  | 0,hj,hv=>simp at hj hv;subst hj hv;simpa using ⟨c0,c1,c2,c3⟩
  | j+1,hj,hv=>rw [show off+(j+1)*4=off+4+j*4 by omega];exact h5 j y v (by simpa using hj) (by simpa using hv)
theorem wD.rp {w:World} {g:Nat} (hg:g<w.heap.size) (cap:Nat):∀ {ar:List pB} {vs:List (Value×Value)} {lo hi off:Nat},wD w g ar vs lo hi->Ag w g off ar vs->Rp w (cC ar) lo hi (.slice (some ⟨g,off,none⟩) ar.length cap)
 | [], [],lo,hi,off,h,_=>⟨h,_,_,rfl⟩
 | x::ar,v::vs,lo,hi,off,h,hc=>by
  obtain ⟨m1,m2,m3,hS,n1,r1,n2,r2,ht⟩:=h
  obtain ⟨c0,c1,c2,c3⟩:=hc 0 x v rfl rfl
  have:=ht.le
  refine ⟨g,off,ar.length,cap,v.1,v.2,m1,m2,m3,rfl,hg,by unfold Sub;omega,by unfold Sub;omega,by simpa using c0,by simpa using c1,by simpa using c2,by simpa using c3,n1,r1,n2,r2,?_⟩
  exact wD.rp hg cap ht λj y u hj hv=>by have:=hc (j+1) y u (by simpa using hj) (by simpa using hv);rw [show off+4+j*4=off+(j+1)*4 by omega];exact this
 | [],_::_,_,_,_,h,_=>h.elim
 | _::_, [],_,_,_,h,_=>h.elim
theorem wD.upd {w:World} {g:Nat} : ∀ (a b:List pB) (x:pB) (vs:List (Value×Value)) (lo hi:Nat),wD w g (a++x::b) vs lo hi->∃ m1 m2 m3 v,vs[a.length]?=some v/\lo<=m1/\m1<=m2/\m2<=m3/\m3<=hi/\¬ (m1<=g/\g<m3)/\b9 v.1/\Rp w x.2.1 m1 m2 v.1/\b9 v.2/\Rp w x.2.2.2 m2 m3 v.2/\
  ∀ w' x',w.heap.size<=w'.heap.size->(∀ q,lo<=q->q<hi->q≠g->¬ (m1<=q/\q<m3)->w'.heap[q]?=w.heap[q]?)->Rp w' x'.2.1 m1 m2 v.1->Rp w' x'.2.2.2 m2 m3 v.2->wD w' g (a++x'::b) vs lo hi
 | [],b,x, [],lo,hi,h=>h.elim
 | [],b,x,v::vs,lo,hi,h=>by
  obtain ⟨m1,m2,m3,hS,n1,r1,n2,r2,ht⟩:=h
  have hle:=ht.le
  refine ⟨m1,m2,m3,v,rfl,by omega,by omega,by omega,by omega,by omega,n1,r1,n2,r2,λw' x' hs hk h1 h2=>⟨m1,m2,m3,hS,n1,h1,n2,h2,ht.frame hs λq q1 q2 q3=>hk q (by omega) q2 q3 (by omega)⟩⟩
 | y::a,b,x, [],lo,hi,h=>h.elim
 | y::a,b,x,v::vs,lo,hi,h=>by
  obtain ⟨m1,m2,m3,hS,n1,r1,n2,r2,ht⟩:=h
  obtain ⟨p1,p2,p3,u,e,l1,l2,l3,l4,l5,l6,l7,l8,l9,l10⟩:=wD.upd a b x vs m3 hi ht
  refine ⟨p1,p2,p3,u,by simpa using e,by omega,l2,l3,l4,l5,l6,l7,l8,l9,λw' x' hs hk h1 h2=>⟨m1,m2,m3,hS,n1,r1.frame hs _ _ _ _ (λq q1 q2=>hk q (by omega) (by omega) (by omega) (by omega)) (λ_ _ _ _ e=>absurd e (n1 _ _ _)),n2,r2.frame hs _ _ _ _ (λq q1 q2=>hk q (by omega) (by omega) (by omega) (by omega)) (λ_ _ _ _ e=>absurd e (n2 _ _ _)),l10 w' x' hs (λq q1 q2 q3 q4=>hk q (by omega) q2 q3 q4) h1 h2⟩⟩
end Go.Proofs.YtgnncnhkgmhngaaGreatDoor
