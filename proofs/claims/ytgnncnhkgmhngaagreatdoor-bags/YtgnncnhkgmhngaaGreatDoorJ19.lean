import Derived.Test.YtgnncnhkgmhngaaGreatDoorJ18
set_option maxHeartbeats 4000000
set_option maxRecDepth 100000
namespace Go.Proofs.YtgnncnhkgmhngaaGreatDoor
open Sp
open Go.RowKit Go.Sort
theorem I6 (T:List Sp.Tb) (aE:List Sp.Lv) (ns:List Nd) (c:CS) (j:Nat) (h:j<ns.length):kT T aE (ns.take (j+1)) c=((kT T aE (ns.take j) c).1 ++ [(Sp.ck T ns[j] aE 0 (kT T aE (ns.take j) c).2.1).1.headD 0],(Sp.ck T ns[j] aE 0 (kT T aE (ns.take j) c).2.1).2.1,(kT T aE (ns.take j) c).2.2 ++ [(Sp.ck T ns[j] aE 0 (kT T aE (ns.take j) c).2.1).2.2]):=by
 rw [uV h,E3];rfl
theorem DC {T:List Sp.Tb} {N:Nat} {nd:Nd} (hw:wf N nd .list) (hN:nd.len<=90000) (hE:∀ n∈nd.els,Bi T n):K5 T nd:=by
 intro k cb m lo hi tv sv iv c aE w he hd hr hsi
 obtain ⟨i0,ji,fR,jz1,fS⟩:=info_parts nI
 obtain ⟨e1,e2,e3⟩:=gK N nd hw
 generalize hns:nd.els=ns at *
 have hdn:∀ n∈ns,aE.length+n.dep<=100000:=λn hn=>by have:=Bj ns n hn;rw [<- e1] at this;omega
 rw [e1] at hr
 have hle:=Rp.le _ _ _ _ hr
 have HV:Hid ((Sp.ck T nd aE 0 c).1.dropLast=(kT T aE ns c).1/\(Sp.ck T nd aE 0 c).2.1=(kT T aE ns c).2.1/\(Sp.ck T nd aE 0 c).2.2=gG (kT T aE ns c).2.2 .nil):=by
  have h:=zB T N aE ns c e3
  rw [<- e1] at h
  rw [h]
  exact ⟨by simp,rfl,rfl⟩
 rw [<- e2] at hN
 have hcw:=he.ck.lt
 have hmw:=he.mw
 have hcm:=he.cm
 have E4:=he.hic
 obtain ⟨ia,rfl⟩:=he.sc.ptr
 clear e1 e2 hw hns
 cases ns with
 | nil=>
  obtain ⟨_,sa,sc,rfl⟩:=hr
  have HE:=hid he
  clear he hE hdn e3
  go_enter Tryz.func180,Tryz.ntmps180
  go_wp2_with fail
  go_loopw [7,12] (λv i wr=>v = .slice none 0 0/\i = .int .i64 0/\wr=w) (λ_ _ _=>0)
  case atStart=>exact ⟨rfl,rfl,rfl⟩
  case round=>
   obtain ⟨rfl,rfl,rfl⟩:=hrel
   go_wp2_with fail
   go_ret
   refine ⟨_,rfl,by rw [HV.out.1];exact dX.nil _ _,by rw [HV.out.2.1];exact HE.out.ck,by rw [HV.out.2.2];exact ⟨hle,_,_,rfl⟩,Fc.refl _ _ _ _⟩
 | cons n0 ns'=>
  obtain ⟨blk,off,n,cp,rfl,hbl⟩:∃ blk off n c,sv = .slice (some ⟨blk,off,none⟩) n c/\blk<w.heap.size:=by
   simp only [gG,List.foldr_cons] at hr
   obtain ⟨blk,off,n,c,v,m1,m2,e,hl,_⟩:=hr
   exact ⟨blk,off,_,c,e,hl⟩
  obtain ⟨hn,xs,hel,hxs⟩:=Rp.els (n0::ns') lo hi blk off n cp hr
  have hbi:=hsi blk off n cp rfl
  have hbc:blk<cb:=hbi.2
  clear hr hsi
  generalize n0::ns'=ns at *
  have HN:=hid hn
  have HEX:=hid hE
  have Xw:=hid hdn
  have Vu:=hid hxs
  have HE:=hid he
  have Xx:=hid hel
  rw [<- hn] at hN
  clear hE hdn hxs he hel hn e3
  go_enter Tryz.func180,Tryz.ntmps180
  go_wp2_with fail
  go_loopw [7,12] (λv i wr=>∃ j:Nat,j<=n/\i = .int .i64 (j:Nat)/\Hid (dX w.heap.size wr v (kT T aE (ns.take j) c).1)/\Hid (CB cb tv (kT T aE (ns.take j) c).2.1 wr)/\Hid (lZ wr blk ((kT T aE (ns.take j) c).2.2++ns.drop j) xs lo hi)/\Hid (Fc cb lo hi w wr)/\Hid (wr.heap[blk]?=w.heap[blk]?)) (λ_ i _=>n - (intOf i).toNat)
  case atStart=>exact ⟨0,fO _,rfl,dX.nil _ _,HE.out.ck,Xx,Fc.refl _ _ _ _,rfl⟩
  case round=>
   obtain ⟨j,hj,rfl,HO,zC,I7,HF,KC⟩:=hrel
   have Xy:=hid (HE.out.next (aF _) (aF _) hle HF.out zC.out)
   by_cases hlt:j<n
   ·have hjz:j<ns.length:=by have:=HN.out;omega
    have hl2:=(sO T aE (ns.take j) c)
    rw [List.length_take,Nat.min_eq_left (by omega)] at hl2
    have HS:=hid (I6 T aE ns c j hjz)
    have hx:=I7.out
    rw [nS hjz] at hx
    obtain ⟨m1,m2,x,ex,l1,l2,l3,l4,l5,l6,l7⟩:=lZ.upd _ _ _ _ _ _ hx
    rw [hl2.2] at ex
    have c0:=(fB (w:=w) (a:=⟨blk,off+j,none⟩) KC.out).trans (Vu.out j x ex)
    have HC:=HEX.out _ (jD hjz) k cb m m1 m2 tv x (.pointer ia) _ aE wr (Xy.out.part l1 l3) (Xw.out _ (jD hjz)) l6
    have P1:=hid HC
    have Vv:=hid l7
    have hLlen:(kT T aE (ns.take j) c).1.length<=90000:=by omega
    clear HC l7 hx I7 l6 ex hl2
    generalize kT T aE (ns.take j) c=R at *
    generalize ns[j]=nj at *
    generalize (Sp.ck T nj aE 0 R.2.1).1.headD 0=ty at P1 HS
    go_wp2_with fail
    refine P1.out.mono ?_
    rintro e w2 ⟨rfl,h2,r2,f2⟩
    have hblk:blk≠cb/\¬ (m1<=blk/\blk<m2):=⟨by omega,l4⟩
    have MD:=HF.out.size
    have hwr:w.heap.size<=wr.heap.size:=MD
    have HC2:=hid h2
    have HL2:Hid (lZ w2 blk (R.2.2++(Sp.ck T nj aE 0 R.2.1).2.2::ns.drop (j+1)) xs lo hi):=Vv.out w2 _ f2.size (λq q1 q2 q3 q4=>f2.block q (by omega) (by omega) q4) r2
    have HF2:Hid (Fc cb lo hi w w2):=HF.out.trans (f2.wide l1 l3)
    have HB2:Hid (w2.heap[blk]?=w.heap[blk]?):=(f2.block blk (by omega) hblk.1 hblk.2).trans KC.out
    have fN:Hid (dX w.heap.size w2 u7 R.1):=HO.out.same λb e=>f2.block b (aB HO.out b e).2 (by have:=(aB HO.out b e).1;omega) (by have:=(aB HO.out b e).1;omega)
    have hz2:=HF2.out.size
    clear h2 r2 f2 P1 Vv
    go_wp2_with (at_builtin;go_must (refine wpList_append_own _ rfl (.tmp 16) (.tmp 21) 206 rfl w.heap.size 3 i0 (.int .i64 0) 1 8 Tryz.underlying206 ji fR jz1 fS rfl (by decide) _ _ _ rfl (fN.out.alloc _) ⟨_,0,none⟩ 1 1 [.int .i64 ty] rfl rfl (EV _ _ rfl) (pI _) ?c3 ?c4 ?c5 ?_))
    case c3=>unfold maxLen;omega
    case c4=>omega
    case c5=>simp;omega
    intro v' w3 hown hgrow _
    have hb3:Below w.heap.size w2 w3:=((Below.refl w.heap.size w2).alloc hz2 _).grown hgrow (by simp;omega) (λq e=>(aB fN.out q e).1)
    have jG:Hid (dX w.heap.size w3 v' (kT T aE (ns.take (j+1)) c).1):=by
     show dX _ _ _ _
     rw [HS.out]
     rw [lY] at hown
     simpa [dX] using hown
    have HF3:Hid (Fc cb lo hi w w3):=⟨hb3.os.trans HF2.out.os,hb3.tape.trans HF2.out.tape,hb3.output.trans HF2.out.output,cE hz2 hb3.size,λq hq h1 h2=>(hb3.block q hq).trans (HF2.out.block q hq h1 h2),λq hq h1 h2=>(hb3.block q hq).trans (HF2.out.slc q hq h1 h2)⟩
    have I8:Hid (lZ w3 blk ((kT T aE (ns.take (j+1)) c).2.2++ns.drop (j+1)) xs lo hi):=by
     show lZ _ _ _ _ _ _
     rw [HS.out]
     have E:=HL2.out.frame hb3.size λq h1 h2 _=>hb3.block q (by omega)
     simpa using E
    have zA:Hid (CB cb tv (kT T aE (ns.take (j+1)) c).2.1 w3):=by
     show CB _ _ _ _
     rw [HS.out]
     exact HC2.out.same hb3.size (hb3.block cb hcw)
    have HB3:Hid (w3.heap[blk]?=w.heap[blk]?):=(hb3.block blk hbl).trans HB2.out
    clear hown hgrow
    go_wp2_with fail
    go_roundw
    case rel=>exact ⟨j+1,by omega,by go_num,jG,zA,I8,HF3,HB3⟩
    case measure=>simp [intOf];omega
   ·have hje:ns.take j=ns:=sD (by have:=HN.out;omega)
    have R5:Hid (kT T aE (ns.take j) c=kT T aE ns c/\ns.drop j = []):=⟨by rw [hje],Aw (by have:=HN.out;omega)⟩
    clear hje
    go_wp2_with fail
    go_ret
    have E:=I7.out
    rw [R5.out.1,R5.out.2,List.append_nil] at E
    have hlen:=(sO T aE ns c).2
    refine ⟨_,rfl,by rw [HV.out.1,<- R5.out.1];exact HO.out,by rw [HV.out.2.1,<- R5.out.1];exact zC.out,?_,HF.out⟩
    rw [HV.out.2.2]
    have R:=lZ.rp (off:=off) (bY hbl HF.out.size) cp E (λq u hq=>(fB (w:=w) (a:=⟨blk,off+q,none⟩) KC.out).trans (Vu.out q u hq))
    rw [hlen,<- HN.out] at R
    exact R
theorem En.gr {T:List Sp.Tb} {k cb m:Nat} {tv:Value} {c:CS} {aE:List Sp.Lv} {iv:Value} {lo hi:Nat} {w w' : World} (h:En T k cb m tv c aE iv lo hi w) (g:Gr w w'):En T k cb m tv c aE iv lo hi w':=
 ⟨h.ck.gr g,h.tb.low (Low.dZ g),h.sc.ou h.kw (Ou.gr g),h.Pd,h.hic,h.cm,cE h.mw g.size⟩
theorem Rp.gr {w w' : World} {nd:Nd} {lo hi:Nat} {x:Value} (h:Rp w nd lo hi x) (g:Gr w w') (hh:hi<=w.heap.size) (hx:∀ blk off n c,x = .slice (some ⟨blk,off,none⟩) n c->blk<w.heap.size):Rp w' nd lo hi x:=
 h.frame g.size _ _ _ _ (λq _ h2=>g.below.block q (by omega)) (λblk off n c e=>g.below.block blk (hx blk off n c e))
theorem Rp.Xz {w w' : World} {nd:Nd} {lo hi:Nat} {x:Value} (h:Rp w nd lo hi x) (g:Gr w w') (hh:hi<=w.heap.size) (hx:cH x):Rp w' nd lo hi x:=h.gr g hh λ_ _ _ _ e=>absurd e (hx _ _ _)
theorem Rp.zD {cb:Nat} {w w' : World} {nd:Nd} {lo hi:Nat} {x:Value} (h:Rp w nd lo hi x) (g:Kept cb w w') (hh:hi<=cb) (hc:cb<w.heap.size) (hx:cH x):Rp w' nd lo hi x:=
 h.frame g.size _ _ _ _ (λq _ h2=>g.block q (by omega) (by omega)) (λ_ _ _ _ e=>absurd e (hx _ _ _))
theorem Rp.P2 {w:World} {nd:Nd} {lo hi N:Nat} {x:Value} (h:Rp w nd lo hi x) (hw:wf N nd .list):∃ a n c,x = .slice a n c:=by
 cases nd with
 | nil=>obtain ⟨_,a,c,e⟩:=h;exact ⟨_,_,_,e⟩
 | cons _ _=>obtain ⟨blk,off,n,c,v,_,_,e,_⟩:=h;exact ⟨_,_,_,e⟩
 | _=>simp [wf] at hw
theorem DD (w:World) (x y:Int):Si (w.alloc (.cells #[.int .i64 x, .int .i64 y] 3)) (.slice (some ⟨w.heap.size,0,none⟩) 2 2) [x,y]:=II w _ [x,y] rfl _ 2
theorem wX {T:List Sp.Tb} {k cb m lo hi a pb po:Nat} {tv ev iv:Value} {c:CS} {aE:List Sp.Lv} {w:World} {e:Nd} (hE:Bi T e) (he:En T k cb m tv c aE iv lo hi w) (hd:aE.length+e.dep<=100000) (hr:Rp w e lo hi ev) (_hlh:lo<=hi) (hp:pb<w.heap.size) (hpc:pb≠cb) (hpi:¬ (lo<=pb/\pb<hi))
  (c0:w.cell? ⟨pb,po,none⟩=some (.int .i64 (a:Nat))) (c1:w.cell? ⟨pb,po+1,none⟩=some ev) (hn:cH ev) :
  Calls Tryz.prog 138 #[.pointer (some ⟨cb,0,none⟩), .pointer (some ⟨pb,po,none⟩),iv] w λr w'=>r = .returned (.tuple #[])/\CB cb tv ((Sp.ck T e aE 0 c).2.1.fit a [1,(Sp.ck T e aE 0 c).1.headD 0]).2 w'/\Rp w' (Sp.ck T e aE 0 c).2.2 lo hi ev/\Fc cb lo hi w w':=by
 have hcw:=he.ck.lt
 have E4:=he.hic
 obtain ⟨ia,rfl⟩:=he.sc.ptr
 have HC:=hid (hE k cb m lo hi tv ev (.pointer ia) c aE w.drew (he.gr (Gr.refl w).drew) hd (hr.Xz (Gr.refl w).drew (by omega) hn))
 have HN:=hid hn
 clear hE he hd hr hn
 generalize Sp.ck T e aE 0 c=R at *
 obtain ⟨R1,R2,R3⟩:=R
 simp only [] at HC ⊢
 generalize R1.headD 0=ty at *
 go_enter Tryz.func138,Tryz.ntmps138
 go_wp2_with fail
 go_region_held3 (λw'=>w'.cell? ⟨pb,po,none⟩=some (.int .i64 (a:Nat))/\w'.cell? ⟨pb,po+1,none⟩=some ev) (first | go_keep | exact ⟨c0,c1⟩ | exact ⟨d0,d1⟩ | exact ⟨f0,f1⟩ | exact ⟨g0,g1⟩) (first | (go_at_call 182;refine HC.out.mono ?_;rintro e2 w2 ⟨rfl,h2,r2,f2⟩;have d0:=(f2.cell (p:=⟨pb,po,none⟩) hp hpc hpi).trans c0;have d1:=(f2.cell (p:=⟨pb,po+1,none⟩) hp hpc hpi).trans c1;have hz2:w.heap.size<=w2.heap.size:=f2.size;have f0:=(((Gr.refl w2).alloc (.cells #[.int .i64 1, .int .i64 ty] 3)).cell (p:=⟨pb,po,none⟩) (by show pb<_;omega)).trans d0;have f1:=(((Gr.refl w2).alloc (.cells #[.int .i64 1, .int .i64 ty] 3)).cell (p:=⟨pb,po+1,none⟩) (by show pb<_;omega)).trans d1) | (go_at_call 181;refine (jF (h2.alloc (.cells #[.int .i64 1, .int .i64 ty] 3)) a (DD w2 1 ty) (by simp)).mono ?_;rintro e3 w3 ⟨rfl,h3,k3⟩;have g0:=(k3.cell (p:=⟨pb,po,none⟩) (by simp;omega) hpc).trans f0;have g1:=(k3.cell (p:=⟨pb,po+1,none⟩) (by simp;omega) hpc).trans f1))
 go_end0
 have Tz : Kept cb w2 w3:=((Kept.refl cb w2).alloc _).trans k3
 exact ⟨rfl,h3,r2.zD Tz E4 (by omega) HN.out,(Fc.drewN (Fc.refl cb lo hi w) 1).trans (f2.trans (Fc.of Tz))⟩
theorem wY {cb:Nat} {ia:Option Addr} {w:World} :
  Calls Tryz.prog 138 #[.pointer (some ⟨cb,0,none⟩), .pointer none, .pointer ia] w λr w'=>r = .returned (.tuple #[])/\w'=w:=by
 go_enter Tryz.func138,Tryz.ntmps138
 go_wp2_with fail
 go_end0
 exact ⟨rfl,rfl⟩
theorem I9 {T:List Sp.Tb} {k cb m lo hi m1 m2 a b:Nat} {tv sv iv:Value} {c:CS} {aE:List Sp.Lv} {w:World} {wd:Sp.Bs} {args:Nd} (hE:K5 T args) {N:Nat} (hw:wf N args .list) (he:En T k cb m tv c aE iv lo hi w) (hd:aE.length+args.dep<=100000) (hlen:∀ c,(Sp.ck T args aE 0 c).1.dropLast.length<=90000)
  (hb:lo<=b/\b<hi) (hS:Sub lo hi b m1 m2) (hA:At w b [.string (bz wd), .int .i64 (a:Nat),sv]) (hI:yQ lo hi sv) (hr:Rp w args m1 m2 sv) :
  Calls Tryz.prog 222 #[.pointer (some ⟨cb,0,none⟩), .pointer (some ⟨b,0,none⟩),iv] w λr w'=>r = .returned (.int .i64 (typeOf wd (Sp.ck T args aE 0 c).1.dropLast).1)/\CB cb tv (if (typeOf wd (Sp.ck T args aE 0 c).1.dropLast).2 then (Sp.ck T args aE 0 c).2.1 else (Sp.ck T args aE 0 c).2.1.fail 5 a) w'/\Rp w' (Sp.ck T args aE 0 c).2.2 m1 m2 sv/\Fc cb m1 m2 w w':=by
 have hcw:=he.ck.lt
 have E4:=he.hic
 obtain ⟨ia,rfl⟩:=he.sc.ptr
 unfold Sub at hS
 have HC:=hid (hE k cb m m1 m2 tv sv (.pointer ia) c aE w.drew ((he.part hS.1 hS.2.2.1).gr (Gr.refl w).drew) hd (hr.gr (Gr.refl w).drew (by omega) λblk off n c e=>by have:=hI blk off n c e;omega) (λblk off n c e=>by have:=hI blk off n c e;omega))
 have hln:=hlen c
 have c0:=hA.k0
 have c1:=hA.k1
 have c2:=hA.k2
 have hbw:=hA.1
 have HI:=hid hI
 obtain ⟨va,vn,vc,rfl⟩:=hr.P2 hw
 clear hE he hd hr hI hA hlen hw
 generalize Sp.ck T args aE 0 c=R at *
 obtain ⟨R1,R2,R3⟩:=R
 simp only [] at HC hln ⊢
 generalize R1.dropLast=iM at *
 have Vw:Hid (∀ w v,Si w v iM->Calls Tryz.prog 258 #[.string (bz wd),v] w λe w'=>e = .returned (.tuple #[.int .i64 (typeOf wd iM).1, .bool (typeOf wd iM).2])/\Below w.heap.size w w'):=λw v h=>by
  have:=Dj (bz wd) h hln
  rw [dJ] at this
  exact this
 generalize typeOf wd iM=tt at *
 obtain ⟨t1,t2⟩:=tt
 simp only [] at Vw ⊢
 go_enter Tryz.func222,Tryz.ntmps222
 go_wp2_with fail
 go_region_held3 (λw'=>w'.cell? ⟨b,0,none⟩=some (.string (bz wd))/\w'.cell? ⟨b,2,none⟩=some (.slice va vn vc)) (first | go_keep | exact ⟨c0,c2⟩ | exact ⟨d0,d2⟩ | exact ⟨f0,f2⟩) (first | (go_at_call 180;refine HC.out.mono ?_;rintro e2 w2 ⟨v2,rfl,o2,h2,r2,g2⟩;have d0:=(g2.cell (p:=⟨b,0,none⟩) hbw (by show b≠cb;omega) (by show ¬ (m1<=b/\b<m2);omega)).trans c0;have d1:=(g2.cell (p:=⟨b,1,none⟩) hbw (by show b≠cb;omega) (by show ¬ (m1<=b/\b<m2);omega)).trans c1;have d2:=(g2.cell (p:=⟨b,2,none⟩) hbw (by show b≠cb;omega) (by show ¬ (m1<=b/\b<m2);omega)).trans c2;have hz2:w.heap.size<=w2.heap.size:=g2.size;obtain ⟨oa,oc,rfl⟩:=o2.sl) | (go_at_call 258;refine (Vw.out _ _ o2.si).mono ?_;rintro e3 w3 ⟨rfl,g3⟩;have f0:=(g3.cell (p:=⟨b,0,none⟩) (by show b<_;omega)).trans d0;have f1:=(g3.cell (p:=⟨b,1,none⟩) (by show b<_;omega)).trans d1;have f2:=(g3.cell (p:=⟨b,2,none⟩) (by show b<_;omega)).trans d2))
 have HK:=hid (Kept.below (b:=cb) g3)
 have HB3:=hid g3
 have H3:=hid (h2.same g3.size (g3.block cb h2.lt))
 have HR3:=hid (r2.frame g3.size _ _ _ _ (λq _ q2=>g3.block q (by omega)) (λblk off n c e=>g3.block blk (by have:=HI.out blk off n c e;omega)))
 have HF:=hid ((Fc.drewN (Fc.refl cb m1 m2 w) 1).trans (g2.trans (Fc.of HK.out)))
 clear o2 h2 r2 g2 g3 HC c0 c1 c2 d0 d1 d2 f0 f2
 try clear hHeld
 cases t2
 ·go_wp2_with fail
  refine (cU H3.out 5 a).mono ?_
  rintro e4 w4 ⟨rfl,h4,k4⟩
  have HX:=hid (And.intro h4 k4)
  clear h4 k4
  go_wp2_with fail
  go_ret
  exact ⟨rfl,HX.out.1,HR3.out.frame HX.out.2.size _ _ _ _ (λq _ q2=>HX.out.2.block q (by have:=HB3.out.size;omega) (by omega)) (λblk off n c e=>HX.out.2.block blk (by have:=HI.out blk off n c e;have:=HB3.out.size;omega) (by have:=HI.out blk off n c e;omega)),HF.out.trans (Fc.of HX.out.2)⟩
 ·go_wp2_with fail
  go_ret
  exact ⟨rfl,H3.out,HR3.out,HF.out⟩
abbrev XA:=Nat×Nd×Nat×Nd
def Sp.Nd.R6:Nd->List XA
 | .arms wa e ta t r=>(wa,e,ta,t)::r.R6
 | _ => []
def Sb (b:Nat) (w w' : World):Prop:=w'.heap[b]?=w.heap[b]?
theorem Rp.R7 {w:World} {nd:Nd} {lo hi N:Nat} {x:Value} (h:Rp w nd lo hi x) (hw:wf N nd .expr):∃ t q,x = .iface t (.pointer (some ⟨q,0,none⟩)):=by
 cases nd with
 | const _=>obtain ⟨b,e,_⟩:=h;exact ⟨_,_,e⟩
 | col _ _ _ _ _ _=>obtain ⟨b,e,_⟩:=h;exact ⟨_,_,e⟩
 | op _ _ _=>obtain ⟨b,_,_,_,e,_⟩:=h;exact ⟨_,_,e⟩
 | dW _ _=>obtain ⟨b,_,_,_,_,_,e,_⟩:=h;exact ⟨_,_,e⟩
 | within _ _ _ _=>obtain ⟨b,_,_,_,_,_,_,e,_⟩:=h;exact ⟨_,_,e⟩
 | _=>simp [wf] at hw
theorem dX.fc {base cb lo hi:Nat} {w w' : World} {v:Value} {l:List Int} (h:dX base w v l) (f:Fc cb lo hi w w') (h1:cb<base) (h2:hi<=base):dX base w' v l:=
 h.same λb e=>f.block b (aB h b e).2 (by have:=(aB h b e).1;omega) (by have:=(aB h b e).1;omega)
theorem dX.wide {base base' : Nat} {w:World} {v:Value} {l:List Int} (h:dX base w v l) (hb:base'<=base):dX base' w v l:=by
 obtain ⟨hl,h | ⟨g,cap,cur,hv,h0,r⟩⟩:=h
 ·exact ⟨hl, .inl h⟩
 ·exact ⟨hl, .inr ⟨g,cap,cur,hv,by omega,r⟩⟩
theorem Ja {T:List Sp.Tb} {k cb m lo hi:Nat} {tv wv iv:Value} {c:CS} {aE:List Sp.Lv} {w:World} {wh:Nd} (hW:wh = .none\/∃ a e,wh = .clause a e/\Bi T e/\aE.length+e.dep<=100000) (he:En T k cb m tv c aE iv lo hi w) (hr:Rp w wh lo hi wv) :
  Calls Tryz.prog 138 #[.pointer (some ⟨cb,0,none⟩),wv,iv] w λr w'=>r = .returned (.tuple #[])/\CB cb tv (Sp.cond T wh aE c).1 w'/\Rp w' (Sp.cond T wh aE c).2 lo hi wv/\Fc cb lo hi w w':=by
 have hcw:=he.ck.lt
 have E4:=he.hic
 rcases hW with rfl | ⟨a,en,rfl,hEe,hde⟩
 ·have e1:wv = .pointer none:=hr.2
  subst e1
  obtain ⟨ia,rfl⟩:=he.sc.ptr
  refine wY.mono ?_
  rintro e w' ⟨rfl,rfl⟩
  exact ⟨rfl,he.ck,hr,Fc.refl _ _ _ _⟩
 ·obtain ⟨b',v,p1,p2,rfl,hb1,hb2,hS,hAt,MI,hre⟩:=hr
  unfold Sub at hS
  have Sa:=hAt.k0
  have Sc:=hAt.k1
  refine (wX (a:=a) hEe (he.part (by omega:lo<=p1) (by omega:p2<=hi)) hde hre hS.2.1 hAt.1 (by omega) (by omega) Sa Sc MI).mono ?_
  rintro e w3 ⟨rfl,h3,r3,f3⟩
  refine ⟨rfl,h3,?_,f3.wide (by omega) (by omega)⟩
  exact ⟨b',v,p1,p2,rfl,hb1,hb2,by unfold Sub;omega,hAt.same f3.size (f3.block b' hAt.1 (by omega) (by omega)),MI,r3⟩
theorem vN {cb b lo hi:Nat} {tv iv:Value} {va:Addr} {vn vc:Nat} {w:World} {iM:List Int} {c:CS} {P:World->Prop} {ia:Option Addr} (hiv:iv = .pointer ia) (hA:w.cell? ⟨b,2,none⟩=some (.slice (some va) vn vc))
  (HC:Calls Tryz.prog 180 #[.pointer (some ⟨cb,0,none⟩), .slice (some va) vn vc,iv] w λr w'=>∃ v,r = .returned v/\dX w.heap.size w' v iM/\CB cb tv c w'/\P w'/\Fc cb lo hi w w') :
  Calls Tryz.prog 228 #[.pointer (some ⟨cb,0,none⟩), .pointer (some ⟨b,0,none⟩),iv] w λr w'=>∃ v,r = .returned v/\dX w.heap.size w' v iM/\CB cb tv c w'/\P w'/\Fc cb lo hi w w':=by
 subst hiv
 have H:=hid HC
 clear HC
 go_enter Tryz.func228,Tryz.ntmps228
 go_wp2_with fail
 refine H.out.mono ?_
 rintro e w1 ⟨v,rfl,h⟩
 go_wp2_with fail
 go_ret
 exact ⟨_,rfl,h⟩
theorem zE {cb k m b st:Nat} {tv fv iv:Value} {c:CS} {lv:Sp.Lv} {aE:List Sp.Lv} {src:List (Nm×Nm)} {w:World} (hc:CB cb tv c w) (hkw:k<=w.heap.size) (hs:wN k m w (lv::aE) iv) (hkc:k<=cb) (hcm:cb<m) (_hbw:b<w.heap.size) (_hbc:b≠cb)
  (b1:w.cell? ⟨b,1,none⟩=some (.int .i64 (st:Nat))) (b2:w.cell? ⟨b,2,none⟩=some (.slice none 0 0)) (b3:w.cell? ⟨b,3,none⟩=some fv) (hf:(src = []/\fv = .slice none 0 0)\/(src ≠ []/\∃ ad n c,fv = .slice (some ad) n c)) :
  Calls Tryz.prog 228 #[.pointer (some ⟨cb,0,none⟩), .pointer (some ⟨b,0,none⟩),iv] w λr w'=>∃ v,r = .returned v/\dX w.heap.size w' v (kY lv)/\CB cb tv (if src.isEmpty then c.fail 6 st else c) w'/\Kept cb w w':=by
 obtain ⟨sb,sv,ov,rfl,hb,hl,c0,c1,hsv,hr⟩:=hs
 obtain ⟨kc,hkq⟩:∃ z,z=(if src.isEmpty then c.fail 6 st else c):=⟨_,rfl⟩
 rw [<- hkq]
 have P4:=hid hkq
 clear hkq
 have HC:=hid hc
 have O9:=hid hsv
 have fC:=hid hkw
 have u3:∀ w,Sem.run Tryz.prog (binOp BinOp.eql 333 (.slice none 0 0) (.slice none 0 0)) w = .ok (.bool true) w:=λw=>by kernel_rfl
 have u4:∀ ad n c w,Sem.run Tryz.prog (binOp BinOp.eql 333 (.slice (some ad) n c) (.slice none 0 0)) w = .ok (.bool false) w:=λad n c w=>by kernel_rfl
 clear hc hsv hr hkw
 rcases hf with ⟨rfl,rfl⟩ | ⟨hne,ad,fn,fc,rfl⟩
 ·go_enter Tryz.func228,Tryz.ntmps228
  go_wp2_with fail
  refine (cU HC.out 6 st).mono ?_
  rintro e w1 ⟨rfl,h1,k1⟩
  have H1:=hid h1
  have K1:=hid k1
  have TA:=hid (wP (cE fC.out k1.size) (bY hl k1.size) ((k1.cell (p:=⟨sb,0,none⟩) hl (by show sb≠cb;omega)).trans c0) (O9.out.ou fC.out (Ou.kept k1 hkc hcm)))
  clear h1 k1
  go_wp2_with fail
  refine TA.out.mono ?_
  rintro e w2 ⟨v,rfl,o2,g2⟩
  go_wp2_with fail
  go_ret
  exact ⟨_,rfl,o2.wide K1.out.size,by rw [P4.out];exact H1.out.same g2.size (g2.block cb H1.out.lt),K1.out.trans (Kept.below g2)⟩
 ·have HE:Hid (src.isEmpty=false):=by show _=_;cases src with | nil=>exact absurd rfl hne | cons _ _=>rfl
  have TA:=hid (wP fC.out hl c0 O9.out)
  go_enter Tryz.func228,Tryz.ntmps228
  go_wp2_with fail
  refine TA.out.mono ?_
  rintro e w2 ⟨v,rfl,o2,g2⟩
  go_wp2_with fail
  go_ret
  exact ⟨_,rfl,o2,by rw [P4.out,HE.out];exact HC.out.same g2.size (g2.block cb HC.out.lt),Kept.below g2⟩
def Mid (a b:Nat) (w w' : World):Prop:=∀ q,a<=q->q<b->w'.heap[q]?=w.heap[q]?
def TD (T:List Sp.Tb) (wh:Nd) (aE:List Sp.Lv) (c:CS):CS:=(Sp.cond T wh aE c).1
def Pe (w:World) (ex:Nd) (m1 m2:Nat) (xv:Value):Prop:=(ex = .none/\xv = .slice none 0 0)\/(ex ≠ .none/\Rp w ex m1 m2 xv)
theorem Pe.frame {w w' : World} {ex:Nd} {m1 m2:Nat} {xv:Value} (h:Pe w ex m1 m2 xv) (hs:w.heap.size<=w'.heap.size) (hk:∀ k,m1<=k->k<m2->w'.heap[k]?=w.heap[k]?) (hb:∀ blk off n c,xv = .slice (some ⟨blk,off,none⟩) n c->w'.heap[blk]?=w.heap[blk]?):Pe w' ex m1 m2 xv:=by
 rcases h with h | ⟨h1,h2⟩
 ·exact .inl h
 ·exact .inr ⟨h1,h2.frame hs _ _ _ _ hk hb⟩
theorem Jb {T:List Sp.Tb} {k cb m lo hi b m1 m2 m3 m4:Nat} {tv fv xv wv iv:Value} {c c2:CS} {aE:List Sp.Lv} {w:World} {src:List (Nm×Nm)} {wh ex' : Nd} {iM:List Int} (hW:wh = .none\/∃ a e,wh = .clause a e/\Bi T e/\aE.length+1+e.dep<=100000)
  (he:En T k cb m tv c aE iv lo hi w) (hsrc:Tx w src fv) (hsl:src.length<=1100) (hb:lo<=b/\b<hi) (hm:lo<=m1/\m1<=m2/\m2<=m3/\m3<=m4/\m4<=hi/\¬ (m1<=b/\b<m2)/\¬ (m3<=b/\b<m4)) (hfi:yQ m2 m3 fv) (hxi:yQ lo m2 xv)
  (b3:w.cell? ⟨b,3,none⟩=some fv) (b4:w.cell? ⟨b,4,none⟩=some wv) (hbw:b<w.heap.size) (hn:cH wv) (hr:Rp w wh m3 m4 wv)
  (hC:∀ w1 v,En T k cb m tv ((bI T src [] c).2.note ((bI T src [] c).1::aE)) ((bI T src [] c).1::aE) v lo hi w1->Kept cb w w1->Calls Tryz.prog 228 #[.pointer (some ⟨cb,0,none⟩), .pointer (some ⟨b,0,none⟩),v] w1 λr w'=>∃ v',r = .returned v'/\dX w1.heap.size w' v' iM/\CB cb tv c2 w'/\Pe w' ex' m1 m2 xv/\Fc cb m1 m2 w1 w') :
  Calls Tryz.prog 184 #[.pointer (some ⟨cb,0,none⟩), .pointer (some ⟨b,0,none⟩),iv] w λr w'=>∃ v',r = .returned v'/\dX w.heap.size w' v' iM/\CB cb tv (TD T wh ((bI T src [] c).1::aE) c2) w'/\Pe w' ex' m1 m2 xv/\Rp w' (Sp.ck T wh ((bI T src [] c).1::aE) 0 c2).2.2 m3 m4 wv/\Fc cb m1 m4 w w'/\Sb b w w'/\Mid m2 m3 w w':=by
 have hcw:=he.ck.lt
 have E4:=he.hic
 have hcm:=he.cm
 have hmw:=he.mw
 have hkl:=he.Pd
 have HE:=hid he
 have HW:=hid hW
 have HN:=hid hn
 have HR:=hid hr
 have HX:=hid hxi
 have TE:=hid hC
 have HF:=hid (I5 he.ck he.tb he.sc hsrc (λblk off n c e=>by have:=hfi blk off n c e;omega) hsl (by omega) hcm hmw)
 obtain ⟨ia,rfl⟩:=he.sc.ptr
 obtain ⟨fa,fn,fc,rfl⟩:∃ a n c,fv = .slice a n c:=by
  rcases hsrc with ⟨_,rfl⟩ | ⟨_,_,e,_⟩
  ·exact ⟨_,_,_,rfl⟩
  ·exact ⟨_,_,_,e⟩
 clear hW he hsrc hn hr hC hxi
 generalize XB:bI T src [] c=FC at *
 clear XB
 obtain ⟨lv,cf⟩:=FC
 simp only [] at HF TE ⊢
 go_enter Tryz.func184,Tryz.ntmps184
 go_wp2_with fail
 refine HF.out.mono ?_
 rintro e w1 ⟨v1,rfl,s1,h1,k1⟩
 have hz1:=k1.size
 have MJ:Hid (En T k cb m tv (cf.note (lv::aE)) (lv::aE) v1 lo hi w1):=⟨h1,HE.out.tb.low (Low.kE k1 (by omega)),s1,hkl,E4,hcm,cE hmw hz1⟩
 have qD:=hid (TE.out w1 v1 MJ.out k1)
 have K1:=hid k1
 have c4:=(k1.cell (p:=⟨b,4,none⟩) hbw (by show b≠cb;omega)).trans b4
 obtain ⟨ja,rfl⟩:=s1.ptr
 clear s1 h1 k1 HF TE
 go_wp2_with fail
 refine qD.out.mono ?_
 rintro e w2 ⟨v2,rfl,o2,h2,x2,f2⟩
 have hz2:=f2.size
 have HE2:Hid (En T k cb m tv c2 (lv::aE) (.pointer ja) lo hi w2):=MJ.out.next hm.1 (by omega) hm.2.1 f2 h2
 have O2:=hid o2
 have X2:=hid x2
 have F2:=hid f2
 have H2:=hid h2
 have d4:=(f2.cell (p:=⟨b,4,none⟩) (by show b<_;omega) (by show b≠cb;omega) (by show ¬ (m1<=b/\b<m2);omega)).trans c4
 have HR2:=hid ((HR.out.zD K1.out (by omega) hcw HN.out).frame hz2 _ _ _ _ (λu u1 u2=>f2.block u (by omega) (by omega) (by omega)) (λ_ _ _ _ e=>absurd e (HN.out _ _ _)))
 have HB2:Hid (Sb b w w2):=(f2.block b (by omega) (by omega) (by omega)).trans (K1.out.block b hbw (by omega))
 have P5:Hid (Mid m2 m3 w w2):=λu u1 u2=>(f2.block u (by omega) (by omega) (by omega)).trans (K1.out.block u (by omega) (by omega))
 obtain ⟨oa,oc,rfl⟩:=o2.sl
 clear o2 h2 x2 f2 qD
 rcases HW.out with rfl | ⟨a,en,rfl,hEe,hde⟩
 ·have e1:wv = .pointer none:=HR.out.2
  subst e1
  go_wp2_with fail
  refine wY.mono ?_
  rintro e w3 ⟨rfl,rfl⟩
  go_wp2_with fail
  go_ret
  exact ⟨_,rfl,O2.out.wide hz1,H2.out,X2.out,HR2.out,((Fc.of K1.out).trans (F2.out.wide (aF _) (by omega))),HB2.out,P5.out⟩
 ·obtain ⟨b',v,p1,p2,rfl,hb1,hb2,hS,hAt,MI,hre⟩:=HR2.out
  unfold Sub at hS
  have Sa:=hAt.k0
  have Sc:=hAt.k1
  have Pf:=hid (wX (a:=a) hEe (HE2.out.part (by omega:lo<=p1) (by omega:p2<=hi)) (by simp;omega) hre hS.2.1 hAt.1 (by omega) (by omega) Sa Sc MI)
  have HAt:=hid hAt
  have XC:=hid MI
  have TF:=hAt.1
  have HV:Hid (TD T (.clause a en) (lv::aE) c2=((Sp.ck T en (lv::aE) 0 c2).2.1.fit a [1,(Sp.ck T en (lv::aE) 0 c2).1.headD 0]).2/\(Sp.ck T (.clause a en) (lv::aE) 0 c2).2.2 = .clause a (Sp.ck T en (lv::aE) 0 c2).2.2):=⟨rfl,rfl⟩
  clear hAt MI hre hEe Sa Sc
  go_wp2_with fail
  refine Pf.out.mono ?_
  rintro e w3 ⟨rfl,h3,r3,f3⟩
  have H3:=hid h3
  have HR3:=hid r3
  have F3:=hid f3
  have O3:=hid (O2.out.fc f3 (by omega) (by omega))
  clear h3 r3 f3 Pf
  go_wp2_with fail
  go_ret
  have hz3:=F3.out.size
  refine ⟨_,rfl,O3.out.wide hz1,by rw [HV.out.1];exact H3.out,X2.out.frame hz3 (λu u1 u2=>F3.out.block u (by omega) (by omega) (by omega)) (λblk off n c e=>F3.out.block blk (by have:=HX.out blk off n c e;omega) (by have:=HX.out blk off n c e;omega) (by have:=HX.out blk off n c e;omega)),?_,(((Fc.of K1.out).trans (F2.out.wide (aF _) (by omega))).trans (F3.out.wide (by omega) (by omega))),(F3.out.block b (by omega) (by omega) (by omega)).trans HB2.out,λu u1 u2=>(F3.out.block u (by omega) (by omega) (by omega)).trans (P5.out u u1 u2)⟩
  rw [HV.out.2]
  exact ⟨b',v,p1,p2,rfl,hb1,hb2,by unfold Sub;omega,HAt.out.same hz3 (F3.out.block b' TF (by omega) (by omega)),XC.out,HR3.out⟩
end Go.Proofs.YtgnncnhkgmhngaaGreatDoor
