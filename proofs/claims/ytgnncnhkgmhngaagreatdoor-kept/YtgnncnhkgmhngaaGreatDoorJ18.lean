import Derived.Test.YtgnncnhkgmhngaaGreatDoorJ17
set_option maxHeartbeats 4000000
set_option maxRecDepth 100000
namespace Go.Proofs.YtgnncnhkgmhngaaGreatDoor
open Go.RowKit Go.Sort
theorem ckL_step (T:List Sp.Tb) (lvs:List Sp.Lv) (ns:List Sp.Nd) (c:Sp.CS) (j:Nat) (h:j<ns.length):ckL T lvs (ns.take (j+1)) c=((ckL T lvs (ns.take j) c).1 ++ [(Sp.ck T ns[j] lvs 0 (ckL T lvs (ns.take j) c).2.1).1.headD 0],(Sp.ck T ns[j] lvs 0 (ckL T lvs (ns.take j) c).2.1).2.1,(ckL T lvs (ns.take j) c).2.2 ++ [(Sp.ck T ns[j] lvs 0 (ckL T lvs (ns.take j) c).2.1).2.2]):=by
 rw [List.take_succ_eq_append_getElem h,ckL_app];rfl
theorem exs_of {T:List Sp.Tb} {N:Nat} {nd:Sp.Nd} (hw:Sp.wf N nd .list) (hN:nd.len<=90000) (hE:∀ n∈nd.els,ExC T n):ExsC T nd:=by
 intro k cb m lo hi tv sv iv c lvs w he hd hr hsi
 obtain ⟨i0,ji,jz0,jz1,jz2⟩:=info_parts infoInt
 obtain ⟨e1,e2,e3⟩:=els_lapp N nd hw
 generalize hns:nd.els=ns at *
 have hdn:∀ n∈ns,lvs.length+n.dep<=100000:=fun n hn=>by have:=dep_lapp ns n hn;rw [<- e1] at this;omega
 rw [e1] at hr
 have hle:=Rp.le _ _ _ _ hr
 have HV:Hid ((Sp.ck T nd lvs 0 c).1.dropLast=(ckL T lvs ns c).1/\(Sp.ck T nd lvs 0 c).2.1=(ckL T lvs ns c).2.1/\(Sp.ck T nd lvs 0 c).2.2=Sp.lapp (ckL T lvs ns c).2.2 .nil):=by
  have h:=ck_lapp T N lvs ns c e3
  rw [<- e1] at h
  rw [h]
  exact ⟨by simp,rfl,rfl⟩
 rw [<- e2] at hN
 have hcw:=he.ck.lt
 have hmw:=he.mw
 have hcm:=he.cm
 have hhc:=he.hic
 obtain ⟨ia,rfl⟩:=he.sc.ptr
 clear e1 e2 hw hns
 cases ns with
 | nil=>
  obtain ⟨_,sa,sc,rfl⟩:=hr
  have HE:=hid he
  clear he hE hdn e3
  go_enter Tryz.func180,Tryz.ntmps180
  go_wp2_with fail
  go_loopw [7,12] (fun v i wr=>v = .slice none 0 0/\i = .int .i64 0/\wr=w) (fun _ _ _=>0)
  case atStart=>exact ⟨rfl,rfl,rfl⟩
  case round=>
   obtain ⟨rfl,rfl,rfl⟩:=hrel
   go_wp2_with fail
   go_ret
   refine ⟨_,rfl,by rw [HV.out.1];exact OwI.nil _ _,by rw [HV.out.2.1];exact HE.out.ck,by rw [HV.out.2.2];exact ⟨hle,_,_,rfl⟩,Fc.refl _ _ _ _⟩
 | cons n0 ns'=>
  obtain ⟨blk,off,n,cp,rfl,hbl⟩:∃ blk off n c,sv = .slice (some ⟨blk,off,none⟩) n c/\blk<w.heap.size:=by
   simp only [Sp.lapp,List.foldr_cons] at hr
   obtain ⟨blk,off,n,c,v,m1,m2,e,hl,_⟩:=hr
   exact ⟨blk,off,_,c,e,hl⟩
  obtain ⟨hn,xs,hel,hxs⟩:=Rp.els (n0::ns') lo hi blk off n cp hr
  have hbi:=hsi blk off n cp rfl
  have hbc:blk<cb:=hbi.2
  clear hr hsi
  generalize n0::ns'=ns at *
  have HN:=hid hn
  have HEX:=hid hE
  have HDN:=hid hdn
  have HXS:=hid hxs
  have HE:=hid he
  have HEL:=hid hel
  rw [<- hn] at hN
  clear hE hdn hxs he hel hn e3
  go_enter Tryz.func180,Tryz.ntmps180
  go_wp2_with fail
  go_loopw [7,12] (fun v i wr=>∃ j:Nat,j<=n/\i = .int .i64 (j:Nat)/\Hid (OwI w.heap.size wr v (ckL T lvs (ns.take j) c).1)/\Hid (CB cb tv (ckL T lvs (ns.take j) c).2.1 wr)/\Hid (ElR wr blk ((ckL T lvs (ns.take j) c).2.2++ns.drop j) xs lo hi)/\Hid (Fc cb lo hi w wr)/\Hid (wr.heap[blk]?=w.heap[blk]?)) (fun _ i _=>n - (intOf i).toNat)
  case atStart=>exact ⟨0,Nat.zero_le _,rfl,OwI.nil _ _,HE.out.ck,HEL,Fc.refl _ _ _ _,rfl⟩
  case round=>
   obtain ⟨j,hj,rfl,HO,HCr,HLr,HF,HBk⟩:=hrel
   have HEr:=hid (HE.out.next (Nat.le_refl _) (Nat.le_refl _) hle HF.out HCr.out)
   by_cases hlt:j<n
   ·have hjz:j<ns.length:=by have:=HN.out;omega
    have hl2:=(ckL_len T lvs (ns.take j) c)
    rw [List.length_take,Nat.min_eq_left (by omega)] at hl2
    have HS:=hid (ckL_step T lvs ns c j hjz)
    have hx:=HLr.out
    rw [List.drop_eq_getElem_cons hjz] at hx
    obtain ⟨m1,m2,x,ex,l1,l2,l3,l4,l5,l6,l7⟩:=ElR.upd _ _ _ _ _ _ hx
    rw [hl2.2] at ex
    have c0:=(World.cell?_of_block (w:=w) (a:=⟨blk,off+j,none⟩) HBk.out).trans (HXS.out j x ex)
    have HC:=HEX.out _ (List.getElem_mem hjz) k cb m m1 m2 tv x (.pointer ia) _ lvs wr (HEr.out.part l1 l3) (HDN.out _ (List.getElem_mem hjz)) l6
    have HCC:=hid HC
    have HL7:=hid l7
    have hLlen:(ckL T lvs (ns.take j) c).1.length<=90000:=by omega
    clear HC l7 hx HLr l6 ex hl2
    generalize ckL T lvs (ns.take j) c=R at *
    generalize ns[j]=nj at *
    generalize (Sp.ck T nj lvs 0 R.2.1).1.headD 0=ty at HCC HS
    go_wp2_with fail
    refine HCC.out.mono ?_
    rintro e w2 ⟨rfl,h2,r2,f2⟩
    have hblk:blk≠cb/\¬ (m1<=blk/\blk<m2):=⟨by omega,l4⟩
    have hzr:=HF.out.size
    have hwr:w.heap.size<=wr.heap.size:=hzr
    have HC2:=hid h2
    have HL2:Hid (ElR w2 blk (R.2.2++(Sp.ck T nj lvs 0 R.2.1).2.2::ns.drop (j+1)) xs lo hi):=HL7.out w2 _ f2.size (fun q q1 q2 q3 q4=>f2.block q (by omega) (by omega) q4) r2
    have HF2:Hid (Fc cb lo hi w w2):=HF.out.trans (f2.wide l1 l3)
    have HB2:Hid (w2.heap[blk]?=w.heap[blk]?):=(f2.block blk (by omega) hblk.1 hblk.2).trans HBk.out
    have HO2:Hid (OwI w.heap.size w2 u7 R.1):=HO.out.same fun b e=>f2.block b (ownsV_block HO.out b e).2 (by have:=(ownsV_block HO.out b e).1;omega) (by have:=(ownsV_block HO.out b e).1;omega)
    have hz2:=HF2.out.size
    clear h2 r2 f2 HCC HL7
    go_wp2_with (at_builtin;go_must (refine wpList_append_own _ rfl (.tmp 16) (.tmp 21) 206 rfl w.heap.size 3 i0 (.int .i64 0) 1 8 Tryz.underlying206 ji jz0 jz1 jz2 rfl (by decide) _ _ _ rfl (HO2.out.alloc _) ⟨_,0,none⟩ 1 1 [.int .i64 ty] rfl rfl (new1e _ _ rfl) (enI_one _) ?c3 ?c4 ?c5 ?_))
    case c3=>unfold maxLen;omega
    case c4=>omega
    case c5=>simp;omega
    intro v' w3 hown hgrow _
    have hb3:Below w.heap.size w2 w3:=((Below.refl w.heap.size w2).alloc hz2 _).grown hgrow (by simp;omega) (fun q e=>(ownsV_block HO2.out q e).1)
    have HO3:Hid (OwI w.heap.size w3 v' (ckL T lvs (ns.take (j+1)) c).1):=by
     show OwI _ _ _ _
     rw [HS.out]
     rw [enI_snoc] at hown
     simpa [OwI] using hown
    have HF3:Hid (Fc cb lo hi w w3):=⟨hb3.os.trans HF2.out.os,hb3.tape.trans HF2.out.tape,hb3.output.trans HF2.out.output,Nat.le_trans hz2 hb3.size,fun q hq h1 h2=>(hb3.block q hq).trans (HF2.out.block q hq h1 h2),fun q hq h1 h2=>(hb3.block q hq).trans (HF2.out.slc q hq h1 h2)⟩
    have HL3:Hid (ElR w3 blk ((ckL T lvs (ns.take (j+1)) c).2.2++ns.drop (j+1)) xs lo hi):=by
     show ElR _ _ _ _ _ _
     rw [HS.out]
     have E:=HL2.out.frame hb3.size fun q h1 h2 _=>hb3.block q (by omega)
     simpa using E
    have HC3:Hid (CB cb tv (ckL T lvs (ns.take (j+1)) c).2.1 w3):=by
     show CB _ _ _ _
     rw [HS.out]
     exact HC2.out.same hb3.size (hb3.block cb hcw)
    have HB3:Hid (w3.heap[blk]?=w.heap[blk]?):=(hb3.block blk hbl).trans HB2.out
    clear hown hgrow
    go_wp2_with fail
    go_roundw
    case rel=>exact ⟨j+1,by omega,by go_num,HO3,HC3,HL3,HF3,HB3⟩
    case measure=>simp [intOf];omega
   ·have hje:ns.take j=ns:=List.take_of_length_le (by have:=HN.out;omega)
    have HEQ:Hid (ckL T lvs (ns.take j) c=ckL T lvs ns c/\ns.drop j = []):=⟨by rw [hje],List.drop_of_length_le (by have:=HN.out;omega)⟩
    clear hje
    go_wp2_with fail
    go_ret
    have E:=HLr.out
    rw [HEQ.out.1,HEQ.out.2,List.append_nil] at E
    have hlen:=(ckL_len T lvs ns c).2
    refine ⟨_,rfl,by rw [HV.out.1,<- HEQ.out.1];exact HO.out,by rw [HV.out.2.1,<- HEQ.out.1];exact HCr.out,?_,HF.out⟩
    rw [HV.out.2.2]
    have R:=ElR.rp (off:=off) (Nat.lt_of_lt_of_le hbl HF.out.size) cp E (fun q u hq=>(World.cell?_of_block (w:=w) (a:=⟨blk,off+q,none⟩) HBk.out).trans (HXS.out q u hq))
    rw [hlen,<- HN.out] at R
    exact R
theorem En.gr {T:List Sp.Tb} {k cb m:Nat} {tv:Value} {c:Sp.CS} {lvs:List Sp.Lv} {iv:Value} {lo hi:Nat} {w w' : World} (h:En T k cb m tv c lvs iv lo hi w) (g:Gr w w'):En T k cb m tv c lvs iv lo hi w':=
 ⟨h.ck.gr g,h.tb.low (Low.of_gr g),h.sc.ou h.kw (Ou.gr g),h.klo,h.hic,h.cm,Nat.le_trans h.mw g.size⟩
theorem Rp.gr {w w' : World} {nd:Sp.Nd} {lo hi:Nat} {x:Value} (h:Rp w nd lo hi x) (g:Gr w w') (hh:hi<=w.heap.size) (hx:∀ blk off n c,x = .slice (some ⟨blk,off,none⟩) n c->blk<w.heap.size):Rp w' nd lo hi x:=
 h.frame g.size _ _ _ _ (fun q _ h2=>g.below.block q (by omega)) (fun blk off n c e=>g.below.block blk (hx blk off n c e))
theorem Rp.grN {w w' : World} {nd:Sp.Nd} {lo hi:Nat} {x:Value} (h:Rp w nd lo hi x) (g:Gr w w') (hh:hi<=w.heap.size) (hx:NoSl x):Rp w' nd lo hi x:=h.gr g hh fun _ _ _ _ e=>absurd e (hx _ _ _)
theorem Rp.keptN' {cb:Nat} {w w' : World} {nd:Sp.Nd} {lo hi:Nat} {x:Value} (h:Rp w nd lo hi x) (g:Kept cb w w') (hh:hi<=cb) (hc:cb<w.heap.size) (hx:NoSl x):Rp w' nd lo hi x:=
 h.frame g.size _ _ _ _ (fun q _ h2=>g.block q (by omega) (by omega)) (fun _ _ _ _ e=>absurd e (hx _ _ _))
theorem Rp.isSl {w:World} {nd:Sp.Nd} {lo hi N:Nat} {x:Value} (h:Rp w nd lo hi x) (hw:Sp.wf N nd .list):∃ a n c,x = .slice a n c:=by
 cases nd with
 | nil=>obtain ⟨_,a,c,e⟩:=h;exact ⟨_,_,_,e⟩
 | cons _ _=>obtain ⟨blk,off,n,c,v,_,_,e,_⟩:=h;exact ⟨_,_,_,e⟩
 | _=>simp [Sp.wf] at hw
theorem si_two (w:World) (x y:Int):Si (w.alloc (.cells #[.int .i64 x, .int .i64 y] 3)) (.slice (some ⟨w.heap.size,0,none⟩) 2 2) [x,y]:=si_new w _ [x,y] rfl _ 2
theorem cond_some {T:List Sp.Tb} {k cb m lo hi a pb po:Nat} {tv ev iv:Value} {c:Sp.CS} {lvs:List Sp.Lv} {w:World} {e:Sp.Nd} (hE:ExC T e) (he:En T k cb m tv c lvs iv lo hi w) (hd:lvs.length+e.dep<=100000) (hr:Rp w e lo hi ev) (_hlh:lo<=hi) (hp:pb<w.heap.size) (hpc:pb≠cb) (hpi:¬ (lo<=pb/\pb<hi))
  (c0:w.cell? ⟨pb,po,none⟩=some (.int .i64 (a:Nat))) (c1:w.cell? ⟨pb,po+1,none⟩=some ev) (hn:NoSl ev) :
  Calls Tryz.prog 138 #[.pointer (some ⟨cb,0,none⟩), .pointer (some ⟨pb,po,none⟩),iv] w fun r w'=>r = .returned (.tuple #[])/\CB cb tv ((Sp.ck T e lvs 0 c).2.1.fit a [1,(Sp.ck T e lvs 0 c).1.headD 0]).2 w'/\Rp w' (Sp.ck T e lvs 0 c).2.2 lo hi ev/\Fc cb lo hi w w':=by
 have hcw:=he.ck.lt
 have hhc:=he.hic
 obtain ⟨ia,rfl⟩:=he.sc.ptr
 have HC:=hid (hE k cb m lo hi tv ev (.pointer ia) c lvs w.drew (he.gr (Gr.refl w).drew) hd (hr.grN (Gr.refl w).drew (by omega) hn))
 have HN:=hid hn
 clear hE he hd hr hn
 generalize Sp.ck T e lvs 0 c=R at *
 obtain ⟨R1,R2,R3⟩:=R
 simp only [] at HC ⊢
 generalize R1.headD 0=ty at *
 go_enter Tryz.func138,Tryz.ntmps138
 go_wp2_with fail
 go_region_held3 (fun w'=>w'.cell? ⟨pb,po,none⟩=some (.int .i64 (a:Nat))/\w'.cell? ⟨pb,po+1,none⟩=some ev) (first | go_keep | exact ⟨c0,c1⟩ | exact ⟨d0,d1⟩ | exact ⟨f0,f1⟩ | exact ⟨g0,g1⟩) (first | (go_at_call 182;refine HC.out.mono ?_;rintro e2 w2 ⟨rfl,h2,r2,f2⟩;have d0:=(f2.cell (p:=⟨pb,po,none⟩) hp hpc hpi).trans c0;have d1:=(f2.cell (p:=⟨pb,po+1,none⟩) hp hpc hpi).trans c1;have hz2:w.heap.size<=w2.heap.size:=f2.size;have f0:=(((Gr.refl w2).alloc (.cells #[.int .i64 1, .int .i64 ty] 3)).cell (p:=⟨pb,po,none⟩) (by show pb<_;omega)).trans d0;have f1:=(((Gr.refl w2).alloc (.cells #[.int .i64 1, .int .i64 ty] 3)).cell (p:=⟨pb,po+1,none⟩) (by show pb<_;omega)).trans d1) | (go_at_call 181;refine (expectFit_any (h2.alloc (.cells #[.int .i64 1, .int .i64 ty] 3)) a (si_two w2 1 ty) (by simp)).mono ?_;rintro e3 w3 ⟨rfl,h3,k3⟩;have g0:=(k3.cell (p:=⟨pb,po,none⟩) (by simp;omega) hpc).trans f0;have g1:=(k3.cell (p:=⟨pb,po+1,none⟩) (by simp;omega) hpc).trans f1))
 go_end0
 have k3' : Kept cb w2 w3:=((Kept.refl cb w2).alloc _).trans k3
 exact ⟨rfl,h3,r2.keptN' k3' hhc (by omega) HN.out,(Fc.drewN (Fc.refl cb lo hi w) 1).trans (f2.trans (Fc.of k3'))⟩
theorem cond_none {cb:Nat} {ia:Option Addr} {w:World} :
  Calls Tryz.prog 138 #[.pointer (some ⟨cb,0,none⟩), .pointer none, .pointer ia] w fun r w'=>r = .returned (.tuple #[])/\w'=w:=by
 go_enter Tryz.func138,Tryz.ntmps138
 go_wp2_with fail
 go_end0
 exact ⟨rfl,rfl⟩
theorem oper_any {T:List Sp.Tb} {k cb m lo hi m1 m2 a b:Nat} {tv sv iv:Value} {c:Sp.CS} {lvs:List Sp.Lv} {w:World} {wd:Sp.Bs} {args:Sp.Nd} (hE:ExsC T args) {N:Nat} (hw:Sp.wf N args .list) (he:En T k cb m tv c lvs iv lo hi w) (hd:lvs.length+args.dep<=100000) (hlen:∀ c,(Sp.ck T args lvs 0 c).1.dropLast.length<=90000)
  (hb:lo<=b/\b<hi) (hS:Sub lo hi b m1 m2) (hA:At w b [.string (bz wd), .int .i64 (a:Nat),sv]) (hI:SIn lo hi sv) (hr:Rp w args m1 m2 sv) :
  Calls Tryz.prog 222 #[.pointer (some ⟨cb,0,none⟩), .pointer (some ⟨b,0,none⟩),iv] w fun r w'=>r = .returned (.int .i64 (Sp.typeOf wd (Sp.ck T args lvs 0 c).1.dropLast).1)/\CB cb tv (if (Sp.typeOf wd (Sp.ck T args lvs 0 c).1.dropLast).2 then (Sp.ck T args lvs 0 c).2.1 else (Sp.ck T args lvs 0 c).2.1.fail 5 a) w'/\Rp w' (Sp.ck T args lvs 0 c).2.2 m1 m2 sv/\Fc cb m1 m2 w w':=by
 have hcw:=he.ck.lt
 have hhc:=he.hic
 obtain ⟨ia,rfl⟩:=he.sc.ptr
 unfold Sub at hS
 have HC:=hid (hE k cb m m1 m2 tv sv (.pointer ia) c lvs w.drew ((he.part hS.1 hS.2.2.1).gr (Gr.refl w).drew) hd (hr.gr (Gr.refl w).drew (by omega) fun blk off n c e=>by have:=hI blk off n c e;omega) (fun blk off n c e=>by have:=hI blk off n c e;omega))
 have hln:=hlen c
 have c0:=hA.k0
 have c1:=hA.k1
 have c2:=hA.k2
 have hbw:=hA.1
 have HI:=hid hI
 obtain ⟨va,vn,vc,rfl⟩:=hr.isSl hw
 clear hE he hd hr hI hA hlen hw
 generalize Sp.ck T args lvs 0 c=R at *
 obtain ⟨R1,R2,R3⟩:=R
 simp only [] at HC hln ⊢
 generalize R1.dropLast=tys at *
 have HTO:Hid (∀ w v,Si w v tys->Calls Tryz.prog 258 #[.string (bz wd),v] w fun e w'=>e = .returned (.tuple #[.int .i64 (Sp.typeOf wd tys).1, .bool (Sp.typeOf wd tys).2])/\Below w.heap.size w w'):=fun w v h=>by
  have:=typeOf_any (bz wd) h hln
  rw [bz_list] at this
  exact this
 generalize Sp.typeOf wd tys=tt at *
 obtain ⟨t1,t2⟩:=tt
 simp only [] at HTO ⊢
 go_enter Tryz.func222,Tryz.ntmps222
 go_wp2_with fail
 go_region_held3 (fun w'=>w'.cell? ⟨b,0,none⟩=some (.string (bz wd))/\w'.cell? ⟨b,2,none⟩=some (.slice va vn vc)) (first | go_keep | exact ⟨c0,c2⟩ | exact ⟨d0,d2⟩ | exact ⟨f0,f2⟩) (first | (go_at_call 180;refine HC.out.mono ?_;rintro e2 w2 ⟨v2,rfl,o2,h2,r2,g2⟩;have d0:=(g2.cell (p:=⟨b,0,none⟩) hbw (by show b≠cb;omega) (by show ¬ (m1<=b/\b<m2);omega)).trans c0;have d1:=(g2.cell (p:=⟨b,1,none⟩) hbw (by show b≠cb;omega) (by show ¬ (m1<=b/\b<m2);omega)).trans c1;have d2:=(g2.cell (p:=⟨b,2,none⟩) hbw (by show b≠cb;omega) (by show ¬ (m1<=b/\b<m2);omega)).trans c2;have hz2:w.heap.size<=w2.heap.size:=g2.size;obtain ⟨oa,oc,rfl⟩:=o2.sl) | (go_at_call 258;refine (HTO.out _ _ o2.si).mono ?_;rintro e3 w3 ⟨rfl,g3⟩;have f0:=(g3.cell (p:=⟨b,0,none⟩) (by show b<_;omega)).trans d0;have f1:=(g3.cell (p:=⟨b,1,none⟩) (by show b<_;omega)).trans d1;have f2:=(g3.cell (p:=⟨b,2,none⟩) (by show b<_;omega)).trans d2))
 have HK:=hid (Kept.below (b:=cb) g3)
 have HB3:=hid g3
 have H3:=hid (h2.same g3.size (g3.block cb h2.lt))
 have HR3:=hid (r2.frame g3.size _ _ _ _ (fun q _ q2=>g3.block q (by omega)) (fun blk off n c e=>g3.block blk (by have:=HI.out blk off n c e;omega)))
 have HF:=hid ((Fc.drewN (Fc.refl cb m1 m2 w) 1).trans (g2.trans (Fc.of HK.out)))
 clear o2 h2 r2 g2 g3 HC c0 c1 c2 d0 d1 d2 f0 f2
 try clear hHeld
 cases t2
 ·go_wp2_with fail
  refine (cfail_any H3.out 5 a).mono ?_
  rintro e4 w4 ⟨rfl,h4,k4⟩
  have HX:=hid (And.intro h4 k4)
  clear h4 k4
  go_wp2_with fail
  go_ret
  exact ⟨rfl,HX.out.1,HR3.out.frame HX.out.2.size _ _ _ _ (fun q _ q2=>HX.out.2.block q (by have:=HB3.out.size;omega) (by omega)) (fun blk off n c e=>HX.out.2.block blk (by have:=HI.out blk off n c e;have:=HB3.out.size;omega) (by have:=HI.out blk off n c e;omega)),HF.out.trans (Fc.of HX.out.2)⟩
 ·go_wp2_with fail
  go_ret
  exact ⟨rfl,H3.out,HR3.out,HF.out⟩
abbrev Arm:=Nat×Sp.Nd×Nat×Sp.Nd
def Sp.Nd.arl:Sp.Nd->List Arm
 | .arms wa e ta t r=>(wa,e,ta,t)::r.arl
 | _ => []
def Sb (b:Nat) (w w' : World):Prop:=w'.heap[b]?=w.heap[b]?
theorem Rp.ifc {w:World} {nd:Sp.Nd} {lo hi N:Nat} {x:Value} (h:Rp w nd lo hi x) (hw:Sp.wf N nd .expr):∃ t q,x = .iface t (.pointer (some ⟨q,0,none⟩)):=by
 cases nd with
 | const _=>obtain ⟨b,e,_⟩:=h;exact ⟨_,_,e⟩
 | col _ _ _ _ _ _=>obtain ⟨b,e,_⟩:=h;exact ⟨_,_,e⟩
 | op _ _ _=>obtain ⟨b,_,_,_,e,_⟩:=h;exact ⟨_,_,e⟩
 | kase _ _=>obtain ⟨b,_,_,_,_,_,e,_⟩:=h;exact ⟨_,_,e⟩
 | within _ _ _ _=>obtain ⟨b,_,_,_,_,_,_,e,_⟩:=h;exact ⟨_,_,e⟩
 | _=>simp [Sp.wf] at hw
theorem OwI.fc {base cb lo hi:Nat} {w w' : World} {v:Value} {l:List Int} (h:OwI base w v l) (f:Fc cb lo hi w w') (h1:cb<base) (h2:hi<=base):OwI base w' v l:=
 h.same fun b e=>f.block b (ownsV_block h b e).2 (by have:=(ownsV_block h b e).1;omega) (by have:=(ownsV_block h b e).1;omega)
theorem OwI.wide {base base' : Nat} {w:World} {v:Value} {l:List Int} (h:OwI base w v l) (hb:base'<=base):OwI base' w v l:=by
 obtain ⟨hl,h | ⟨g,cap,cur,hv,h0,r⟩⟩:=h
 ·exact ⟨hl, .inl h⟩
 ·exact ⟨hl, .inr ⟨g,cap,cur,hv,by omega,r⟩⟩
theorem cond_any {T:List Sp.Tb} {k cb m lo hi:Nat} {tv wv iv:Value} {c:Sp.CS} {lvs:List Sp.Lv} {w:World} {wh:Sp.Nd} (hW:wh = .none\/∃ a e,wh = .clause a e/\ExC T e/\lvs.length+e.dep<=100000) (he:En T k cb m tv c lvs iv lo hi w) (hr:Rp w wh lo hi wv) :
  Calls Tryz.prog 138 #[.pointer (some ⟨cb,0,none⟩),wv,iv] w fun r w'=>r = .returned (.tuple #[])/\CB cb tv (Sp.cond T wh lvs c).1 w'/\Rp w' (Sp.cond T wh lvs c).2 lo hi wv/\Fc cb lo hi w w':=by
 have hcw:=he.ck.lt
 have hhc:=he.hic
 rcases hW with rfl | ⟨a,en,rfl,hEe,hde⟩
 ·have e1:wv = .pointer none:=hr.2
  subst e1
  obtain ⟨ia,rfl⟩:=he.sc.ptr
  refine cond_none.mono ?_
  rintro e w' ⟨rfl,rfl⟩
  exact ⟨rfl,he.ck,hr,Fc.refl _ _ _ _⟩
 ·obtain ⟨b',v,p1,p2,rfl,hb1,hb2,hS,hAt,hnv,hre⟩:=hr
  unfold Sub at hS
  have b'0:=hAt.k0
  have b'1:=hAt.k1
  refine (cond_some (a:=a) hEe (he.part (by omega:lo<=p1) (by omega:p2<=hi)) hde hre hS.2.1 hAt.1 (by omega) (by omega) b'0 b'1 hnv).mono ?_
  rintro e w3 ⟨rfl,h3,r3,f3⟩
  refine ⟨rfl,h3,?_,f3.wide (by omega) (by omega)⟩
  exact ⟨b',v,p1,p2,rfl,hb1,hb2,by unfold Sub;omega,hAt.same f3.size (f3.block b' hAt.1 (by omega) (by omega)),hnv,r3⟩
theorem tysF_small {k m:Nat} {w:World} {lv:Sp.Lv} {v:Value} (h:Svs k m w lv v):(tysF lv).length<=60000:=by
 have hl:=h.1
 have:=tysF_len lv (fun x hx=>by
  rcases h.2 with ⟨rfl,_⟩ | ⟨b,c,_,_,hs⟩
  ·simp at hx
  ·obtain ⟨j,hj,rfl⟩:=List.getElem_of_mem hx
   obtain ⟨tv,_,_,_,_,ht⟩:=hs.at_ j hj
   exact ht.colN) lv.length
 rw [List.take_of_length_le (Nat.le_refl _)] at this
 omega
theorem columns_exprs {cb b lo hi:Nat} {tv iv:Value} {va:Addr} {vn vc:Nat} {w:World} {tys:List Int} {c:Sp.CS} {P:World->Prop} {ia:Option Addr} (hiv:iv = .pointer ia) (hA:w.cell? ⟨b,2,none⟩=some (.slice (some va) vn vc))
  (HC:Calls Tryz.prog 180 #[.pointer (some ⟨cb,0,none⟩), .slice (some va) vn vc,iv] w fun r w'=>∃ v,r = .returned v/\OwI w.heap.size w' v tys/\CB cb tv c w'/\P w'/\Fc cb lo hi w w') :
  Calls Tryz.prog 228 #[.pointer (some ⟨cb,0,none⟩), .pointer (some ⟨b,0,none⟩),iv] w fun r w'=>∃ v,r = .returned v/\OwI w.heap.size w' v tys/\CB cb tv c w'/\P w'/\Fc cb lo hi w w':=by
 subst hiv
 have H:=hid HC
 clear HC
 go_enter Tryz.func228,Tryz.ntmps228
 go_wp2_with fail
 refine H.out.mono ?_
 rintro e w1 ⟨v,rfl,h⟩
 go_wp2_with fail
 go_ret
 exact ⟨_,rfl,h⟩
theorem columns_star {cb k m b st:Nat} {tv fv iv:Value} {c:Sp.CS} {lv:Sp.Lv} {lvs:List Sp.Lv} {src:List (Sp.Nm×Sp.Nm)} {w:World} (hc:CB cb tv c w) (hkw:k<=w.heap.size) (hs:Scp k m w (lv::lvs) iv) (hkc:k<=cb) (hcm:cb<m) (_hbw:b<w.heap.size) (_hbc:b≠cb)
  (b1:w.cell? ⟨b,1,none⟩=some (.int .i64 (st:Nat))) (b2:w.cell? ⟨b,2,none⟩=some (.slice none 0 0)) (b3:w.cell? ⟨b,3,none⟩=some fv) (hf:(src = []/\fv = .slice none 0 0)\/(src ≠ []/\∃ ad n c,fv = .slice (some ad) n c)) :
  Calls Tryz.prog 228 #[.pointer (some ⟨cb,0,none⟩), .pointer (some ⟨b,0,none⟩),iv] w fun r w'=>∃ v,r = .returned v/\OwI w.heap.size w' v (tysF lv)/\CB cb tv (if src.isEmpty then c.fail 6 st else c) w'/\Kept cb w w':=by
 obtain ⟨sb,sv,ov,rfl,hb,hl,c0,c1,hsv,hr⟩:=hs
 obtain ⟨kc,hkq⟩:∃ z,z=(if src.isEmpty then c.fail 6 st else c):=⟨_,rfl⟩
 rw [<- hkq]
 have HKQ:=hid hkq
 clear hkq
 have HC:=hid hc
 have HSV:=hid hsv
 have hkw':=hid hkw
 have u3:∀ w,Sem.run Tryz.prog (binOp BinOp.eql 333 (.slice none 0 0) (.slice none 0 0)) w = .ok (.bool true) w:=fun w=>by kernel_rfl
 have u4:∀ ad n c w,Sem.run Tryz.prog (binOp BinOp.eql 333 (.slice (some ad) n c) (.slice none 0 0)) w = .ok (.bool false) w:=fun ad n c w=>by kernel_rfl
 clear hc hsv hr hkw
 rcases hf with ⟨rfl,rfl⟩ | ⟨hne,ad,fn,fc,rfl⟩
 ·go_enter Tryz.func228,Tryz.ntmps228
  go_wp2_with fail
  refine (cfail_any HC.out 6 st).mono ?_
  rintro e w1 ⟨rfl,h1,k1⟩
  have H1:=hid h1
  have K1:=hid k1
  have HTy:=hid (types_any (Nat.le_trans hkw'.out k1.size) (Nat.lt_of_lt_of_le hl k1.size) ((k1.cell (p:=⟨sb,0,none⟩) hl (by show sb≠cb;omega)).trans c0) (HSV.out.ou hkw'.out (Ou.kept k1 hkc hcm)))
  clear h1 k1
  go_wp2_with fail
  refine HTy.out.mono ?_
  rintro e w2 ⟨v,rfl,o2,g2⟩
  go_wp2_with fail
  go_ret
  exact ⟨_,rfl,o2.wide K1.out.size,by rw [HKQ.out];exact H1.out.same g2.size (g2.block cb H1.out.lt),K1.out.trans (Kept.below g2)⟩
 ·have HE:Hid (src.isEmpty=false):=by show _=_;cases src with | nil=>exact absurd rfl hne | cons _ _=>rfl
  have HTy:=hid (types_any hkw'.out hl c0 HSV.out)
  go_enter Tryz.func228,Tryz.ntmps228
  go_wp2_with fail
  refine HTy.out.mono ?_
  rintro e w2 ⟨v,rfl,o2,g2⟩
  go_wp2_with fail
  go_ret
  exact ⟨_,rfl,o2,by rw [HKQ.out,HE.out];exact HC.out.same g2.size (g2.block cb HC.out.lt),Kept.below g2⟩
def Mid (a b:Nat) (w w' : World):Prop:=∀ q,a<=q->q<b->w'.heap[q]?=w.heap[q]?
def whC (T:List Sp.Tb) (wh:Sp.Nd) (lvs:List Sp.Lv) (c:Sp.CS):Sp.CS:=(Sp.cond T wh lvs c).1
def ExR (w:World) (ex:Sp.Nd) (m1 m2:Nat) (xv:Value):Prop:=(ex = .none/\xv = .slice none 0 0)\/(ex ≠ .none/\Rp w ex m1 m2 xv)
theorem ExR.frame {w w' : World} {ex:Sp.Nd} {m1 m2:Nat} {xv:Value} (h:ExR w ex m1 m2 xv) (hs:w.heap.size<=w'.heap.size) (hk:∀ k,m1<=k->k<m2->w'.heap[k]?=w.heap[k]?) (hb:∀ blk off n c,xv = .slice (some ⟨blk,off,none⟩) n c->w'.heap[blk]?=w.heap[blk]?):ExR w' ex m1 m2 xv:=by
 rcases h with h | ⟨h1,h2⟩
 ·exact .inl h
 ·exact .inr ⟨h1,h2.frame hs _ _ _ _ hk hb⟩
theorem sel_core {T:List Sp.Tb} {k cb m lo hi b m1 m2 m3 m4:Nat} {tv fv xv wv iv:Value} {c c2:Sp.CS} {lvs:List Sp.Lv} {w:World} {src:List (Sp.Nm×Sp.Nm)} {wh ex' : Sp.Nd} {tys:List Int} (hW:wh = .none\/∃ a e,wh = .clause a e/\ExC T e/\lvs.length+1+e.dep<=100000)
  (he:En T k cb m tv c lvs iv lo hi w) (hsrc:SrV w src fv) (hsl:src.length<=1100) (hb:lo<=b/\b<hi) (hm:lo<=m1/\m1<=m2/\m2<=m3/\m3<=m4/\m4<=hi/\¬ (m1<=b/\b<m2)/\¬ (m3<=b/\b<m4)) (hfi:SIn m2 m3 fv) (hxi:SIn lo m2 xv)
  (b3:w.cell? ⟨b,3,none⟩=some fv) (b4:w.cell? ⟨b,4,none⟩=some wv) (hbw:b<w.heap.size) (hn:NoSl wv) (hr:Rp w wh m3 m4 wv)
  (hC:∀ w1 v,En T k cb m tv ((Sp.fromC T src [] c).2.note ((Sp.fromC T src [] c).1::lvs)) ((Sp.fromC T src [] c).1::lvs) v lo hi w1->Kept cb w w1->Calls Tryz.prog 228 #[.pointer (some ⟨cb,0,none⟩), .pointer (some ⟨b,0,none⟩),v] w1 fun r w'=>∃ v',r = .returned v'/\OwI w1.heap.size w' v' tys/\CB cb tv c2 w'/\ExR w' ex' m1 m2 xv/\Fc cb m1 m2 w1 w') :
  Calls Tryz.prog 184 #[.pointer (some ⟨cb,0,none⟩), .pointer (some ⟨b,0,none⟩),iv] w fun r w'=>∃ v',r = .returned v'/\OwI w.heap.size w' v' tys/\CB cb tv (whC T wh ((Sp.fromC T src [] c).1::lvs) c2) w'/\ExR w' ex' m1 m2 xv/\Rp w' (Sp.ck T wh ((Sp.fromC T src [] c).1::lvs) 0 c2).2.2 m3 m4 wv/\Fc cb m1 m4 w w'/\Sb b w w'/\Mid m2 m3 w w':=by
 have hcw:=he.ck.lt
 have hhc:=he.hic
 have hcm:=he.cm
 have hmw:=he.mw
 have hkl:=he.klo
 have HE:=hid he
 have HW:=hid hW
 have HN:=hid hn
 have HR:=hid hr
 have HX:=hid hxi
 have HCo:=hid hC
 have HF:=hid (from_any he.ck he.tb he.sc hsrc (fun blk off n c e=>by have:=hfi blk off n c e;omega) hsl (by omega) hcm hmw)
 obtain ⟨ia,rfl⟩:=he.sc.ptr
 obtain ⟨fa,fn,fc,rfl⟩:∃ a n c,fv = .slice a n c:=by
  rcases hsrc with ⟨_,rfl⟩ | ⟨_,_,e,_⟩
  ·exact ⟨_,_,_,rfl⟩
  ·exact ⟨_,_,_,e⟩
 clear hW he hsrc hn hr hC hxi
 generalize hFC:Sp.fromC T src [] c=FC at *
 clear hFC
 obtain ⟨lv,cf⟩:=FC
 simp only [] at HF HCo ⊢
 go_enter Tryz.func184,Tryz.ntmps184
 go_wp2_with fail
 refine HF.out.mono ?_
 rintro e w1 ⟨v1,rfl,s1,h1,k1⟩
 have hz1:=k1.size
 have HE1:Hid (En T k cb m tv (cf.note (lv::lvs)) (lv::lvs) v1 lo hi w1):=⟨h1,HE.out.tb.low (Low.of_kept k1 (by omega)),s1,hkl,hhc,hcm,Nat.le_trans hmw hz1⟩
 have HC1:=hid (HCo.out w1 v1 HE1.out k1)
 have K1:=hid k1
 have c4:=(k1.cell (p:=⟨b,4,none⟩) hbw (by show b≠cb;omega)).trans b4
 obtain ⟨ja,rfl⟩:=s1.ptr
 clear s1 h1 k1 HF HCo
 go_wp2_with fail
 refine HC1.out.mono ?_
 rintro e w2 ⟨v2,rfl,o2,h2,x2,f2⟩
 have hz2:=f2.size
 have HE2:Hid (En T k cb m tv c2 (lv::lvs) (.pointer ja) lo hi w2):=HE1.out.next hm.1 (by omega) hm.2.1 f2 h2
 have O2:=hid o2
 have X2:=hid x2
 have F2:=hid f2
 have H2:=hid h2
 have d4:=(f2.cell (p:=⟨b,4,none⟩) (by show b<_;omega) (by show b≠cb;omega) (by show ¬ (m1<=b/\b<m2);omega)).trans c4
 have HR2:=hid ((HR.out.keptN' K1.out (by omega) hcw HN.out).frame hz2 _ _ _ _ (fun u u1 u2=>f2.block u (by omega) (by omega) (by omega)) (fun _ _ _ _ e=>absurd e (HN.out _ _ _)))
 have HB2:Hid (Sb b w w2):=(f2.block b (by omega) (by omega) (by omega)).trans (K1.out.block b hbw (by omega))
 have HM2:Hid (Mid m2 m3 w w2):=fun u u1 u2=>(f2.block u (by omega) (by omega) (by omega)).trans (K1.out.block u (by omega) (by omega))
 obtain ⟨oa,oc,rfl⟩:=o2.sl
 clear o2 h2 x2 f2 HC1
 rcases HW.out with rfl | ⟨a,en,rfl,hEe,hde⟩
 ·have e1:wv = .pointer none:=HR.out.2
  subst e1
  go_wp2_with fail
  refine cond_none.mono ?_
  rintro e w3 ⟨rfl,rfl⟩
  go_wp2_with fail
  go_ret
  exact ⟨_,rfl,O2.out.wide hz1,H2.out,X2.out,HR2.out,((Fc.of K1.out).trans (F2.out.wide (Nat.le_refl _) (by omega))),HB2.out,HM2.out⟩
 ·obtain ⟨b',v,p1,p2,rfl,hb1,hb2,hS,hAt,hnv,hre⟩:=HR2.out
  unfold Sub at hS
  have b'0:=hAt.k0
  have b'1:=hAt.k1
  have HCd:=hid (cond_some (a:=a) hEe (HE2.out.part (by omega:lo<=p1) (by omega:p2<=hi)) (by simp;omega) hre hS.2.1 hAt.1 (by omega) (by omega) b'0 b'1 hnv)
  have HAt:=hid hAt
  have HNv:=hid hnv
  have hb'w:=hAt.1
  have HV:Hid (whC T (.clause a en) (lv::lvs) c2=((Sp.ck T en (lv::lvs) 0 c2).2.1.fit a [1,(Sp.ck T en (lv::lvs) 0 c2).1.headD 0]).2/\(Sp.ck T (.clause a en) (lv::lvs) 0 c2).2.2 = .clause a (Sp.ck T en (lv::lvs) 0 c2).2.2):=⟨rfl,rfl⟩
  clear hAt hnv hre hEe b'0 b'1
  go_wp2_with fail
  refine HCd.out.mono ?_
  rintro e w3 ⟨rfl,h3,r3,f3⟩
  have H3:=hid h3
  have HR3:=hid r3
  have F3:=hid f3
  have O3:=hid (O2.out.fc f3 (by omega) (by omega))
  clear h3 r3 f3 HCd
  go_wp2_with fail
  go_ret
  have hz3:=F3.out.size
  refine ⟨_,rfl,O3.out.wide hz1,by rw [HV.out.1];exact H3.out,X2.out.frame hz3 (fun u u1 u2=>F3.out.block u (by omega) (by omega) (by omega)) (fun blk off n c e=>F3.out.block blk (by have:=HX.out blk off n c e;omega) (by have:=HX.out blk off n c e;omega) (by have:=HX.out blk off n c e;omega)),?_,(((Fc.of K1.out).trans (F2.out.wide (Nat.le_refl _) (by omega))).trans (F3.out.wide (by omega) (by omega))),(F3.out.block b (by omega) (by omega) (by omega)).trans HB2.out,fun u u1 u2=>(F3.out.block u (by omega) (by omega) (by omega)).trans (HM2.out u u1 u2)⟩
  rw [HV.out.2]
  exact ⟨b',v,p1,p2,rfl,hb1,hb2,by unfold Sub;omega,HAt.out.same hz3 (F3.out.block b' hb'w (by omega) (by omega)),HNv.out,HR3.out⟩
end Go.Proofs.YtgnncnhkgmhngaaGreatDoor
