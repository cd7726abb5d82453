import Derived.Test.YtgnncnhkgmhngaaGreatDoorJ40
set_option maxHeartbeats 4000000
set_option maxRecDepth 100000
namespace Go.Proofs.YtgnncnhkgmhngaaGreatDoor
open Sp
open Go.RowKit Go.Sort
theorem gU.Wi {C:Nat->Prop} {w wr:World} {v:Value} {r:List Sv.Val} (h:gU C w v r) (g:RowKit.Below w.heap.size w wr):Rw wr.heap.size wr v r:=by
 rcases h with h | ⟨b,o,c,e,_,hv⟩
 ·exact .inl h
 ·exact .inr ⟨b,o,c,e,bY hv.lb g.size,hv.below g g.size hv.lb⟩
theorem gU.sl {C:Nat->Prop} {w:World} {v:Value} {r:List Sv.Val} (h:gU C w v r):∃ a l c,v = .slice a l c:=by
 rcases h with h | ⟨b,o,c,e,_⟩
 ·exact ⟨_,_,_,h.1⟩
 ·exact ⟨_,_,_,e⟩
theorem sI.sl {w:World} {v:Value} {xs:List Value} (h:sI w v xs):∃ a c,v = .slice a xs.length c:=by
 rcases h with ⟨e,rfl⟩ | ⟨b,o,c,e,_⟩
 ·exact ⟨_,_,e⟩
 ·exact ⟨_,_,e⟩
theorem oU {w w' : World} {base:Nat} {e:TypeId} {size n:Nat} {v:Value} {g:Option Nat} {xs:List Value} (h:w.ownsRow base e size v n xs) (hg:w.grownBy w' g) (ha:∀ b,v.ownBlock=some b->g≠some b):w'.ownsRow base e size v n xs:=by
 have hb:=aB h
 obtain ⟨hl,h0 | ⟨k,cap,cur,hv,hr⟩⟩:=h
 ·exact ⟨hl, .inl h0⟩
 ·subst hv
  exact aV (w:=w) ⟨hl, .inr ⟨k,cap,cur,rfl,hr⟩⟩ (hg.block k (hb k rfl).2 (λee=>ha k rfl ee.symm))
theorem sI.tl {w:World} {ys:List Value} {p l sb so c:Nat} (h:sI w (.slice (some ⟨sb,so,none⟩) l c) (ys.drop p)) (hp:p<ys.length) (hc:l<=c):sI w (.slice (if c=1 then some ⟨sb,so,none⟩ else some ⟨sb,so+1,none⟩) (l - 1) (c - 1)) (ys.drop (p+1)):=by
 rcases h with ⟨e,_⟩ | ⟨b,o,c',e,hb,h⟩
 ·cases e
 ·injection e with e1 e2 e3
  injection e1 with e1
  injection e1 with e4 e5
  subst e4 e5
  have hl:l=ys.length - p:=by rw [e2,List.length_drop]
  have hl2:(ys.drop (p+1)).length=l - 1:=by rw [List.length_drop];omega
  split
  ·exact .inr ⟨sb,so,c - 1,by rw [hl2],hb,λi hi=>absurd hi (by omega)⟩
  ·refine .inr ⟨sb,so+1,c - 1,by rw [hl2],hb,λi hi=>?_⟩
   have:=h (i+1) (by rw [List.length_drop];omega)
   rw [show so+1+i=so+(i+1) by omega,this]
   simp [List.getElem_drop,Nat.add_assoc,Nat.add_comm 1 i]
theorem Fv {M:List (List Sv.Val)×List (List Sv.Val)} {pm pr d l m t:List (List Sv.Val)} {r:List Sv.Val} (HP:M=(pm++(matched d m).1,pr++(matched d m).2)) (HD:d=r::l) (hs:Sp.skip r m=t) (hn:t = []\/∃ s u,t=s::u/\bP s r≠0):M=(pm++(matched l t).1,(pr ++ [r])++(matched l t).2):=by
 rw [HP,HD]
 rcases hn with rfl | ⟨s,u,rfl,h⟩ <;> simp [matched, *]
theorem L0 {M:List (List Sv.Val)×List (List Sv.Val)} {pm pr d l m t:List (List Sv.Val)} {r s:List Sv.Val} (HP:M=(pm++(matched d m).1,pr++(matched d m).2)) (HD:d=r::l) (hs:Sp.skip r m=s::t) (h:bP s r=0):M=((pm ++ [r])++(matched l t).1,pr++(matched l t).2):=by
 rw [HP,HD]
 simp [matched,hs,h]
def Nf:Value->Nat
 | .slice _ l _=>l
 | _=>0
theorem rX {C:Nat->Prop} {k:Nat} {fv sv:Value} {xs ys:List Value} {rx ry:List (List Sv.Val)} {w:World} (hx:sI w fv xs) (hy:sI w sv ys) (hax:Al (gU C w) xs rx) (hay:Al (gU C w) ys ry)
  (hwx:∀ r∈rx,r.length=k) (hwy:∀ r∈ry,r.length=k) (hk:k<=100000) (hbx:xs.length<=100000) (hby:ys.length<=100000) (hcap:∀ a l c,sv = .slice a l c->l<=c) :
  Calls Tryz.prog 200 #[fv,sv] w λe w'=>∃ mv rv ms rs,e = .returned (.tuple #[mv,rv])/\w'.ownsRow w.heap.size 41 1 mv ms.length ms/\w'.ownsRow w.heap.size 41 1 rv rs.length rs/\(∀ b,mv.ownBlock=some b->rv.ownBlock≠some b)/\Al (gU C w) ms (matched rx ry).1/\Al (gU C w) rs (matched rx ry).2/\RowKit.Below w.heap.size w w':=by
 obtain ⟨i0,ji,fR,jz1,fS⟩:=info_parts BT
 have HX:=hid hx
 have HY:=hid hy
 have Ut:=hid hax
 have Uu:=hid hay
 have YL:=hid hwx
 have YM:=hid hwy
 obtain ⟨n,hn⟩:∃ n,n=xs.length:=⟨_,rfl⟩
 obtain ⟨fa,fc,rfl⟩:=hx.sl
 obtain ⟨sa,sc,rfl⟩:=hy.sl
 have hcs:=hcap _ _ _ rfl
 obtain ⟨m,hm⟩:∃ m,m=ys.length:=⟨_,rfl⟩
 rw [<- hn] at hbx ⊢
 rw [<- hm] at hby hcs ⊢
 have HN:=hid hn
 have HM:=hid hm
 clear hx hy hax hay hwx hwy hn hm hcap
 go_enter Tryz.func200,Tryz.ntmps200
 go_wp2_with fail
 go_loopw [1,4,5,10] (λv1 v4 v5 i wr=>∃ (j q:Nat) (ms rs:List Value) (pm pr:List (List Sv.Val)) (a1:Option Addr) (c1:Nat) (ma ra:Option Addr) (mc rc:Nat),j<=n/\i = .int .i64 (j:Nat)/\v1 = .slice a1 (m - q) c1/\v4 = .slice ma ms.length mc/\v5 = .slice ra rs.length rc/\Hid (q<=m)/\m - q<=c1/\Hid (sI w v1 (ys.drop q))/\Hid (wr.ownsRow w.heap.size 41 1 v4 ms.length ms)/\Hid (wr.ownsRow w.heap.size 41 1 v5 rs.length rs)/\Hid (∀ b,v4.ownBlock=some b->v5.ownBlock≠some b)/\Hid (Al (gU C w) ms pm)/\Hid (Al (gU C w) rs pr)/\Hid (matched rx ry=(pm++(matched (rx.drop j) (ry.drop q)).1,pr++(matched (rx.drop j) (ry.drop q)).2))/\ms.length<=j/\rs.length<=j/\Hid (RowKit.Below w.heap.size w wr)) (λ_ _ _ i _=>n - (intOf i).toNat)
 case atStart=>exact ⟨0,0, [], [], [], [],sa,sc,none,none,0,0,fO _,rfl,rfl,rfl,rfl,fO _,hcs,by rw [HM.out];exact HY.out,World.ownsRow_nil _ _ _ _,World.ownsRow_nil _ _ _ _,hid (λ_ h=>by simp [Value.ownBlock] at h),trivial,trivial,rfl,aF _,aF _,Below.refl _ _⟩
 case round=>
  obtain ⟨j,q,ms,rs,pm,pr,a1,c1,ma,ra,mc,rc,hj,rfl,rfl,rfl,rfl,HQ,hc1,HS,SM,HOr,J4,SN,KH,HP,hmj,ZW,HB⟩:=hrel
  by_cases hlt:j<n
  ·have hjs:j<xs.length:=by have:=HN.out;omega
   have hjr:j<rx.length:=by rw [<- Ut.out.len];exact hjs
   have HR:=hid (Ut.out.get j hjs hjr)
   obtain ⟨xa,xl,xc,ex⟩:=HR.out.sl
   have hcx:Hid (∃ fb fo,fa=some ⟨fb,fo,none⟩/\fb<w.heap.size/\w.cell? ⟨fb,fo+j,none⟩=some (.slice xa xl xc)):=by
    rcases HX.out with ⟨_,e⟩ | ⟨b,o,c,e,hb,h⟩
    ·rw [e] at hjs;cases hjs
    ·injection e with e1 e2 e3
     exact ⟨b,o,e1,hb,by rw [<- ex];exact h j hjs⟩
   obtain ⟨fb,fo,rfl,hfb,c0⟩:=hcx.out
   have c1':=(HB.out.cell (p:=⟨fb,fo+j,none⟩) hfb).trans c0
   rw [ex] at HR
   clear ex hcx c0
   have HD:=hid (nS hjr)
   have HWr:=hid (YL.out _ (jD hjr))
   generalize rx[j]=r at HD HWr HR
   go_wp2_with fail
   obtain ⟨w0,hw0⟩:∃ w0,w0=wr:=⟨_,rfl⟩
   subst hw0
   go_loopw [1] (λv1 wr=>∃ (p:Nat) (a:Option Addr) (c:Nat),p<=m/\m - p<=c/\v1 = .slice a (m - p) c/\Hid (sI w v1 (ys.drop p))/\Hid (Sp.skip r (ry.drop q)=Sp.skip r (ry.drop p))/\Hid (Gr w0 wr)) (λv1 _=>Nf v1)
   case atStart=>exact ⟨q,a1,c1,HQ.out,hc1,rfl,HS,rfl,Gr.refl _⟩
   case round=>
    obtain ⟨p,a,c,hp,hpc,rfl,SO,HK,HG⟩:=hrel
    have I8:Hid (rs.length+1<=maxLen):=by show _<=_;unfold maxLen;omega
    have Q4:Hid ((rs.length+1)*24<=140737488355328):=by show _<=_;omega
    have HE:Hid (ry.drop m = []):=Aw (by rw [<- Uu.out.len,<- HM.out];exact aF _)
    by_cases hpm:p<m
    ·have hps:p<ys.length:=by have:=HM.out;omega
     have hpr:p<ry.length:=by rw [<- Uu.out.len];exact hps
     have Ox:=hid (Uu.out.get p hps hpr)
     obtain ⟨ya,yl,yc,ey⟩:=Ox.out.sl
     have hcy:Hid (∃ sb so,a=some ⟨sb,so,none⟩/\sb<w.heap.size/\w.cell? ⟨sb,so,none⟩=some (.slice ya yl yc)):=by
      rcases SO.out with ⟨e,_⟩ | ⟨b,o,c,e,hb,h⟩
      ·injection e;omega
      ·injection e with e1 e2 e3
       have h0:=h 0 (by simp;omega)
       rw [Nat.add_zero,List.getElem_drop] at h0
       exact ⟨b,o,e1,hb,by rw [<- ey];exact h0⟩
     obtain ⟨sb,so,rfl,hsb,d0⟩:=hcy.out
     have HB1:=hid (HB.out.trans (HG.out.below.mono HB.out.size))
     have d1:=(HB1.out.cell (p:=⟨sb,so,none⟩) hsb).trans d0
     rw [ey] at Ox
     clear ey hcy
     have Q5:=hid (nS hpr)
     have Uv:=hid (YM.out _ (jD hpr))
     generalize ry[p]=s at Q5 Uv Ox
     have HC:=λw1 (g:RowKit.Below w.heap.size w w1)=>gT s r _ _ (Uv.out.trans HWr.out.symm) (by rw [Uv.out];exact hk) w1 (Ox.out.Wi g) (HR.out.Wi g)
     obtain ⟨z,hz⟩:∃ z,z=bP s r:=⟨_,rfl⟩
     rw [<- hz] at HC
     have Wj:=hid HC
     have HZ:=hid hz
     clear HC hz
     have hpos:0<m - p:=by omega
     go_wp2_with fail
     refine (Wj.out _ HB1.out).mono ?_
     rintro e w2 ⟨rfl,g2⟩
     have G2:=hid (HG.out.trans g2)
     have HB2:=hid (HB1.out.trans (g2.below.mono HB1.out.size))
     clear g2
     have HT:=hid (SO.out.tl hps hpc)
     have d2:=(HB2.out.cell (p:=⟨sb,so,none⟩) hsb).trans d0
     by_cases hz0:z<0
     ·go_wp2_with fail
      go_roundw
      case rel=>
       refine ⟨p+1,_,c - 1,by omega,by omega,by rw [Nat.sub_sub],HT,?_,G2⟩
       ·show _=_
        rw [HK.out,Q5.out,Sp.skip,if_pos (by rw [<- HZ.out];exact hz0)]
      case measure=>simp [Nf];omega
     ·have Wk:Hid (Sp.skip r (ry.drop q)=s::ry.drop (p+1)):=by show _=_;rw [HK.out,Q5.out,Sp.skip,if_neg (by rw [<- HZ.out];exact hz0)]
      have hz1:0<=z:=by omega
      go_wp2_with fail
      refine (Wj.out _ HB2.out).mono ?_
      rintro e w3 ⟨rfl,g3⟩
      have G3:=hid (G2.out.trans g3)
      clear g3
      by_cases hze:z=0
      ·subst hze
       have GW:=hid (G3.out.alloc (.cells #[.slice xa xl xc] 41))
       have vG:=hid (Cb w3 (.slice xa xl xc) 41)
       have Ng:=hid (HB.out.trans (GW.out.below.mono HB.out.size))
       have Nh:=hid (aH SM.out GW.out.below)
       have HRW:=hid (aH HOr.out GW.out.below)
       have cS:=hid (L0 HP.out HD.out Wk.out HZ.out.symm)
       clear I8 Q4
       have I8:Hid (ms.length+1<=maxLen):=by show _<=_;unfold maxLen;omega
       have Q4:Hid ((ms.length+1)*24<=140737488355328):=by show _<=_;omega
       rcases Decidable.em (c=1) with hc1' | hc1'
       all_goals
        simp only [hc1',if_true,if_false] at HT
        go_wp2_with (at_builtin;go_must (refine wpList_append_lies _ rfl (.tmp 40) (.tmp 42) 32 rfl w.heap.size 41 i0 (.slice none 0 0) 1 24 Tryz.underlying32 ji fR jz1 fS rfl (by decide) _ ms.length _ rfl Nh.out ⟨w3.heap.size,0,none⟩ 1 1 [.slice xa xl xc] rfl rfl vG.out (hU _ _ _) (by decide) I8.out Q4.out Ng.out.size _ rfl ?_))
        intro g cap w4 hown hgrow hat Q6
        have jG:Hid (w4.ownsRow w.heap.size 41 1 (.slice (some ⟨g,0,none⟩) (ms.length+1) cap) (ms ++ [Value.slice xa xl xc]).length (ms ++ [Value.slice xa xl xc])):=by rw [List.length_append];exact hown
        have Q7:=hid (oU HRW.out hgrow λb hb ee=>J4.out b ee hb)
        have HB4:=hid (below_grown Ng.out hgrow Nh.out (aF _))
        have LR:Hid (∀ b,(Value.slice (some ⟨g,0,none⟩) (ms.length+1) cap).ownBlock=some b->(Value.slice ra rs.length rc).ownBlock≠some b):=λb ee hb=>by
         have h1:=(aB HRW.out b hb).2
         have h2:g=b:=by simpa [Value.ownBlock] using ee
         rcases hat with h | h
         ·exact J4.out b (by rw [h,h2]) hb
         ·simp at h1 h;omega
        clear hown hgrow hat
        go_wp2_with fail
        go_roundw
        case rel=>exact ⟨j+1,p+1,ms ++ [Value.slice xa xl xc],rs,pm ++ [r],pr,_,_,some ⟨g,0,none⟩,ra,cap,rc,by omega,by go_num,congrArg (λx=>Value.slice _ x _) (Nat.sub_sub m p 1),by simp,rfl,hid (by omega),by omega,HT,jG,Q7,LR,hid (SN.out.snoc HR.out),KH,cS,by simp;omega,by omega,HB4⟩
        case measure=>simp [intOf];omega
      ·
       have HB3:=hid (HB.out.trans (G3.out.below.mono HB.out.size))
       have GW:=hid (G3.out.alloc (.cells #[.slice xa xl xc] 41))
       have vG:=hid (Cb w3 (.slice xa xl xc) 41)
       have Ng:=hid (HB.out.trans (GW.out.below.mono HB.out.size))
       have Nh:=hid (aH SM.out GW.out.below)
       have HRW:=hid (aH HOr.out GW.out.below)
       go_wp2_with (at_builtin;go_must (refine wpList_append_lies _ rfl (.tmp 44) (.tmp 46) 32 rfl w.heap.size 41 i0 (.slice none 0 0) 1 24 Tryz.underlying32 ji fR jz1 fS rfl (by decide) _ rs.length _ rfl HRW.out ⟨w3.heap.size,0,none⟩ 1 1 [.slice xa xl xc] rfl rfl vG.out (hU _ _ _) (by decide) I8.out Q4.out Ng.out.size _ rfl ?_))
       intro g cap w4 hown hgrow hat Q6
       have jG:Hid (w4.ownsRow w.heap.size 41 1 (.slice (some ⟨g,0,none⟩) (rs.length+1) cap) (rs ++ [Value.slice xa xl xc]).length (rs ++ [Value.slice xa xl xc])):=by rw [List.length_append];exact hown
       have Q7:=hid (oU Nh.out hgrow J4.out)
       have HB4:=hid (below_grown Ng.out hgrow HRW.out (aF _))
       have LR:Hid (∀ b,(Value.slice ma ms.length mc).ownBlock=some b->(Value.slice (some ⟨g,0,none⟩) (rs.length+1) cap).ownBlock≠some b):=λb hb ee=>by
        have h1:=(aB Nh.out b hb).2
        have h2:g=b:=by simpa [Value.ownBlock] using ee
        rcases hat with h | h
        ·exact J4.out b hb (by rw [h,h2])
        ·simp at h1 h;omega
       have cS:=hid (Fv HP.out HD.out (Wk.out.trans Q5.out.symm) (.inr ⟨s,_,Q5.out,by rw [<- HZ.out];exact hze⟩))
       clear hown hgrow hat
       go_wp2_with fail
       go_roundw
       case rel=>exact ⟨j+1,p,ms,rs ++ [Value.slice xa xl xc],pm,pr ++ [r],some ⟨sb,so,none⟩,c,ma,some ⟨g,0,none⟩,mc,cap,by omega,by go_num,by simp,rfl,by simp,hid (by omega),by omega,SO,Q7,jG,LR,SN,hid (KH.out.snoc HR.out),cS,by omega,by simp;omega,HB4⟩
       case measure=>simp [intOf];omega
    ·obtain rfl:p=m:=by omega
     rw [Nat.sub_self] at *
     have HB3:=hid (HB.out.trans (HG.out.below.mono HB.out.size))
     have GW:=hid (HG.out.alloc (.cells #[.slice xa xl xc] 41))
     have vG:=hid (Cb wr (.slice xa xl xc) 41)
     have Ng:=hid (HB.out.trans (GW.out.below.mono HB.out.size))
     have Nh:=hid (aH SM.out GW.out.below)
     have HRW:=hid (aH HOr.out GW.out.below)
     go_wp2_with (at_builtin;go_must (refine wpList_append_lies _ rfl (.tmp 44) (.tmp 46) 32 rfl w.heap.size 41 i0 (.slice none 0 0) 1 24 Tryz.underlying32 ji fR jz1 fS rfl (by decide) _ rs.length _ rfl HRW.out ⟨wr.heap.size,0,none⟩ 1 1 [.slice xa xl xc] rfl rfl vG.out (hU _ _ _) (by decide) I8.out Q4.out Ng.out.size _ rfl ?_))
     intro g cap w4 hown hgrow hat Q6
     have jG:Hid (w4.ownsRow w.heap.size 41 1 (.slice (some ⟨g,0,none⟩) (rs.length+1) cap) (rs ++ [Value.slice xa xl xc]).length (rs ++ [Value.slice xa xl xc])):=by rw [List.length_append];exact hown
     have Q7:=hid (oU Nh.out hgrow J4.out)
     have HB4:=hid (below_grown Ng.out hgrow HRW.out (aF _))
     have LR:Hid (∀ b,(Value.slice ma ms.length mc).ownBlock=some b->(Value.slice (some ⟨g,0,none⟩) (rs.length+1) cap).ownBlock≠some b):=λb hb ee=>by
      have h1:=(aB Nh.out b hb).2
      have h2:g=b:=by simpa [Value.ownBlock] using ee
      rcases hat with h | h
      ·exact J4.out b hb (by rw [h,h2])
      ·simp at h1 h;omega
     have cS:=hid (Fv HP.out HD.out (HK.out.trans (by rw [HE.out];rfl)) (.inl HE.out))
     clear hown hgrow hat
     go_wp2_with fail
     go_roundw
     case rel=>exact ⟨j+1,p,ms,rs ++ [Value.slice xa xl xc],pm,pr ++ [r],a,c,ma,some ⟨g,0,none⟩,mc,cap,by omega,by go_num,by simp,rfl,by simp,hid (by omega),by omega,SO,Q7,jG,LR,SN,hid (KH.out.snoc HR.out),cS,by omega,by simp;omega,HB4⟩
     case measure=>simp [intOf];omega
  ·obtain rfl:j=n:=by omega
   have HF:Hid (matched rx ry=(pm,pr)):=by
    have:=HP.out
    rw [Aw (by rw [<- Ut.out.len,<- HN.out];exact aF _)] at this
    show _=_
    rw [this]
    simp [matched]
   go_wp2_with fail
   go_ret2
   exact ⟨_,_,ms,rs,rfl,SM.out,HOr.out,J4.out,by rw [HF.out];exact SN.out,by rw [HF.out];exact KH.out,HB.out⟩
theorem Hh (us vs:List Sv.Val) (av bv:Value) (hlen:us.length=vs.length) (hbig:us.length<=100000) (w:World) (ha:Rw w.heap.size w av us) (hb:Rw w.heap.size w bv vs) :
  Calls Tryz.prog 241 #[av,bv] w λe w'=>e = .returned (.bool (decide (bP us vs=0)))/\Gr w w':=by
 have HC:=hid (gT us vs av bv hlen hbig w ha hb)
 have ⟨aa,al,ac,ea⟩:∃ a l c,av = .slice a l c:=by
  rcases ha with ⟨e,_⟩ | ⟨b,o,c,e,_⟩ <;> exact ⟨_,_,_,e⟩
 have ⟨ba,bl,bc,eb⟩:∃ a l c,bv = .slice a l c:=by
  rcases hb with ⟨e,_⟩ | ⟨b,o,c,e,_⟩ <;> exact ⟨_,_,_,e⟩
 subst ea eb
 clear ha hb hlen hbig
 generalize bP us vs=z at *
 go_enter Tryz.func241,Tryz.ntmps241
 go_wp2_with fail
 refine HC.out.mono ?_
 rintro e w1 ⟨rfl,g1⟩
 go_wp2_with fail
 go_ret
 exact ⟨rfl,g1⟩
theorem Hv.blk {w w' : World} {b off:Nat} {vs:List Sv.Val} (h:Hv w b off vs) (hs:w.heap.size<=w'.heap.size) (e:w'.heap[b]?=w.heap[b]?):Hv w' b off vs:=by
 have hc:∀ o,w'.cell? ⟨b,o,none⟩=w.cell? ⟨b,o,none⟩:=λo=>fB (w:=w) (a:=⟨b,o,none⟩) e
 exact ⟨bY h.lb hs,λj hj=>(hc _).trans (h.k j hj),λj hj=>(hc _).trans (h.n j hj),λj hj=>(hc _).trans (h.s j hj)⟩
theorem gU.blk {C:Nat->Prop} {w w' : World} {v:Value} {r:List Sv.Val} (h:gU C w v r) (hs:w.heap.size<=w'.heap.size) (e:∀ b,C b->b<w.heap.size->w'.heap[b]?=w.heap[b]?):gU C w' v r:=by
 rcases h with h | ⟨b,o,c,ev,hb,hv⟩
 ·exact .inl h
 ·exact .inr ⟨b,o,c,ev,hb,hv.blk hs (e b hb hv.lb)⟩
structure m7 (D:Nat->Prop) (w:World) (N Br:Nat) (rows:List (List Sv.Val)) (A:World):Prop where
 box:∃ v xs,Boxed A Br 32 v/\A.ownsRow N 41 1 v xs.length xs/\Al (gU (λb=>D b/\some b≠v.ownBlock) A) xs rows
 size:N<=A.heap.size+1
 bel:RowKit.Below w.heap.size w A
theorem m7.same {D:Nat->Prop} {w A B:World} {N Br H:Nat} {rows:List (List Sv.Val)} (h:m7 D w N Br rows A) (hN:N=H+3) (hBr:Br<H) (hw:w.heap.size<=H) (hD:∀ b,D b->b<H\/N<=b) (hs:A.heap.size<=B.heap.size) (ho:B.os=A.os) (ht:B.tape=A.tape) (hp:B.output=A.output) (hb:∀ j,j<A.heap.size->j≠H->j≠H+1->j≠H+2->B.heap[j]?=A.heap[j]?):m7 D w N Br rows B:=by
 obtain ⟨⟨v,xs,b1,o1,a1⟩,sz,bl⟩:=h
 refine ⟨⟨v,xs,?_,?_,?_⟩,by omega,⟨ho.trans bl.os,ht.trans bl.tape,hp.trans bl.output,cE bl.size hs,λj hj=>(hb j (by have:=bl.size;omega) (by omega) (by omega) (by omega)).trans (bl.block j hj)⟩⟩
 ·exact (hb Br b1.lt (by omega) (by omega) (by omega)).trans b1
 ·have hblk:=aB o1
  obtain ⟨hl,h | ⟨g,cap,cur,hv,h0,hc,r⟩⟩:=o1
  ·exact ⟨hl, .inl h⟩
  ·subst hv
   exact ⟨hl, .inr ⟨g,cap,cur,rfl,h0,(hb g (hblk g rfl).2 (by omega) (by omega) (by omega)).trans hc,r⟩⟩
 ·exact a1.mono λu r hr=>hr.blk hs λb hd hlt=>hb b hlt (by have:=hD b hd.1;omega) (by have:=hD b hd.1;omega) (by have:=hD b hd.1;omega)
theorem m7.start {D:Nat->Prop} {w A:World} {N Br:Nat} (hb:Boxed A Br 32 (.slice none 0 0)) (hs:N<=A.heap.size+1) (bl:RowKit.Below w.heap.size w A):m7 D w N Br [] A:=
 ⟨⟨_, [],hb,World.ownsRow_nil _ _ _ _,trivial⟩,hs,bl⟩
theorem m7.push {D:Nat->Prop} {w A A1 W4:World} {N Br g' c' : Nat} {v u:Value} {xs:List Value} {rows:List (List Sv.Val)} {r:List Sv.Val} (hBw:w.heap.size<=Br) (hBN:Br<N) (hDB:∀ b,D b->b≠Br) (hsz:N<=A.heap.size) (bl:RowKit.Below w.heap.size w A)
  (b0:Boxed A Br 32 v) (o0:A.ownsRow N 41 1 v xs.length xs) (a0:Al (gU (λb=>D b/\some b≠v.ownBlock) A) xs rows)
  (b1:RowKit.Below A.heap.size A A1) (hr:gU (λb=>D b/\some b≠v.ownBlock) A1 u r)
  (hown:W4.ownsRow N 41 1 (.slice (some ⟨g',0,none⟩) (xs.length+1) c') (xs.length+1) (xs ++ [u])) (hgrow:(A1.alloc (.cells #[u] 41)).grownBy W4 v.ownBlock) (hat:v.ownBlock=some g'\/g'=A1.heap.size+1) :
  Boxed W4 Br 32 v/\m7 D w N Br (rows ++ [r]) (W4.setCell ⟨Br,0,none⟩ (.slice (some ⟨g',0,none⟩) (xs.length+1) c'))/\Fr (λk=>k<N/\k≠Br) A (W4.setCell ⟨Br,0,none⟩ (.slice (some ⟨g',0,none⟩) (xs.length+1) c')):=by
 have hblk:=aB o0
 have hb2:RowKit.Below A.heap.size A (A1.alloc (.cells #[u] 41)):=b1.alloc b1.size _
 have y8:A1.heap.size+1<=W4.heap.size:=by have:=hgrow.size;simpa using this
 have QY:A.heap.size<=A1.heap.size:=b1.size
 have Oy:some Br≠v.ownBlock:=λe=>by have:=(hblk Br e.symm).1;omega
 have SP:∀ j,j<A1.heap.size->some j≠v.ownBlock->W4.heap[j]?=A1.heap[j]?:=λj hj hne=>(hgrow.block j (by simp;omega) hne).trans (kX A1 _ j hj)
 have hbox:Boxed W4 Br 32 v:=(SP Br (by have:=b0.lt;omega) Oy).trans ((b1.block Br b0.lt).trans b0)
 have hst:∀ j,j≠Br->(W4.setCell ⟨Br,0,none⟩ (.slice (some ⟨g',0,none⟩) (xs.length+1) c')).heap[j]?=W4.heap[j]?:=λj hj=>dQ _ _ _ _ hj
 have hs8:(W4.setCell ⟨Br,0,none⟩ (.slice (some ⟨g',0,none⟩) (xs.length+1) c')).heap.size=W4.heap.size:=by simp [World.setCell]
 have hg' : g'≠Br:=by
  rcases hat with h | h
  ·have:=(hblk g' h).1;omega
  ·have:=b0.lt;omega
 -- a row of before
 have hrow:∀ (y:Value) (q:List Sv.Val),gU (λb=>D b/\some b≠v.ownBlock) A1 y q->gU (λb=>D b/\some b≠(Value.slice (some ⟨g',0,none⟩) (xs.length+1) c').ownBlock) (W4.setCell ⟨Br,0,none⟩ (.slice (some ⟨g',0,none⟩) (xs.length+1) c')) y q:=by
  intro y q hy
  rcases hy with h | ⟨b,o,c,ev,⟨hd,hne⟩,hv⟩
  ·exact .inl h
  ·have hlb:=hv.lb
   refine .inr ⟨b,o,c,ev,⟨hd,?_⟩,hv.blk (by omega) ((hst b (hDB b hd)).trans (SP b hlb hne))⟩
   intro e
   have e' : b=g':=by simpa [Value.ownBlock] using e
   rcases hat with h | h
   ·exact hne (by rw [e',h])
   ·omega
 refine ⟨hbox,⟨⟨_,xs ++ [u],hbox.set _,?_,?_⟩,by omega,?_⟩,?_⟩
 ·rw [List.length_append]
  obtain ⟨hl,h | ⟨g,cap,cur,hv,h0,hc,rr⟩⟩:=hown
  ·cases h.1
  ·have e' : g=g':=by injection hv with e1 _ _;injection e1 with e1;injection e1 with e1;exact e1.symm
   subst e'
   exact ⟨hl, .inr ⟨g,cap,cur,hv,h0,(hst g hg').trans hc,rr⟩⟩
 ·refine Al.snoc ?_ (hrow _ _ hr)
  exact a0.mono λy q hy=>hrow y q (hy.bel b1)
 ·refine ⟨hgrow.os.trans (b1.os.trans bl.os),hgrow.tape.trans (b1.tape.trans bl.tape),hgrow.output.trans (b1.output.trans bl.output),by have:=bl.size;omega,λj hj=>?_⟩
  have YN:j<A.heap.size:=by have:=bl.size;omega
  exact (hst j (by omega)).trans ((SP j (by omega) (λe=>by have:=(hblk j e.symm).1;omega)).trans ((b1.block j YN).trans (bl.block j hj)))
 ·refine ⟨hgrow.os.trans b1.os,hgrow.tape.trans b1.tape,hgrow.output.trans b1.output,by omega,λj hj hc=>?_⟩
  exact (hst j hc.2).trans ((SP j (by omega) (λe=>by have:=(hblk j e.symm).1;omega)).trans (b1.block j hj))
end Go.Proofs.YtgnncnhkgmhngaaGreatDoor
