import Derived.Test.YtgnncnhkgmhngaaGreatDoorJ38
import Derived.Test.YtgnncnhkgmhngaaGreatDoorJ07
import Derived.Laws.BytesArg
set_option maxHeartbeats 2000000
set_option maxRecDepth 100000
namespace Go.Proofs.YtgnncnhkgmhngaaGreatDoor
open Go.RowKit Go.Sort
theorem eq_hit (us vs:List Sv.Val) (hl:us.length=vs.length) (h:∀ j,(h1:j<us.length)->(h2:j<vs.length)->decide (us[j]=vs[j])=true):decide (us=vs)=true:=
 decide_eq_true (List.ext_getElem hl fun j h1 h2=>of_decide_eq_true (h j h1 h2))
theorem eq_miss (us vs:List Sv.Val) (k:Nat) (h1:k<us.length) (h2:k<vs.length) (e:decide (us[k]=vs[k])=false):decide (us=vs)=false:=by
 refine decide_eq_false fun h=>?_
 subst h
 simp at e
theorem lsame_hv (b off n c b' off' n' c' : Nat) (us vs:List Sv.Val) (w:World) (hz:n=us.length) (hz' : n'=vs.length) (hbig:n<=100000) (hbig' : n'<=100000) (hv:Hv w b off us) (hv' : Hv w b' off' vs) :
  Calls Tryz.prog 36 #[.slice (some ⟨b,off,none⟩) n c, .slice (some ⟨b',off',none⟩) n' c'] w fun e w'=>e = .returned (.bool (decide (us=vs)))/\Gr w w':=by
 have HV:=hid hv
 have HV':=hid hv'
 clear hv hv'
 have HZ:=hid hz
 have HZ':=hid hz'
 clear hz hz'
 have HX:Hid (∀ j,(h1:j<us.length)->(h2:j<vs.length)->decide (us[j]=vs[j])=eqF us[j].k us[j].n us[j].s vs[j].k vs[j].n vs[j].s):=fun j h1 h2=>(eqF_iff us[j] vs[j]).symm
 have HM:Hid (∀ k,(h1:k<us.length)->(h2:k<vs.length)->decide (us[k]=vs[k])=false->decide (us=vs)=false):=eq_miss us vs
 have HT:Hid (us.length=vs.length->(∀ j,(h1:j<us.length)->(h2:j<vs.length)->decide (us[j]=vs[j])=true)->decide (us=vs)=true):=fun hl=>eq_hit us vs hl
 have HL:Hid (us.length≠vs.length->decide (us=vs)=false):=fun h=>decide_eq_false fun e=>h (congrArg _ e)
 generalize hcx:decide (us=vs)=cx at HM HT HL
 clear hcx
 have hq:=eqV
 have hm:=mixed
 by_cases hnn:n=n'
 ·subst hnn
  go_enter Tryz.func36,Tryz.ntmps36
  go_wp2
  go_loopw [5] (fun i wr=>∃ k:Nat,k<=n/\i = .int .i64 k/\Hid (Gr w wr)/\Hid (∀ j,j<k->(h1:j<us.length)->(h2:j<vs.length)->decide (us[j]=vs[j])=true)) (fun i _=>n - (intOf i).toNat)
  case atStart=>exact ⟨0,Nat.zero_le _,rfl,Gr.refl _,fun j hj=>absurd hj (Nat.not_lt_zero _)⟩
  case round=>
   obtain ⟨k,hk,rfl,HG,HR⟩:=hrel
   by_cases hlt:k<n
   ·have hkz:k<us.length:=by have:=HZ.out;omega
    have hkz' : k<vs.length:=by have:=HZ'.out;omega
    have HVr:=HV.out.gr HG.out
    have HVr':=HV'.out.gr HG.out
    have c0:=HVr.k k hkz
    have c1:=HVr.n k hkz
    have c2:=HVr.s k hkz
    have d0:=HVr'.k k hkz'
    have d1:=HVr'.n k hkz'
    have d2:=HVr'.s k hkz'
    have HE:=HX.out k hkz hkz'
    clear HVr HVr'
    generalize us[k].k=xk at c0 HE
    generalize us[k].n=xn at c1 HE
    generalize us[k].s=xs at c2 HE
    generalize vs[k].k=yk at d0 HE
    generalize vs[k].n=yn at d1 HE
    generalize vs[k].s=ys at d2 HE
    cases he:eqF xk xn xs yk yn ys
    ·have HF:Hid (cx=false):=HM.out k hkz hkz' (HE.trans he)
     clear HE
     go_wp2_with fail
     go_quiet (fail)
     go_wp2_with fail
     go_ret
     exact ⟨congrArg (fun r=>Ending.returned (.bool r)) HF.out.symm,HG.out.drewN _⟩
    ·have HF:Hid (decide (us[k]=vs[k])=true):=HE.trans he
     clear HE
     go_wp2_with fail
     go_quiet (fail)
     go_wp2_with fail
     go_roundw
     case rel=>exact ⟨k+1,by omega,by go_num,HG.out.drewN _,fun j hj h1 h2=>by
      by_cases e:j=k
      ·subst e;exact HF.out
      ·exact HR.out j (by omega) h1 h2⟩
     case measure=>simp [intOf];omega
   ·have HF:Hid (cx=true):=HT.out (HZ.out.symm.trans HZ'.out) fun j h1 h2=>HR.out j (by have:=HZ.out;omega) h1 h2
    go_wp2_with fail
    go_ret
    exact ⟨congrArg (fun r=>Ending.returned (.bool r)) HF.out.symm,HG.out⟩
 ·have hne:((n:Int) == (n' : Int))=false:=by simpa using fun e:(n:Int)=n'=>hnn (by exact_mod_cast e)
  have HF:Hid (cx=false):=HL.out (by have:=HZ.out;have:=HZ'.out;omega)
  go_enter Tryz.func36,Tryz.ntmps36
  go_wp2
  go_ret
  exact ⟨congrArg (fun r=>Ending.returned (.bool r)) HF.out.symm,Gr.refl _⟩
def Rn (w:World) (v:Value) (vs:List Sv.Val):Prop:=∃ b off c,v = .slice (some ⟨b,off,none⟩) vs.length c/\Hv w b off vs
theorem Rn.gr {w w' : World} {v:Value} {vs:List Sv.Val} (h:Rn w v vs) (g:Gr w w'):Rn w' v vs:=by
 obtain ⟨b,off,c,e,hv⟩:=h;exact ⟨b,off,c,e,hv.gr g⟩
structure Ln (w:World) (rb ro:Nat) (rs:List (List Sv.Val)):Prop where
 lb:rb<w.heap.size
 at_:∀ i,(h:i<rs.length)->∃ v,w.cell? ⟨rb,ro+i,none⟩=some v/\Rn w v rs[i]
theorem Ln.gr {w w' : World} {rb ro:Nat} {rs:List (List Sv.Val)} (h:Ln w rb ro rs) (g:Gr w w'):Ln w' rb ro rs:=
 ⟨Nat.lt_of_lt_of_le h.lb g.size,fun i hi=>by obtain ⟨v,h1,h2⟩:=h.at_ i hi;exact ⟨v,(g.cell (p:=⟨rb,_,none⟩) h.lb).trans h1,h2.gr g⟩⟩
def Lv (w:World) (v:Value) (rs:List (List Sv.Val)):Prop:=(v = .slice none 0 0/\rs = [])\/∃ b off c,v = .slice (some ⟨b,off,none⟩) rs.length c/\Ln w b off rs
theorem Lv.gr {w w' : World} {v:Value} {rs:List (List Sv.Val)} (h:Lv w v rs) (g:Gr w w'):Lv w' v rs:=by
 rcases h with h | ⟨b,off,c,e,hl⟩
 ·exact .inl h
 ·exact .inr ⟨b,off,c,e,hl.gr g⟩
theorem lsame_any (us vs:List Sv.Val) (a b:Value) (w:World) (h1:us.length<=100000) (h2:vs.length<=100000) (ha:Rn w a us) (hb:Rn w b vs) :
  Calls Tryz.prog 36 #[a,b] w fun e w'=>e = .returned (.bool (decide (us=vs)))/\Gr w w':=by
 obtain ⟨_,_,_,rfl,hu⟩:=ha
 obtain ⟨_,_,_,rfl,hv⟩:=hb
 exact lsame_hv _ _ _ _ _ _ _ _ us vs w rfl rfl h1 h2 hu hv
def cnt (rs:List (List Sv.Val)) (r:List Sv.Val):Nat:=(rs.filter fun x=>decide (x=r)).length
theorem cnt_take (rs:List (List Sv.Val)) (r:List Sv.Val) (k:Nat) (h:k<rs.length):cnt (rs.take (k+1)) r=cnt (rs.take k) r+(if rs[k]=r then 1 else 0):=by
 unfold cnt
 rw [List.take_succ_eq_append_getElem h,List.filter_append,List.length_append]
 congr 1
 by_cases e:rs[k]=r <;> simp [e]
theorem cnt_le (rs:List (List Sv.Val)) (r:List Sv.Val):cnt rs r<=rs.length:=List.length_filter_le _ _
theorem lcount_any (rs:List (List Sv.Val)) (r:List Sv.Val) (a b:Value) (w:World) (h1:rs.length<=100000) (h2:∀ x∈rs,x.length<=100000) (h3:r.length<=100000) (ha:Lv w a rs) (hb:Rn w b r) :
  Calls Tryz.prog 24 #[a,b] w fun e w'=>e = .returned (.int .i64 (cnt rs r))/\Gr w w':=by
 have HB:=hid hb
 clear hb
 rcases ha with ⟨rfl,rfl⟩ | ⟨rb,ro,c,rfl,hl⟩
 ·obtain ⟨_,_,_,rfl,_⟩:=HB.out
  go_enter Tryz.func24,Tryz.ntmps24
  go_wp2
  go_loop [5,6] (fun n i=>i = .int .i64 0/\n = .int .i64 0) (fun _ _=>0)
  case atStart=>exact ⟨rfl,rfl⟩
  case round=>
   obtain ⟨rfl,rfl⟩:=hrel
   go_wp2
   go_ret
   exact ⟨rfl,Gr.refl _⟩
 ·have HL:=hid hl
  clear hl
  have HS:Hid (∀ (a' : Value) (us:List Sv.Val) (w' : World),us.length<=100000->Rn w' a' us->Rn w' b r->Calls Tryz.prog 36 #[a',b] w' fun e w''=>e = .returned (.bool (decide (us=r)))/\Gr w' w''):=fun a' us w' hu ha' hb'=>lsame_any us r a' b w' hu h3 ha' hb'
  have HC:Hid (∀ k,(h:k<rs.length)->cnt (rs.take (k+1)) r=cnt (rs.take k) r+(if rs[k]=r then 1 else 0)):=fun k h=>cnt_take rs r k h
  have HD:Hid (∀ k,cnt (rs.take k) r<=k):=fun k=>Nat.le_trans (cnt_le _ _) (by simp;omega)
  have HQ:Hid (cnt (rs.take rs.length) r=cnt rs r):=by show _=_;rw [List.take_length]
  have HW:Hid (∀ k,(h:k<rs.length)->rs[k].length<=100000):=fun k h=>h2 _ (List.getElem_mem h)
  have HZ:Hid (rs.length=rs.length):=rfl
  generalize hN:rs.length=N at h1 HZ HQ ⊢
  have HN:=hid hN
  clear hN HZ
  generalize hq:cnt rs r=total at HQ ⊢
  clear hq h2 h3
  obtain ⟨b1,b2,b3,hbe,_⟩:=HB.out
  have HBE:=hid hbe
  clear hbe
  go_enter Tryz.func24,Tryz.ntmps24
  go_wp2
  go_loopw [5,6] (fun t i wr=>∃ k m:Nat,k<=N/\i = .int .i64 k/\t = .int .i64 m/\m<=k/\Hid (m=cnt (rs.take k) r)/\Hid (Gr w wr)) (fun _ i _=>N - (intOf i).toNat)
  case atStart=>exact ⟨0,0,Nat.zero_le _,rfl,rfl,Nat.le_refl _,by show _=_;simp [cnt],Gr.refl _⟩
  case round=>
   obtain ⟨k,m,hk,rfl,rfl,hmk,HR,HG⟩:=hrel
   by_cases hlt:k<N
   ·have hkz:k<rs.length:=by have:=HN.out;omega
    obtain ⟨v,hc,hv⟩:=(HL.out.gr HG.out).at_ k hkz
    have hs:=HS.out v rs[k] wr (HW.out k hkz) hv (HB.out.gr HG.out)
    have HCk:=HC.out k hkz
    clear hv
    by_cases e:rs[k]=r
    ·have HM:Hid (m+1=cnt (rs.take (k+1)) r):=by show _=_;rw [HCk,if_pos e,HR.out]
     rw [decide_eq_true e] at hs
     clear HCk e
     have HS1:Hid (Calls Tryz.prog 36 #[v,b] wr fun e w''=>e = .returned (.bool true)/\Gr wr w''):=hs
     clear hs
     go_wp2_with (go_at_call 36;refine HS1.out.mono ?_;rintro e w' ⟨rfl,hg⟩)
     have HG':=hid hg
     clear hg
     go_wp2_with fail
     go_roundw
     case rel=>exact ⟨k+1,m+1,by omega,by go_num,by go_num,by omega,HM,HG.out.trans HG'.out⟩
     case measure=>simp [intOf];omega
    ·have HM:Hid (m=cnt (rs.take (k+1)) r):=by show _=_;rw [HCk,if_neg e,HR.out];rfl
     rw [decide_eq_false e] at hs
     clear HCk e
     have HS1:Hid (Calls Tryz.prog 36 #[v,b] wr fun e w''=>e = .returned (.bool false)/\Gr wr w''):=hs
     clear hs
     go_wp2_with (go_at_call 36;refine HS1.out.mono ?_;rintro e w' ⟨rfl,hg⟩)
     have HG':=hid hg
     clear hg
     go_wp2_with fail
     go_roundw
     case rel=>exact ⟨k+1,m,by omega,by go_num,rfl,by omega,HM,HG.out.trans HG'.out⟩
     case measure=>simp [intOf];omega
   ·have hkN:k=N:=by omega
    subst hkN
    have HF:Hid (m=total):=HR.out.trans HQ.out
    go_wp2
    go_ret
    exact ⟨congrArg (fun r:Nat=>Ending.returned (.int .i64 r)) HF.out,HG.out⟩
def befF (k n:Int) (s:ByteArray) (k' n' : Int) (s' : ByteArray):Bool:=
 if k != k' then decide (k<k') else if n != n' then decide (n<n') else Op.bytesLess s.toList s'.toList
def befR:List Sv.Val->List Sv.Val->Bool
 | [],_=>false
 | _::_, []=>false
 | a::l,b::m=>if a=b then befR l m else befF a.k a.n a.s b.k b.n b.s
theorem cmpI_lt (x y:Int):Sv.cmpI x y<0↔x<y:=by unfold Sv.cmpI;split <;> (try split) <;> omega
theorem cmpI_z (x y:Int):Sv.cmpI x y=0↔x=y:=by unfold Sv.cmpI;split <;> (try split) <;> omega
theorem cmpB_lt (x y:List UInt8):Sv.cmpB x y<0↔Op.bytesLess x y=true:=by
 rw [cmpB_less]
 cases p:Op.bytesLess x y
 ·rw [if_neg (by simp)];simp;split <;> omega
 ·simp
theorem befF_cmp (a b:Sv.Val):(befF a.k a.n a.s b.k b.n b.s=true)↔Sv.cmp a b<0:=by
 have hc:Sv.cmp a b=if Sv.cmpI a.k b.k=0 then (if Sv.cmpI a.n b.n=0 then (if Sv.cmpB a.s.toList b.s.toList=0 then 0 else Sv.cmpB a.s.toList b.s.toList) else Sv.cmpI a.n b.n) else Sv.cmpI a.k b.k:=rfl
 rw [hc]
 unfold befF
 by_cases h:a.k=b.k
 ·rw [if_pos ((cmpI_z _ _).2 h),if_neg (by simp [h])]
  by_cases h2:a.n=b.n
  ·rw [if_pos ((cmpI_z _ _).2 h2),if_neg (by simp [h2])]
   rw [<- cmpB_lt]
   split
   ·rename_i e;rw [e]
   ·rfl
  ·rw [if_neg fun e=>h2 ((cmpI_z _ _).1 e),if_pos (by simp [h2]),cmpI_lt]
   simp
 ·rw [if_neg fun e=>h ((cmpI_z _ _).1 e),if_pos (by simp [h]),cmpI_lt]
  simp
theorem befR_cmp:∀ us vs:List Sv.Val,us.length=vs.length->((befR us vs=true)↔cmpR us vs<0)
 | [], [],_=>by simp [befR,cmpR]
 | [],_::_,h=>by simp at h
 | _::_, [],h=>by simp at h
 | a::l,b::m,h=>by
  have ih:=befR_cmp l m (by simpa using h)
  rw [befR,cmpR]
  by_cases e:a=b
  ·subst e;rw [if_pos rfl,if_pos (cm_val.refl a),ih]
  ·have:Sv.cmp a b≠0:=fun h=>e (cm_val.eq _ _ h)
   rw [if_neg e,if_neg this,befF_cmp]
theorem befR_skip (us vs:List Sv.Val) (k:Nat) (h1:k<us.length) (h2:k<vs.length) (e:decide (us[k]=vs[k])=true):befR (us.drop k) (vs.drop k)=befR (us.drop (k+1)) (vs.drop (k+1)):=by
 rw [List.drop_eq_getElem_cons h1,List.drop_eq_getElem_cons h2,befR,if_pos (of_decide_eq_true e)]
theorem befR_hit (us vs:List Sv.Val) (k:Nat) (h1:k<us.length) (h2:k<vs.length) (e:decide (us[k]=vs[k])=false):befR (us.drop k) (vs.drop k)=befF us[k].k us[k].n us[k].s vs[k].k vs[k].n vs[k].s:=by
 rw [List.drop_eq_getElem_cons h1,List.drop_eq_getElem_cons h2,befR,if_neg (of_decide_eq_false e)]
theorem befR_end (us vs:List Sv.Val) (k:Nat) (h:us.length<=k\/vs.length<=k):befR (us.drop k) (vs.drop k)=false:=by
 rcases h with h | h
 ·rw [List.drop_eq_nil_of_le h];rfl
 ·rw [List.drop_eq_nil_of_le h];cases us.drop k <;> rfl
theorem lbefore_hv (b off n c b' off' n' c' : Nat) (us vs:List Sv.Val) (w:World) (hz:n=us.length) (hz' : n'=vs.length) (hbig:n<=100000) (_:n'<=100000) (hv:Hv w b off us) (hv' : Hv w b' off' vs) :
  Calls Tryz.prog 34 #[.slice (some ⟨b,off,none⟩) n c, .slice (some ⟨b',off',none⟩) n' c'] w fun e w'=>e = .returned (.bool (befR us vs))/\Gr w w':=by
 have HV:=hid hv
 have HV':=hid hv'
 clear hv hv'
 have HZ:=hid hz
 have HZ':=hid hz'
 clear hz hz'
 have HX:Hid (∀ j,(h1:j<us.length)->(h2:j<vs.length)->decide (us[j]=vs[j])=eqF us[j].k us[j].n us[j].s vs[j].k vs[j].n vs[j].s):=fun j h1 h2=>(eqF_iff us[j] vs[j]).symm
 have HM:Hid (∀ k,(h1:k<us.length)->(h2:k<vs.length)->decide (us[k]=vs[k])=false->befR (us.drop k) (vs.drop k)=befF us[k].k us[k].n us[k].s vs[k].k vs[k].n vs[k].s):=befR_hit us vs
 have HT:Hid (∀ k,(h1:k<us.length)->(h2:k<vs.length)->decide (us[k]=vs[k])=true->befR (us.drop k) (vs.drop k)=befR (us.drop (k+1)) (vs.drop (k+1))):=befR_skip us vs
 have HL:Hid (∀ k,us.length<=k\/vs.length<=k->befR (us.drop k) (vs.drop k)=false):=befR_end us vs
 have H0:Hid (befR (us.drop 0) (vs.drop 0)=befR us vs):=rfl
 generalize hcx:befR us vs=cx at H0
 clear hcx
 have hq:=eqV
 have hm:=mixed
 go_enter Tryz.func34,Tryz.ntmps34
 go_wp2
 go_loopw [5] (fun i wr=>∃ k:Nat,k<=n/\k<=n'/\i = .int .i64 k/\Hid (Gr w wr)/\Hid (befR (us.drop k) (vs.drop k)=cx)) (fun i _=>n - (intOf i).toNat)
 case atStart=>exact ⟨0,Nat.zero_le _,Nat.zero_le _,rfl,Gr.refl _,H0⟩
 case round=>
  obtain ⟨k,hk,hk',rfl,HG,HR⟩:=hrel
  by_cases hlt:k<n
  ·by_cases hlt' : k<n'
   ·have hkz:k<us.length:=by have:=HZ.out;omega
    have hkz' : k<vs.length:=by have:=HZ'.out;omega
    have HVr:=HV.out.gr HG.out
    have HVr':=HV'.out.gr HG.out
    have c0:=HVr.k k hkz
    have c1:=HVr.n k hkz
    have c2:=HVr.s k hkz
    have d0:=HVr'.k k hkz'
    have d1:=HVr'.n k hkz'
    have d2:=HVr'.s k hkz'
    have HE:=HX.out k hkz hkz'
    have HMk:=HM.out k hkz hkz'
    clear HVr HVr'
    generalize us[k].k=xk at c0 HE HMk
    generalize us[k].n=xn at c1 HE HMk
    generalize us[k].s=xs at c2 HE HMk
    generalize vs[k].k=yk at d0 HE HMk
    generalize vs[k].n=yn at d1 HE HMk
    generalize vs[k].s=ys at d2 HE HMk
    cases he:eqF xk xn xs yk yn ys
    ·have HF:Hid (cx=befF xk xn xs yk yn ys):=HR.out.symm.trans (HMk (HE.trans he))
     clear HE HMk
     by_cases ek:(xk == yk)=false
     ·have HF1:Hid (cx=decide (xk<yk)):=by
       show _=_
       rw [HF.out,befF,if_pos (by rw [bne,ek];rfl)]
      clear HF
      go_wp2_with fail
      go_quiet (fail)
      go_wp2_with fail
      go_quiet (fail)
      go_wp2_with fail
      go_quiet (fail)
      go_wp2_with fail
      go_ret
      exact ⟨congrArg (fun r=>Ending.returned (.bool r)) HF1.out.symm,((HG.out.drewN _).drewN _).drewN _⟩
     ·have ek1:(xk == yk)=true:=by simpa using ek
      have ek2:Hid (xk=yk):=eq_of_beq ek1
      clear ek
      by_cases en:(xn == yn)=false
      ·have HF1:Hid (cx=decide (xn<yn)):=by
        show _=_
        rw [HF.out,befF,if_neg (by rw [bne,ek1];simp),if_pos (by rw [bne,en];rfl)]
       clear HF
       go_wp2_with fail
       go_quiet (fail)
       go_wp2_with fail
       go_quiet (fail)
       go_wp2_with fail
       go_quiet (fail)
       go_wp2_with fail
       go_quiet (fail)
       go_wp2_with fail
       go_ret
       exact ⟨congrArg (fun r=>Ending.returned (.bool r)) HF1.out.symm,(((HG.out.drewN _).drewN _).drewN _).drewN _⟩
      ·have en1:(xn == yn)=true:=by simpa using en
       clear en
       have HF1:Hid (cx=Op.bytesLess xs.toList ys.toList):=by
        show _=_
        rw [HF.out,befF,if_neg (by rw [bne,ek1];simp),if_neg (by rw [bne,en1];simp)]
       clear HF
       go_wp2_with fail
       go_quiet (fail)
       go_wp2_with fail
       go_quiet (fail)
       go_wp2_with fail
       go_quiet (fail)
       go_wp2_with fail
       go_quiet (fail)
       go_wp2_with fail
       go_ret
       exact ⟨congrArg (fun r=>Ending.returned (.bool r)) HF1.out.symm,(((HG.out.drewN _).drewN _).drewN _).drewN _⟩
    ·have HF:Hid (befR (us.drop (k+1)) (vs.drop (k+1))=cx):=(HT.out k hkz hkz' (HE.trans he)).symm.trans HR.out
     clear HE HMk
     go_wp2_with fail
     go_quiet (fail)
     go_wp2_with fail
     go_roundw
     case rel=>exact ⟨k+1,by omega,by omega,by go_num,HG.out.drewN _,HF⟩
     case measure=>simp [intOf];omega
   ·have HF:Hid (cx=false):=HR.out.symm.trans (HL.out k (.inr (by have:=HZ'.out;omega)))
    go_wp2_with fail
    go_ret
    exact ⟨congrArg (fun r=>Ending.returned (.bool r)) HF.out.symm,HG.out⟩
  ·have HF:Hid (cx=false):=HR.out.symm.trans (HL.out k (.inl (by have:=HZ.out;omega)))
   go_wp2_with fail
   go_ret
   exact ⟨congrArg (fun r=>Ending.returned (.bool r)) HF.out.symm,HG.out⟩
theorem lbefore_any (us vs:List Sv.Val) (a b:Value) (w:World) (h1:us.length<=100000) (h2:vs.length<=100000) (ha:Rn w a us) (hb:Rn w b vs) :
  Calls Tryz.prog 34 #[a,b] w fun e w'=>e = .returned (.bool (befR us vs))/\Gr w w':=by
 obtain ⟨_,_,_,rfl,hu⟩:=ha
 obtain ⟨_,_,_,rfl,hv⟩:=hb
 exact lbefore_hv _ _ _ _ _ _ _ _ us vs w rfl rfl h1 h2 hu hv
structure Bag (ls ws:List (List Sv.Val)):Prop where
 len:ls.length=ws.length
 cnt:∀ i,(h:i<ls.length)->cnt ls ls[i]=cnt ws ls[i]
 ord:∀ i,(h:i+1<ls.length)->befR ls[i+1] ls[i]=false
theorem lbag_any (ls ws:List (List Sv.Val)) (rb ro c N:Nat) (b:Value) (w:World) (hN:N=ls.length) (h1:N<=100000) (h2:∀ x∈ls,x.length<=100000) (h3:∀ x∈ws,x.length<=100000) (hl:Ln w rb ro ls) (hb:Lv w b ws) (hne:∃ b1 b2 b3:Nat,b = .slice (some ⟨b1,b2,none⟩) N b3) (hbag:Bag ls ws) :
  Calls Tryz.prog 18 #[.slice (some ⟨rb,ro,none⟩) N c,b] w fun e w'=>e = .returned (.bool true)/\Gr w w':=by
 have HL:=hid hl
 have HB:=hid hb
 have HC:Hid (∀ k,(h:k<ls.length)->∀ v w',Gr w w'->Rn w' v ls[k]->Calls Tryz.prog 24 #[.slice (some ⟨rb,ro,none⟩) N c,v] w' fun e w''=>e = .returned (.int .i64 (cnt ls ls[k]))/\Gr w' w''):=fun k h v w' g hv=>by
  rw [hN] at h1 ⊢
  exact lcount_any ls ls[k] _ v w' h1 h2 (h2 _ (List.getElem_mem h)) (.inr ⟨rb,ro,c,rfl,hl.gr g⟩) hv
 have HD:Hid (∀ k,(h:k<ls.length)->∀ v w',Gr w w'->Rn w' v ls[k]->Calls Tryz.prog 24 #[b,v] w' fun e w''=>e = .returned (.int .i64 (cnt ls ls[k]))/\Gr w' w''):=fun k h v w' g hv=>by
  rw [hbag.cnt k h]
  exact lcount_any ws ls[k] _ v w' (by have:=hbag.len;omega) h3 (h2 _ (List.getElem_mem h)) (hb.gr g) hv
 have HF:Hid (∀ k,(h:k+1<ls.length)->∀ v u w',Rn w' v ls[k+1]->Rn w' u ls[k]->Calls Tryz.prog 34 #[v,u] w' fun e w''=>e = .returned (.bool false)/\Gr w' w''):=fun k h v u w' hv hu=>by
  rw [<- hbag.ord k h]
  exact lbefore_any ls[k+1] ls[k] v u w' (h2 _ (List.getElem_mem h)) (h2 _ (List.getElem_mem (by omega))) hv hu
 clear hbag h2 h3 hl hb
 have HN:Hid (ls.length=N):=hN.symm
 clear hN
 obtain ⟨b1,b2,b3,rfl⟩:=hne
 have hm:=mixed
 go_enter Tryz.func18,Tryz.ntmps18
 go_wp2
 go_loopw [5] (fun i wr=>∃ k:Nat,k<=N/\i = .int .i64 k/\Hid (Gr w wr)) (fun i _=>N - (intOf i).toNat)
 case atStart=>exact ⟨0,Nat.zero_le _,rfl,Gr.refl _⟩
 case round=>
  obtain ⟨k,hk,rfl,HG⟩:=hrel
  by_cases hlt:k<N
  ·have hkz:k<ls.length:=by have:=HN.out;omega
   have HLr:=HL.out.gr HG.out
   obtain ⟨v,hc,hv⟩:=HLr.at_ k hkz
   have hcg:∀ m os,(grow (wr.drewN m) os).cell? ⟨rb,ro+k,none⟩=some v:=fun m os=>((gr_some m os).cell (p:=⟨rb,_,none⟩) HLr.lb).trans hc
   have C1:Hid (∀ m os,Calls Tryz.prog 24 #[.slice (some ⟨rb,ro,none⟩) N c,v] (grow (wr.drewN m) os) fun e w''=>e = .returned (.int .i64 (cnt ls ls[k]))/\Gr (grow (wr.drewN m) os) w''):=fun m os=>HC.out k (by omega) v _ (HG.out.trans (gr_some m os)) (hv.gr (gr_some m os))
   have C2:Hid (∀ m os,Calls Tryz.prog 24 #[.slice (some ⟨b1,b2,none⟩) N b3,v] (grow (wr.drewN m) os) fun e w''=>e = .returned (.int .i64 (cnt ls ls[k]))/\Gr (grow (wr.drewN m) os) w''):=fun m os=>HD.out k (by omega) v _ (HG.out.trans (gr_some m os)) (hv.gr (gr_some m os))
   generalize cnt ls ls[k]=q at C1 C2
   have C:Hid (∀ a,a = .slice (some ⟨rb,ro,none⟩) N c\/a = .slice (some ⟨b1,b2,none⟩) N b3->∀ m os,Calls Tryz.prog 24 #[a,v] (grow (wr.drewN m) os) fun e w''=>e = .returned (.int .i64 q)/\Gr (grow (wr.drewN m) os) w''):=by
    rintro a (rfl | rfl)
    ·exact C1.out
    ·exact C2.out
   clear hc C1 C2
   cases k with
   | zero=>
    have hcz:∀ m os,(grow (wr.drewN m) os).cell? ⟨rb,ro,none⟩=some v:=hcg
    clear HLr hv hcg
    go_wp2_with fail
    (refine wp_region_quiet_grown (by assumption) (by kernel_rfl) ?_;refine wpQuiet_ops fun OPSq HOPq=>?_)
    iterate 17 ((refine wpQuiet_step (fun K hK=>?_);refine quiet_if (wanted_of (Hid.out HOPq) (by kernel_rfl)) ?_;go_simp;first | (refine hK _ ?_;clear hK K) | (apply Exists.intro;refine ⟨fun _=>?_,hK _ ?_⟩;(first | (go_at_call 24;refine Calls.grown_of (C.out _ (by first | exact .inl rfl | exact .inr rfl) _ _)));clear hK K)))
    iterate 10 (refine wpQuiet_step (fun K hK=>?_);refine quiet_else (wanted_of (Hid.out HOPq) (by kernel_rfl)) ?_;go_simp;refine hK _ ?_;clear hK K)
    iterate 2 ((refine wpQuiet_step (fun K hK=>?_);refine quiet_if (wanted_of (Hid.out HOPq) (by kernel_rfl)) ?_;go_simp;first | (refine hK _ ?_;clear hK K) | (apply Exists.intro;refine ⟨fun _=>?_,hK _ ?_⟩;(fail);clear hK K)))
    (refine wpQuiet_nil ?_;intro _ hw';obtain ⟨⟨nq,osq⟩,hw''⟩:=hw';subst hw'';clear HOPq OPSq)
    go_wp2_with fail
    go_roundw
    case rel=>exact ⟨0+1,by omega,by go_num,HG.out.trans (gr_some _ _)⟩
    case measure=>simp [intOf];omega
   | succ j=>
    obtain ⟨u,hcu,hu⟩:=HLr.at_ j (by omega)
    have hcug:∀ m os,(grow (wr.drewN m) os).cell? ⟨rb,ro+j,none⟩=some u:=fun m os=>((gr_some m os).cell (p:=⟨rb,_,none⟩) HLr.lb).trans hcu
    have C3:Hid (∀ m os,Calls Tryz.prog 34 #[v,u] (grow (wr.drewN m) os) fun e w''=>e = .returned (.bool false)/\Gr (grow (wr.drewN m) os) w''):=fun m os=>HF.out j (by omega) v u _ (hv.gr (gr_some m os)) (hu.gr (gr_some m os))
    have i0:(0:Int)<=(j:Int)+1:=by omega
    have i1:(j:Int)+1<(N:Int):=by omega
    have i2:(j:Int)<(N:Int):=by omega
    have i3:(0:Int)<(j:Int)+1:=by omega
    have i4:IntKind.i64.wrap (j:Int)=j:=by rw [IntKind.wrap_i64];omega
    clear hcu hu hv HLr
    go_wp2_with fail
    (refine wp_region_quiet_grown (by assumption) (by kernel_rfl) ?_;refine wpQuiet_ops fun OPSq HOPq=>?_)
    iterate 29 ((refine wpQuiet_step (fun K hK=>?_);refine quiet_if (wanted_of (Hid.out HOPq) (by kernel_rfl)) ?_;go_simp;first | (refine hK _ ?_;clear hK K) | (apply Exists.intro;refine ⟨fun _=>?_,hK _ ?_⟩;(first | (go_at_call 24;refine Calls.grown_of (C.out _ (by first | exact .inl rfl | exact .inr rfl) _ _)) | (go_at_call 34;refine Calls.grown_of (C3.out _ _)));clear hK K)))
    (refine wpQuiet_nil ?_;intro _ hw';obtain ⟨⟨nq,osq⟩,hw''⟩:=hw';subst hw'';clear HOPq OPSq)
    go_wp2_with fail
    go_roundw
    case rel=>exact ⟨j+1+1,by omega,by go_num,HG.out.trans (gr_some _ _)⟩
    case measure=>simp [intOf];omega
  ·go_wp2_with fail
   go_ret
   exact ⟨rfl,HG.out⟩
open Go.RowKit
def pk (c n:Int):Int:=(if c<0 then -(c+1) else c) % n
theorem pk_lt (c n:Int) (hn:0<n):0<=pk c n/\pk c n<n:=⟨Int.emod_nonneg _ (by omega),Int.emod_lt_of_pos _ hn⟩
theorem pick_any (c n:Int) (w:World) (hc:-9223372036854775808<=c) (hc2:c<=9223372036854775807) (hn:0<n) (hn2:n<=1000) :
  Calls Tryz.prog 22 #[.int .i64 c, .int .i64 n] w fun e w'=>e = .returned (.int .i64 (pk c n))/\w'=w:=by
 by_cases h:c<0
 ·have E:Hid (pk c n=-((c+1).tmod n)):=by
   show _=_
   simp only [pk,h,if_true]
   rw [<- Int.neg_tmod,Int.tmod_eq_emod_of_nonneg (by omega)]
  go_enter Tryz.func22,Tryz.ntmps22
  go_wp2
  go_ret
  exact ⟨ret_int E.out.symm,rfl⟩
 ·have E:Hid (pk c n=c % n):=by
   show _=_
   simp only [pk,h,if_false]
  go_enter Tryz.func22,Tryz.ntmps22
  go_wp2
  go_ret
  exact ⟨ret_int E.out.symm,rfl⟩
theorem digits_any (n:Int) (w:World) (h0:0<=n) (h1:n<10) :
  Calls Tryz.prog 23 #[.int .i64 n] w fun e w'=>e = .returned (.string ⟨#[UInt8.ofNat (48+n.toNat)]⟩)/\Gr w w':=by
 go_enter Tryz.func23,Tryz.ntmps23
 have hcv:=run_convert_bytes_arg (P:=Tryz.prog) (w.alloc (.cells #[.int .u8 (48+n % 10)] 5)) 88 5 Tryz.underlying88 Tryz.underlying5 w.heap.size 0 1 1 [48+n % 10] rfl (fun i hi=>by
  obtain rfl:i=0:=by omega
  simp) 9 Tryz.underlying9
 have HE:Hid (strOfNums [48+n % 10]=⟨#[UInt8.ofNat (48+n.toNat)]⟩):=by
  show _=_
  have:(48+n % 10).toNat=48+n.toNat:=by omega
  simp [strOfNums,this]
 generalize strOfNums [48+n % 10]=r at hcv HE
 go_wp2_with fail
 go_ret
 exact ⟨congrArg (fun r=>Ending.returned (.string r)) HE.out,(Gr.refl w).alloc _⟩
def dbl:List UInt8->List UInt8
 | [] => []
 | c::l=>if c == 39 then 39::39::dbl l else c::dbl l
theorem dbl_app:∀ (a b:List UInt8),dbl (a++b)=dbl a++dbl b
 | [],b=>rfl
 | c::a,b=>by
  simp only [List.cons_append,dbl]
  split <;> simp [dbl_app a b]
theorem dbl_len:∀ l:List UInt8,(dbl l).length<=2*l.length
 | []=>by simp [dbl]
 | c::l=>by
  have:=dbl_len l
  simp only [dbl]
  split <;> simp <;> omega
theorem size_of_list {r:ByteArray} {l:List UInt8} (h:r.toList=l):r.size=l.length:=by
 rw [<- h,ByteArray.toList_eq];simp
theorem ext1 (s:ByteArray) (k:Nat) (h:k<s.size):(s.extract k (k+1)).toList = [s[k]]:=by
 rw [ByteArray.toList_eq,Lib.extract_data]
 have hk:k<s.data.toList.length:=by simpa using h
 rw [List.drop_eq_getElem_cons hk]
 simp
 rfl
theorem app_list (a b:ByteArray):(a++b).toList=a.toList++b.toList:=by
 simp only [ByteArray.toList_eq]
 simp
theorem quoted_any (s:ByteArray) (w:World) (hs:s.size<=1000) :
  Calls Tryz.prog 20 #[.string s] w fun e w'=>(∃ r:ByteArray,e = .returned (.string r)/\r.toList=39::dbl s.toList ++ [39])/\w'=w:=by
 go_enter Tryz.func20,Tryz.ntmps20
 go_wp2
 go_loop [3,4] (fun o i=>∃ (k:Nat) (r:ByteArray),k<=s.size/\i = .int .i64 k/\o = .string r/\r.size<=2*k+1/\Hid (r.toList=39::dbl (s.toList.take k))) (fun _ i=>s.size - (intOf i).toNat)
 case atStart=>exact ⟨0,_,Nat.zero_le _,rfl,rfl,by decide,by show _=_;rw [List.take_zero,ByteArray.toList_eq];rfl⟩
 case round=>
  obtain ⟨k,r,hk,rfl,rfl,hrs,HR⟩:=hrel
  by_cases hlt:k<s.size
  ·have HE:Hid ((s.extract k (k+1)).toList = [s[k]]):=ext1 s k hlt
   have HZ:(s.extract k (k+1)).size=1:=size_of_list HE.out
   have HT:Hid (s.toList.take (k+1)=s.toList.take k ++ [s[k]]):=by
    show _=_
    have hk' : k<s.toList.length:=by rw [<- size_of_list rfl];exact hlt
    rw [List.take_succ_eq_append_getElem hk']
    congr 2
    simp [ByteArray.toList_eq];rfl
   have hu:=u8_eq s[k] 39
   have hu' : ((s[k].toNat:Int) == 39)=(s[k] == 39):=hu
   clear hu
   cases hq:(s[k] == 39)
   ·have hq2:((s[k].toNat:Int) == 39)=false:=hu'.trans hq
    have HN:Hid ((r++s.extract k (k+1)).toList=39::dbl (s.toList.take (k+1))):=by
     show _=_;rw [app_list,HR.out,HE.out,HT.out,dbl_app];simp [dbl,hq]
    have HS:(r++s.extract k (k+1)).size<=2*(k+1)+1:=by rw [ByteArray.size_append,HZ];omega
    clear hu' hq
    go_wp2
    go_round
    case rel=>exact ⟨k+1,_,by omega,by go_num,rfl,HS,HN⟩
    case measure=>simp [intOf];omega
   ·have hq2:((s[k].toNat:Int) == 39)=true:=hu'.trans hq
    have HN:Hid ((r++s.extract k (k+1)++(⟨#[39]⟩:ByteArray)).toList=39::dbl (s.toList.take (k+1))):=by
     show _=_
     have e39:(⟨#[39]⟩:ByteArray).toList = [39]:=by rw [ByteArray.toList_eq]
     have e:s[k]=39:=eq_of_beq hq
     rw [app_list,app_list,HR.out,HE.out,HT.out,dbl_app,e39,e];simp [dbl]
    have HS:(r++s.extract k (k+1)++(⟨#[39]⟩:ByteArray)).size<=2*(k+1)+1:=by rw [ByteArray.size_append,ByteArray.size_append,HZ];show _+_+1<=_;omega
    have HS0:(r++s.extract k (k+1)).size<=2*(k+1):=by rw [ByteArray.size_append,HZ];omega
    clear hu' hq
    go_wp2
    go_round
    case rel=>exact ⟨k+1,_,by omega,by go_num,rfl,HS,HN⟩
    case measure=>simp [intOf];omega
  ·have HN:Hid ((r++(⟨#[39]⟩:ByteArray)).toList=39::dbl s.toList ++ [39]):=by
    show _=_
    have e39:(⟨#[39]⟩:ByteArray).toList = [39]:=by rw [ByteArray.toList_eq]
    have hk' : k=s.size:=by omega
    rw [app_list,HR.out,e39,hk',List.take_of_length_le (by rw [<- size_of_list rfl];exact Nat.le_refl _)]
   go_wp2
   go_ret
   exact ⟨⟨_,rfl,HN.out⟩,rfl⟩
theorem lbag_none (a b:Value) (ha:a = .slice none 0 0\/∃ b1 b2 b3:Nat,a = .slice (some ⟨b1,b2,none⟩) 0 b3) (hb:b = .slice none 0 0\/∃ b1 b2 b3:Nat,b = .slice (some ⟨b1,b2,none⟩) 0 b3) (w:World) :
  Calls Tryz.prog 18 #[a,b] w fun e w'=>e = .returned (.bool true)/\Gr w w':=by
 rcases ha with rfl | ⟨_,_,_,rfl⟩ <;> rcases hb with rfl | ⟨_,_,_,rfl⟩ <;>
 ·go_enter Tryz.func18,Tryz.ntmps18
  go_wp2
  go_loop [5] (fun i=>i = .int .i64 0) (fun _=>0)
  case atStart=>rfl
  case round=>
   subst hrel
   go_wp2
   go_ret
   exact ⟨rfl,Gr.refl _⟩
theorem lbag_all (ls ws:List (List Sv.Val)) (a b:Value) (w:World) (h1:ls.length<=100000) (h2:∀ x∈ls,x.length<=100000) (h3:∀ x∈ws,x.length<=100000) (ha:Lv w a ls) (hb:Lv w b ws) (hbag:Bag ls ws) :
  Calls Tryz.prog 18 #[a,b] w fun e w'=>e = .returned (.bool true)/\Gr w w':=by
 have hl:=hbag.len
 rcases ha with ⟨rfl,rfl⟩ | ⟨rb,ro,c,rfl,ha⟩
 ·have hz:ws = []:=List.eq_nil_of_length_eq_zero (by simpa using hl.symm)
  subst hz
  refine lbag_none _ _ (.inl rfl) ?_ w
  rcases hb with ⟨rfl,_⟩ | ⟨_,_,_,rfl,_⟩
  ·exact .inl rfl
  ·exact .inr ⟨_,_,_,rfl⟩
 ·by_cases hz:ls.length=0
  ·have hz1:ls = []:=List.eq_nil_of_length_eq_zero hz
   subst hz1
   have hz2:ws = []:=List.eq_nil_of_length_eq_zero (by simpa using hl.symm)
   subst hz2
   refine lbag_none _ _ (.inr ⟨_,_,_,rfl⟩) ?_ w
   rcases hb with ⟨rfl,_⟩ | ⟨_,_,_,rfl,_⟩
   ·exact .inl rfl
   ·exact .inr ⟨_,_,_,rfl⟩
  ·refine lbag_any ls ws rb ro c _ b w rfl h1 h2 h3 ha hb ?_ hbag
   rcases hb with ⟨_,rfl⟩ | ⟨_,_,_,rfl,_⟩
   ·exact absurd hl (by simpa using hz)
   ·exact ⟨_,_,_,by rw [hl]⟩
end Go.Proofs.YtgnncnhkgmhngaaGreatDoor
