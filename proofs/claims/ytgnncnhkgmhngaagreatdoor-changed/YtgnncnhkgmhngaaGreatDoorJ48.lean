import Derived.Test.YtgnncnhkgmhngaaGreatDoorJ37
import Derived.Laws.BytesArg
set_option maxHeartbeats 2000000
set_option maxRecDepth 100000
namespace Go.Proofs.YtgnncnhkgmhngaaGreatDoor
open Tryz
open Go.RowKit Go.Sort
theorem QN (us vs:List Sv.Val) (hl:us.length=vs.length) (h:∀ j,(h1:j<us.length)->(h2:j<vs.length)->decide (us[j]=vs[j])=true):decide (us=vs)=true:=
 decide_eq_true (List.ext_getElem hl λj h1 h2=>of_decide_eq_true (h j h1 h2))
theorem NM (us vs:List Sv.Val) (k:Nat) (h1:k<us.length) (h2:k<vs.length) (e:decide (us[k]=vs[k])=false):decide (us=vs)=false:=by
 refine decide_eq_false λh=>?_
 subst h
 simp at e
theorem LM (b off n c b' off' n' c' : Nat) (us vs:List Sv.Val) (w:World) (hz:n=us.length) (hz' : n'=vs.length) (hbig:n<=100000) (hbig' : n'<=100000) (hv:Hv w b off us) (hv' : Hv w b' off' vs) :
  Calls prog 36 #[.slice (some ⟨b,off,none⟩) n c, .slice (some ⟨b',off',none⟩) n' c'] w λe w'=>e = .returned (.bool (decide (us=vs)))/\Gr w w':=by
 have HV:=hid hv
 have WM:=hid hv'
 clear hv hv'
 have HZ:=hid hz
 have RB:=hid hz'
 clear hz hz'
 have HX:Hid (∀ j,(h1:j<us.length)->(h2:j<vs.length)->decide (us[j]=vs[j])=eqF us[j].k us[j].n us[j].s vs[j].k vs[j].n vs[j].s):=λj h1 h2=>(tE us[j] vs[j]).symm
 have HM:Hid (∀ k,(h1:k<us.length)->(h2:k<vs.length)->decide (us[k]=vs[k])=false->decide (us=vs)=false):=NM us vs
 have HT:Hid (us.length=vs.length->(∀ j,(h1:j<us.length)->(h2:j<vs.length)->decide (us[j]=vs[j])=true)->decide (us=vs)=true):=λhl=>QN us vs hl
 have HL:Hid (us.length≠vs.length->decide (us=vs)=false):=λh=>decide_eq_false λe=>h (congrArg _ e)
 generalize hcx:decide (us=vs)=cx at HM HT HL
 clear hcx
 have hq:=Ue
 have hm:=mixed
 by_cases hnn:n=n'
 ·subst hnn
  go_enter func36,ntmps36
  go_wp2
  go_loopw [5] (λi wr=>∃ k:Nat,k<=n/\i = .int .i64 k/\Hid (Gr w wr)/\Hid (∀ j,j<k->(h1:j<us.length)->(h2:j<vs.length)->decide (us[j]=vs[j])=true)) (λi _=>n - (intOf i).toNat)
  case atStart=>exact ⟨0,eX _,rfl,Gr.refl _,λj hj=>absurd hj (Nat.not_lt_zero _)⟩
  case round=>
   obtain ⟨k,hk,rfl,HG,HR⟩:=hrel
   by_cases hlt:k<n
   ·have hkz:k<us.length:=by have:=HZ.out;omega
    have mX : k<vs.length:=by have:=RB.out;omega
    have fL:=HV.out.gr HG.out
    have AP:=WM.out.gr HG.out
    have c0:=fL.k k hkz
    have c1:=fL.n k hkz
    have c2:=fL.s k hkz
    have d0:=AP.k k mX
    have d1:=AP.n k mX
    have d2:=AP.s k mX
    have HE:=HX.out k hkz mX
    clear fL AP
    generalize us[k].k=xk at c0 HE
    generalize us[k].n=xn at c1 HE
    generalize us[k].s=xs at c2 HE
    generalize vs[k].k=yk at d0 HE
    generalize vs[k].n=yn at d1 HE
    generalize vs[k].s=ys at d2 HE
    cases he:eqF xk xn xs yk yn ys
    ·have HF:Hid (cx=false):=HM.out k hkz mX (HE.trans he)
     clear HE
     go_wp2_with fail
     go_quiet (fail)
     go_wp2_with fail
     go_ret
     exact ⟨congrArg (λr=>Ending.returned (.bool r)) HF.out.symm,HG.out.drewN _⟩
    ·have HF:Hid (decide (us[k]=vs[k])=true):=HE.trans he
     clear HE
     go_wp2_with fail
     go_quiet (fail)
     go_wp2_with fail
     go_roundw
     case rel=>exact ⟨k+1,by omega,by go_num,HG.out.drewN _,λj hj h1 h2=>by
      by_cases e:j=k
      ·subst e;exact HF.out
      ·exact HR.out j (by omega) h1 h2⟩
     case measure=>simp [intOf];omega
   ·have HF:Hid (cx=true):=HT.out (HZ.out.symm.trans RB.out) λj h1 h2=>HR.out j (by have:=HZ.out;omega) h1 h2
    go_wp2_with fail
    go_ret
    exact ⟨congrArg (λr=>Ending.returned (.bool r)) HF.out.symm,HG.out⟩
 ·have hne:((n:Int) == (n' : Int))=false:=by simpa using λe:(n:Int)=n'=>hnn (by exact_mod_cast e)
  have HF:Hid (cx=false):=HL.out (by have:=HZ.out;have:=RB.out;omega)
  go_enter func36,ntmps36
  go_wp2
  go_ret
  exact ⟨congrArg (λr=>Ending.returned (.bool r)) HF.out.symm,Gr.refl _⟩
def Rn (w:World) (v:Value) (vs:List Sv.Val):Prop:=∃ b off c,v = .slice (some ⟨b,off,none⟩) vs.length c/\Hv w b off vs
theorem Rn.gr {w w' : World} {v:Value} {vs:List Sv.Val} (h:Rn w v vs) (g:Gr w w'):Rn w' v vs:=by
 obtain ⟨b,off,c,e,hv⟩:=h;exact ⟨b,off,c,e,hv.gr g⟩
structure Ln (w:World) (rb ro:Nat) (rs:List (List Sv.Val)):Prop where
 lb:rb<w.heap.size
 at_:∀ i,(h:i<rs.length)->∃ v,w.cell? ⟨rb,ro+i,none⟩=some v/\Rn w v rs[i]
theorem Ln.gr {w w' : World} {rb ro:Nat} {rs:List (List Sv.Val)} (h:Ln w rb ro rs) (g:Gr w w'):Ln w' rb ro rs:=
 ⟨b6 h.lb g.size,λi hi=>by obtain ⟨v,h1,h2⟩:=h.at_ i hi;exact ⟨v,(g.cell (p:=⟨rb,_,none⟩) h.lb).trans h1,h2.gr g⟩⟩
def Lv (w:World) (v:Value) (rs:List (List Sv.Val)):Prop:=(v = .slice none 0 0/\rs = [])\/∃ b off c,v = .slice (some ⟨b,off,none⟩) rs.length c/\Ln w b off rs
theorem Lv.gr {w w' : World} {v:Value} {rs:List (List Sv.Val)} (h:Lv w v rs) (g:Gr w w'):Lv w' v rs:=by
 rcases h with h | ⟨b,off,c,e,hl⟩
 ·exact .inl h
 ·exact .inr ⟨b,off,c,e,hl.gr g⟩
theorem IZ (us vs:List Sv.Val) (a b:Value) (w:World) (h1:us.length<=100000) (h2:vs.length<=100000) (ha:Rn w a us) (hb:Rn w b vs) :
  Calls prog 36 #[a,b] w λe w'=>e = .returned (.bool (decide (us=vs)))/\Gr w w':=by
 obtain ⟨_,_,_,rfl,hu⟩:=ha
 obtain ⟨_,_,_,rfl,hv⟩:=hb
 exact LM _ _ _ _ _ _ _ _ us vs w rfl rfl h1 h2 hu hv
def cnt (rs:List (List Sv.Val)) (r:List Sv.Val):Nat:=(rs.filter λx=>decide (x=r)).length
theorem LN (rs:List (List Sv.Val)) (r:List Sv.Val) (k:Nat) (h:k<rs.length):cnt (rs.take (k+1)) r=cnt (rs.take k) r+(if rs[k]=r then 1 else 0):=by
 unfold cnt
 rw [sA h,List.filter_append,List.length_append]
 congr 1
 by_cases e:rs[k]=r <;> simp [e]
theorem cnt_le (rs:List (List Sv.Val)) (r:List Sv.Val):cnt rs r<=rs.length:=List.length_filter_le _ _
theorem vR (rs:List (List Sv.Val)) (r:List Sv.Val) (a b:Value) (w:World) (h1:rs.length<=100000) (h2:∀ x∈rs,x.length<=100000) (h3:r.length<=100000) (ha:Lv w a rs) (hb:Rn w b r) :
  Calls prog 24 #[a,b] w λe w'=>e = .returned (.int .i64 (cnt rs r))/\Gr w w':=by
 have HB:=hid hb
 clear hb
 rcases ha with ⟨rfl,rfl⟩ | ⟨rb,ro,c,rfl,hl⟩
 ·obtain ⟨_,_,_,rfl,_⟩:=HB.out
  go_enter func24,ntmps24
  go_wp2
  go_loop [5,6] (λn i=>i = .int .i64 0/\n = .int .i64 0) (λ_ _=>0)
  case atStart=>exact ⟨rfl,rfl⟩
  case round=>
   obtain ⟨rfl,rfl⟩:=hrel
   go_wp2
   go_ret
   exact ⟨rfl,Gr.refl _⟩
 ·have HL:=hid hl
  clear hl
  have HS:Hid (∀ (a' : Value) (us:List Sv.Val) (w' : World),us.length<=100000->Rn w' a' us->Rn w' b r->Calls prog 36 #[a',b] w' λe w''=>e = .returned (.bool (decide (us=r)))/\Gr w' w''):=λa' us w' hu ha' hb'=>IZ us r a' b w' hu h3 ha' hb'
  have HC:Hid (∀ k,(h:k<rs.length)->cnt (rs.take (k+1)) r=cnt (rs.take k) r+(if rs[k]=r then 1 else 0)):=λk h=>LN rs r k h
  have HD:Hid (∀ k,cnt (rs.take k) r<=k):=λk=>cF (cnt_le _ _) (by simp;omega)
  have HQ:Hid (cnt (rs.take rs.length) r=cnt rs r):=by show _=_;rw [List.take_length]
  have HW:Hid (∀ k,(h:k<rs.length)->rs[k].length<=100000):=λk h=>h2 _ (hU h)
  have HZ:Hid (rs.length=rs.length):=rfl
  generalize hN:rs.length=N at h1 HZ HQ ⊢
  have HN:=hid hN
  clear hN HZ
  generalize hq:cnt rs r=total at HQ ⊢
  clear hq h2 h3
  obtain ⟨b1,b2,b3,hbe,_⟩:=HB.out
  have Ye:=hid hbe
  clear hbe
  go_enter func24,ntmps24
  go_wp2
  go_loopw [5,6] (λt i wr=>∃ k m:Nat,k<=N/\i = .int .i64 k/\t = .int .i64 m/\m<=k/\Hid (m=cnt (rs.take k) r)/\Hid (Gr w wr)) (λ_ i _=>N - (intOf i).toNat)
  case atStart=>exact ⟨0,0,eX _,rfl,rfl,aF _,by show _=_;simp [cnt],Gr.refl _⟩
  case round=>
   obtain ⟨k,m,hk,rfl,rfl,hmk,HR,HG⟩:=hrel
   by_cases hlt:k<N
   ·have hkz:k<rs.length:=by have:=HN.out;omega
    obtain ⟨v,hc,hv⟩:=(HL.out.gr HG.out).at_ k hkz
    have hs:=HS.out v rs[k] wr (HW.out k hkz) hv (HB.out.gr HG.out)
    have RA:=HC.out k hkz
    clear hv
    by_cases e:rs[k]=r
    ·have HM:Hid (m+1=cnt (rs.take (k+1)) r):=by show _=_;rw [RA,if_pos e,HR.out]
     rw [decide_eq_true e] at hs
     clear RA e
     have JT:Hid (Calls prog 36 #[v,b] wr λe w''=>e = .returned (.bool true)/\Gr wr w''):=hs
     clear hs
     go_wp2_with (go_at_call 36;refine JT.out.mono ?_;rintro e w' ⟨rfl,hg⟩)
     have sX:=hid hg
     clear hg
     go_wp2_with fail
     go_roundw
     case rel=>exact ⟨k+1,m+1,by omega,by go_num,by go_num,by omega,HM,HG.out.trans sX.out⟩
     case measure=>simp [intOf];omega
    ·have HM:Hid (m=cnt (rs.take (k+1)) r):=by show _=_;rw [RA,if_neg e,HR.out];rfl
     rw [decide_eq_false e] at hs
     clear RA e
     have JT:Hid (Calls prog 36 #[v,b] wr λe w''=>e = .returned (.bool false)/\Gr wr w''):=hs
     clear hs
     go_wp2_with (go_at_call 36;refine JT.out.mono ?_;rintro e w' ⟨rfl,hg⟩)
     have sX:=hid hg
     clear hg
     go_wp2_with fail
     go_roundw
     case rel=>exact ⟨k+1,m,by omega,by go_num,rfl,by omega,HM,HG.out.trans sX.out⟩
     case measure=>simp [intOf];omega
   ·have hkN:k=N:=by omega
    subst hkN
    have HF:Hid (m=total):=HR.out.trans HQ.out
    go_wp2
    go_ret
    exact ⟨congrArg (λr:Nat=>Ending.returned (.int .i64 r)) HF.out,HG.out⟩
def AQ (k n:Int) (s:ByteArray) (k' n' : Int) (s' : ByteArray):Bool:=
 if k != k' then decide (k<k') else if n != n' then decide (n<n') else Op.bytesLess s.toList s'.toList
def iX:List Sv.Val->List Sv.Val->Bool
 | [],_=>false
 | _::_, []=>false
 | a::l,b::m=>if a=b then iX l m else AQ a.k a.n a.s b.k b.n b.s
theorem GH (x y:Int):Sv.dL x y<0↔x<y:=by unfold Sv.dL;split <;> (try split) <;> omega
theorem AR (x y:Int):Sv.dL x y=0↔x=y:=by unfold Sv.dL;split <;> (try split) <;> omega
theorem NN (x y:List UInt8):Sv.kQ x y<0↔Op.bytesLess x y=true:=by
 rw [xQ]
 cases p:Op.bytesLess x y
 ·rw [if_neg (by simp)];simp;split <;> omega
 ·simp
theorem LO (a b:Sv.Val):(AQ a.k a.n a.s b.k b.n b.s=true)↔Sv.cmp a b<0:=by
 have hc:Sv.cmp a b=if Sv.dL a.k b.k=0 then (if Sv.dL a.n b.n=0 then (if Sv.kQ a.s.toList b.s.toList=0 then 0 else Sv.kQ a.s.toList b.s.toList) else Sv.dL a.n b.n) else Sv.dL a.k b.k:=rfl
 rw [hc]
 unfold AQ
 by_cases h:a.k=b.k
 ·rw [if_pos ((AR _ _).2 h),if_neg (by simp [h])]
  by_cases h2:a.n=b.n
  ·rw [if_pos ((AR _ _).2 h2),if_neg (by simp [h2])]
   rw [<- NN]
   split
   ·rename_i e;rw [e]
   ·rfl
  ·rw [if_neg λe=>h2 ((AR _ _).1 e),if_pos (by simp [h2]),GH]
   simp
 ·rw [if_neg λe=>h ((AR _ _).1 e),if_pos (by simp [h]),GH]
  simp
theorem Dh:∀ us vs:List Sv.Val,us.length=vs.length->((iX us vs=true)↔eC us vs<0)
 | [], [],_=>by simp [iX,eC]
 | [],_::_,h=>by simp at h
 | _::_, [],h=>by simp at h
 | a::l,b::m,h=>by
  have ih:=Dh l m (by simpa using h)
  rw [iX,eC]
  by_cases e:a=b
  ·subst e;rw [if_pos rfl,if_pos (nR.refl a),ih]
  ·have:Sv.cmp a b≠0:=λh=>e (nR.eq _ _ h)
   rw [if_neg e,if_neg this,LO]
theorem I0 (us vs:List Sv.Val) (k:Nat) (h1:k<us.length) (h2:k<vs.length) (e:decide (us[k]=vs[k])=true):iX (us.drop k) (vs.drop k)=iX (us.drop (k+1)) (vs.drop (k+1)):=by
 rw [lJ h1,lJ h2,iX,if_pos (of_decide_eq_true e)]
theorem LP (us vs:List Sv.Val) (k:Nat) (h1:k<us.length) (h2:k<vs.length) (e:decide (us[k]=vs[k])=false):iX (us.drop k) (vs.drop k)=AQ us[k].k us[k].n us[k].s vs[k].k vs[k].n vs[k].s:=by
 rw [lJ h1,lJ h2,iX,if_neg (of_decide_eq_false e)]
theorem LQ (us vs:List Sv.Val) (k:Nat) (h:us.length<=k\/vs.length<=k):iX (us.drop k) (vs.drop k)=false:=by
 rcases h with h | h
 ·rw [List.drop_eq_nil_of_le h];rfl
 ·rw [List.drop_eq_nil_of_le h];cases us.drop k <;> rfl
theorem Fw (b off n c b' off' n' c' : Nat) (us vs:List Sv.Val) (w:World) (hz:n=us.length) (hz' : n'=vs.length) (hbig:n<=100000) (_:n'<=100000) (hv:Hv w b off us) (hv' : Hv w b' off' vs) :
  Calls prog 34 #[.slice (some ⟨b,off,none⟩) n c, .slice (some ⟨b',off',none⟩) n' c'] w λe w'=>e = .returned (.bool (iX us vs))/\Gr w w':=by
 have HV:=hid hv
 have WM:=hid hv'
 clear hv hv'
 have HZ:=hid hz
 have RB:=hid hz'
 clear hz hz'
 have HX:Hid (∀ j,(h1:j<us.length)->(h2:j<vs.length)->decide (us[j]=vs[j])=eqF us[j].k us[j].n us[j].s vs[j].k vs[j].n vs[j].s):=λj h1 h2=>(tE us[j] vs[j]).symm
 have HM:Hid (∀ k,(h1:k<us.length)->(h2:k<vs.length)->decide (us[k]=vs[k])=false->iX (us.drop k) (vs.drop k)=AQ us[k].k us[k].n us[k].s vs[k].k vs[k].n vs[k].s):=LP us vs
 have HT:Hid (∀ k,(h1:k<us.length)->(h2:k<vs.length)->decide (us[k]=vs[k])=true->iX (us.drop k) (vs.drop k)=iX (us.drop (k+1)) (vs.drop (k+1))):=I0 us vs
 have HL:Hid (∀ k,us.length<=k\/vs.length<=k->iX (us.drop k) (vs.drop k)=false):=LQ us vs
 have H0:Hid (iX (us.drop 0) (vs.drop 0)=iX us vs):=rfl
 generalize hcx:iX us vs=cx at H0
 clear hcx
 have hq:=Ue
 have hm:=mixed
 go_enter func34,ntmps34
 go_wp2
 go_loopw [5] (λi wr=>∃ k:Nat,k<=n/\k<=n'/\i = .int .i64 k/\Hid (Gr w wr)/\Hid (iX (us.drop k) (vs.drop k)=cx)) (λi _=>n - (intOf i).toNat)
 case atStart=>exact ⟨0,eX _,eX _,rfl,Gr.refl _,H0⟩
 case round=>
  obtain ⟨k,hk,hk',rfl,HG,HR⟩:=hrel
  by_cases hlt:k<n
  ·by_cases hlt' : k<n'
   ·have hkz:k<us.length:=by have:=HZ.out;omega
    have mX : k<vs.length:=by have:=RB.out;omega
    have fL:=HV.out.gr HG.out
    have AP:=WM.out.gr HG.out
    have c0:=fL.k k hkz
    have c1:=fL.n k hkz
    have c2:=fL.s k hkz
    have d0:=AP.k k mX
    have d1:=AP.n k mX
    have d2:=AP.s k mX
    have HE:=HX.out k hkz mX
    have NO:=HM.out k hkz mX
    clear fL AP
    generalize us[k].k=xk at c0 HE NO
    generalize us[k].n=xn at c1 HE NO
    generalize us[k].s=xs at c2 HE NO
    generalize vs[k].k=yk at d0 HE NO
    generalize vs[k].n=yn at d1 HE NO
    generalize vs[k].s=ys at d2 HE NO
    cases he:eqF xk xn xs yk yn ys
    ·have HF:Hid (cx=AQ xk xn xs yk yn ys):=HR.out.symm.trans (NO (HE.trans he))
     clear HE NO
     by_cases ek:(xk == yk)=false
     ·have Jm:Hid (cx=decide (xk<yk)):=by
       show _=_
       rw [HF.out,AQ,if_pos (by rw [bne,ek];rfl)]
      clear HF
      go_wp2_with fail
      go_quiet (fail)
      go_wp2_with fail
      go_quiet (fail)
      go_wp2_with fail
      go_quiet (fail)
      go_wp2_with fail
      go_ret
      exact ⟨congrArg (λr=>Ending.returned (.bool r)) Jm.out.symm,((HG.out.drewN _).drewN _).drewN _⟩
     ·have WN:(xk == yk)=true:=by simpa using ek
      have ek2:Hid (xk=yk):=eq_of_beq WN
      clear ek
      by_cases en:(xn == yn)=false
      ·have Jm:Hid (cx=decide (xn<yn)):=by
        show _=_
        rw [HF.out,AQ,if_neg (by rw [bne,WN];simp),if_pos (by rw [bne,en];rfl)]
       clear HF
       go_wp2_with fail
       go_quiet (fail)
       go_wp2_with fail
       go_quiet (fail)
       go_wp2_with fail
       go_quiet (fail)
       go_wp2_with fail
       go_quiet (fail)
       go_wp2_with fail
       go_ret
       exact ⟨congrArg (λr=>Ending.returned (.bool r)) Jm.out.symm,(((HG.out.drewN _).drewN _).drewN _).drewN _⟩
      ·have en1:(xn == yn)=true:=by simpa using en
       clear en
       have Jm:Hid (cx=Op.bytesLess xs.toList ys.toList):=by
        show _=_
        rw [HF.out,AQ,if_neg (by rw [bne,WN];simp),if_neg (by rw [bne,en1];simp)]
       clear HF
       go_wp2_with fail
       go_quiet (fail)
       go_wp2_with fail
       go_quiet (fail)
       go_wp2_with fail
       go_quiet (fail)
       go_wp2_with fail
       go_quiet (fail)
       go_wp2_with fail
       go_ret
       exact ⟨congrArg (λr=>Ending.returned (.bool r)) Jm.out.symm,(((HG.out.drewN _).drewN _).drewN _).drewN _⟩
    ·have HF:Hid (iX (us.drop (k+1)) (vs.drop (k+1))=cx):=(HT.out k hkz mX (HE.trans he)).symm.trans HR.out
     clear HE NO
     go_wp2_with fail
     go_quiet (fail)
     go_wp2_with fail
     go_roundw
     case rel=>exact ⟨k+1,by omega,by omega,by go_num,HG.out.drewN _,HF⟩
     case measure=>simp [intOf];omega
   ·have HF:Hid (cx=false):=HR.out.symm.trans (HL.out k (.inr (by have:=RB.out;omega)))
    go_wp2_with fail
    go_ret
    exact ⟨congrArg (λr=>Ending.returned (.bool r)) HF.out.symm,HG.out⟩
  ·have HF:Hid (cx=false):=HR.out.symm.trans (HL.out k (.inl (by have:=HZ.out;omega)))
   go_wp2_with fail
   go_ret
   exact ⟨congrArg (λr=>Ending.returned (.bool r)) HF.out.symm,HG.out⟩
theorem Di (us vs:List Sv.Val) (a b:Value) (w:World) (h1:us.length<=100000) (h2:vs.length<=100000) (ha:Rn w a us) (hb:Rn w b vs) :
  Calls prog 34 #[a,b] w λe w'=>e = .returned (.bool (iX us vs))/\Gr w w':=by
 obtain ⟨_,_,_,rfl,hu⟩:=ha
 obtain ⟨_,_,_,rfl,hv⟩:=hb
 exact Fw _ _ _ _ _ _ _ _ us vs w rfl rfl h1 h2 hu hv
structure WO (ls ws:List (List Sv.Val)):Prop where
 len:ls.length=ws.length
 cnt:∀ i,(h:i<ls.length)->cnt ls ls[i]=cnt ws ls[i]
 ord:∀ i,(h:i+1<ls.length)->iX ls[i+1] ls[i]=false
theorem LR (ls ws:List (List Sv.Val)) (rb ro c N:Nat) (b:Value) (w:World) (hN:N=ls.length) (h1:N<=100000) (h2:∀ x∈ls,x.length<=100000) (h3:∀ x∈ws,x.length<=100000) (hl:Ln w rb ro ls) (hb:Lv w b ws) (hne:∃ b1 b2 b3:Nat,b = .slice (some ⟨b1,b2,none⟩) N b3) (Fx:WO ls ws) :
  Calls prog 18 #[.slice (some ⟨rb,ro,none⟩) N c,b] w λe w'=>e = .returned (.bool true)/\Gr w w':=by
 have HL:=hid hl
 have HB:=hid hb
 have HC:Hid (∀ k,(h:k<ls.length)->∀ v w',Gr w w'->Rn w' v ls[k]->Calls prog 24 #[.slice (some ⟨rb,ro,none⟩) N c,v] w' λe w''=>e = .returned (.int .i64 (cnt ls ls[k]))/\Gr w' w''):=λk h v w' g hv=>by
  rw [hN] at h1 ⊢
  exact vR ls ls[k] _ v w' h1 h2 (h2 _ (hU h)) (.inr ⟨rb,ro,c,rfl,hl.gr g⟩) hv
 have HD:Hid (∀ k,(h:k<ls.length)->∀ v w',Gr w w'->Rn w' v ls[k]->Calls prog 24 #[b,v] w' λe w''=>e = .returned (.int .i64 (cnt ls ls[k]))/\Gr w' w''):=λk h v w' g hv=>by
  rw [Fx.cnt k h]
  exact vR ws ls[k] _ v w' (by have:=Fx.len;omega) h3 (h2 _ (hU h)) (hb.gr g) hv
 have HF:Hid (∀ k,(h:k+1<ls.length)->∀ v u w',Rn w' v ls[k+1]->Rn w' u ls[k]->Calls prog 34 #[v,u] w' λe w''=>e = .returned (.bool false)/\Gr w' w''):=λk h v u w' hv hu=>by
  rw [<- Fx.ord k h]
  exact Di ls[k+1] ls[k] v u w' (h2 _ (hU h)) (h2 _ (hU (by omega))) hv hu
 clear Fx h2 h3 hl hb
 have HN:Hid (ls.length=N):=hN.symm
 clear hN
 obtain ⟨b1,b2,b3,rfl⟩:=hne
 have hm:=mixed
 go_enter func18,ntmps18
 go_wp2
 go_loopw [5] (λi wr=>∃ k:Nat,k<=N/\i = .int .i64 k/\Hid (Gr w wr)) (λi _=>N - (intOf i).toNat)
 case atStart=>exact ⟨0,eX _,rfl,Gr.refl _⟩
 case round=>
  obtain ⟨k,hk,rfl,HG⟩:=hrel
  by_cases hlt:k<N
  ·have hkz:k<ls.length:=by have:=HN.out;omega
   have pA:=HL.out.gr HG.out
   obtain ⟨v,hc,hv⟩:=pA.at_ k hkz
   have hcg:∀ m os,(grow (wr.drewN m) os).cell? ⟨rb,ro+k,none⟩=some v:=λm os=>((bH m os).cell (p:=⟨rb,_,none⟩) pA.lb).trans hc
   have C1:Hid (∀ m os,Calls prog 24 #[.slice (some ⟨rb,ro,none⟩) N c,v] (grow (wr.drewN m) os) λe w''=>e = .returned (.int .i64 (cnt ls ls[k]))/\Gr (grow (wr.drewN m) os) w''):=λm os=>HC.out k (by omega) v _ (HG.out.trans (bH m os)) (hv.gr (bH m os))
   have C2:Hid (∀ m os,Calls prog 24 #[.slice (some ⟨b1,b2,none⟩) N b3,v] (grow (wr.drewN m) os) λe w''=>e = .returned (.int .i64 (cnt ls ls[k]))/\Gr (grow (wr.drewN m) os) w''):=λm os=>HD.out k (by omega) v _ (HG.out.trans (bH m os)) (hv.gr (bH m os))
   generalize cnt ls ls[k]=q at C1 C2
   have C:Hid (∀ a,a = .slice (some ⟨rb,ro,none⟩) N c\/a = .slice (some ⟨b1,b2,none⟩) N b3->∀ m os,Calls prog 24 #[a,v] (grow (wr.drewN m) os) λe w''=>e = .returned (.int .i64 q)/\Gr (grow (wr.drewN m) os) w''):=by
    rintro a (rfl | rfl)
    ·exact C1.out
    ·exact C2.out
   clear hc C1 C2
   cases k with
   | zero=>
    have hcz:∀ m os,(grow (wr.drewN m) os).cell? ⟨rb,ro,none⟩=some v:=hcg
    clear pA hv hcg
    go_wp2_with fail
    (refine wp_region_quiet_grown (by assumption) (by kernel_rfl) ?_;refine dG λmT eP=>?_)
    iterate 17 ((refine wpQuiet_step (λK hK=>?_);refine dX (bW (Hid.out eP) (by kernel_rfl)) ?_;go_simp;first | (refine hK _ ?_;clear hK K) | (apply Exists.intro;refine ⟨λ_=>?_,hK _ ?_⟩;(first | (go_at_call 24;refine Calls.grown_of (C.out _ (by first | exact .inl rfl | exact .inr rfl) _ _)));clear hK K)))
    iterate 10 (refine wpQuiet_step (λK hK=>?_);refine kS (bW (Hid.out eP) (by kernel_rfl)) ?_;go_simp;refine hK _ ?_;clear hK K)
    iterate 2 ((refine wpQuiet_step (λK hK=>?_);refine dX (bW (Hid.out eP) (by kernel_rfl)) ?_;go_simp;first | (refine hK _ ?_;clear hK K) | (apply Exists.intro;refine ⟨λ_=>?_,hK _ ?_⟩;(fail);clear hK K)))
    (refine wpQuiet_nil ?_;intro _ hw';obtain ⟨⟨nq,osq⟩,hw''⟩:=hw';subst hw'';clear eP mT)
    go_wp2_with fail
    go_roundw
    case rel=>exact ⟨0+1,by omega,by go_num,HG.out.trans (bH _ _)⟩
    case measure=>simp [intOf];omega
   | succ j=>
    obtain ⟨u,Yw,hu⟩:=pA.at_ j (by omega)
    have aAc:∀ m os,(grow (wr.drewN m) os).cell? ⟨rb,ro+j,none⟩=some u:=λm os=>((bH m os).cell (p:=⟨rb,_,none⟩) pA.lb).trans Yw
    have C3:Hid (∀ m os,Calls prog 34 #[v,u] (grow (wr.drewN m) os) λe w''=>e = .returned (.bool false)/\Gr (grow (wr.drewN m) os) w''):=λm os=>HF.out j (by omega) v u _ (hv.gr (bH m os)) (hu.gr (bH m os))
    have i0:(0:Int)<=(j:Int)+1:=by omega
    have i1:(j:Int)+1<(N:Int):=by omega
    have i2:(j:Int)<(N:Int):=by omega
    have i3:(0:Int)<(j:Int)+1:=by omega
    have i4:IntKind.i64.wrap (j:Int)=j:=by rw [IntKind.wrap_i64];omega
    clear Yw hu hv pA
    go_wp2_with fail
    (refine wp_region_quiet_grown (by assumption) (by kernel_rfl) ?_;refine dG λmT eP=>?_)
    iterate 29 ((refine wpQuiet_step (λK hK=>?_);refine dX (bW (Hid.out eP) (by kernel_rfl)) ?_;go_simp;first | (refine hK _ ?_;clear hK K) | (apply Exists.intro;refine ⟨λ_=>?_,hK _ ?_⟩;(first | (go_at_call 24;refine Calls.grown_of (C.out _ (by first | exact .inl rfl | exact .inr rfl) _ _)) | (go_at_call 34;refine Calls.grown_of (C3.out _ _)));clear hK K)))
    (refine wpQuiet_nil ?_;intro _ hw';obtain ⟨⟨nq,osq⟩,hw''⟩:=hw';subst hw'';clear eP mT)
    go_wp2_with fail
    go_roundw
    case rel=>exact ⟨j+1+1,by omega,by go_num,HG.out.trans (bH _ _)⟩
    case measure=>simp [intOf];omega
  ·go_wp2_with fail
   go_ret
   exact ⟨rfl,HG.out⟩
open Go.RowKit
def pk (c n:Int):Int:=(if c<0 then -(c+1) else c) % n
theorem vS (c n:Int) (hn:0<n):0<=pk c n/\pk c n<n:=⟨Int.emod_nonneg _ (by omega),Int.emod_lt_of_pos _ hn⟩
theorem pick_any (c n:Int) (w:World) (hc:-9223372036854775808<=c) (hc2:c<=9223372036854775807) (hn:0<n) (hn2:n<=1000) :
  Calls prog 22 #[.int .i64 c, .int .i64 n] w λe w'=>e = .returned (.int .i64 (pk c n))/\w'=w:=by
 by_cases h:c<0
 ·have E:Hid (pk c n=-((c+1).tmod n)):=by
   show _=_
   simp only [pk,h,if_true]
   rw [<- Int.neg_tmod,Int.tmod_eq_emod_of_nonneg (by omega)]
  go_enter func22,ntmps22
  go_wp2
  go_ret
  exact ⟨aQ E.out.symm,rfl⟩
 ·have E:Hid (pk c n=c % n):=by
   show _=_
   simp only [pk,h,if_false]
  go_enter func22,ntmps22
  go_wp2
  go_ret
  exact ⟨aQ E.out.symm,rfl⟩
theorem pN (n:Int) (w:World) (h0:0<=n) (h1:n<10) :
  Calls prog 23 #[.int .i64 n] w λe w'=>e = .returned (.string ⟨#[UInt8.ofNat (48+n.toNat)]⟩)/\Gr w w':=by
 go_enter func23,ntmps23
 have hcv:=run_convert_bytes_arg (P:=prog) (w.alloc (.cells #[.int .u8 (48+n % 10)] 5)) 88 5 underlying88 underlying5 w.heap.size 0 1 1 [48+n % 10] rfl (λi hi=>by
  obtain rfl:i=0:=by omega
  simp) 9 underlying9
 have HE:Hid (strOfNums [48+n % 10]=⟨#[UInt8.ofNat (48+n.toNat)]⟩):=by
  show _=_
  have:(48+n % 10).toNat=48+n.toNat:=by omega
  simp [strOfNums,this]
 generalize strOfNums [48+n % 10]=r at hcv HE
 go_wp2_with fail
 go_ret
 exact ⟨congrArg (λr=>Ending.returned (.string r)) HE.out,(Gr.refl w).alloc _⟩
def xE:List UInt8->List UInt8
 | [] => []
 | c::l=>if c == 39 then 39::39::xE l else c::xE l
theorem AS:∀ (a b:List UInt8),xE (a++b)=xE a++xE b
 | [],b=>rfl
 | c::a,b=>by
  simp only [List.cons_append,xE]
  split <;> simp [AS a b]
theorem AT:∀ l:List UInt8,(xE l).length<=2*l.length
 | []=>by simp [xE]
 | c::l=>by
  have:=AT l
  simp only [xE]
  split <;> simp <;> omega
theorem size_of_list {r:ByteArray} {l:List UInt8} (h:r.toList=l):r.size=l.length:=by
 rw [<- h,pV];simp
theorem ext1 (s:ByteArray) (k:Nat) (h:k<s.size):(s.extract k (k+1)).toList = [s[k]]:=by
 rw [pV,Lib.extract_data]
 have hk:k<s.data.toList.length:=by simpa using h
 rw [lJ hk]
 simp
 rfl
theorem gU (a b:ByteArray):(a++b).toList=a.toList++b.toList:=by
 simp only [pV]
 simp
theorem vT (s:ByteArray) (w:World) (hs:s.size<=1000) :
  Calls prog 20 #[.string s] w λe w'=>(∃ r:ByteArray,e = .returned (.string r)/\r.toList=39::xE s.toList ++ [39])/\w'=w:=by
 go_enter func20,ntmps20
 go_wp2
 go_loop [3,4] (λo i=>∃ (k:Nat) (r:ByteArray),k<=s.size/\i = .int .i64 k/\o = .string r/\r.size<=2*k+1/\Hid (r.toList=39::xE (s.toList.take k))) (λ_ i=>s.size - (intOf i).toNat)
 case atStart=>exact ⟨0,_,eX _,rfl,rfl,by decide,by show _=_;rw [List.take_zero,pV];rfl⟩
 case round=>
  obtain ⟨k,r,hk,rfl,rfl,hrs,HR⟩:=hrel
  by_cases hlt:k<s.size
  ·have HE:Hid ((s.extract k (k+1)).toList = [s[k]]):=ext1 s k hlt
   have HZ:(s.extract k (k+1)).size=1:=size_of_list HE.out
   have HT:Hid (s.toList.take (k+1)=s.toList.take k ++ [s[k]]):=by
    show _=_
    have hk' : k<s.toList.length:=by rw [<- size_of_list rfl];exact hlt
    rw [sA hk']
    congr 2
    simp [pV];rfl
   have hu:=sB s[k] 39
   have hu' : ((s[k].toNat:Int) == 39)=(s[k] == 39):=hu
   clear hu
   cases hq:(s[k] == 39)
   ·have hq2:((s[k].toNat:Int) == 39)=false:=hu'.trans hq
    have HN:Hid ((r++s.extract k (k+1)).toList=39::xE (s.toList.take (k+1))):=by
     show _=_;rw [gU,HR.out,HE.out,HT.out,AS];simp [xE,hq]
    have HS:(r++s.extract k (k+1)).size<=2*(k+1)+1:=by rw [ByteArray.size_append,HZ];omega
    clear hu' hq
    go_wp2
    go_round
    case rel=>exact ⟨k+1,_,by omega,by go_num,rfl,HS,HN⟩
    case measure=>simp [intOf];omega
   ·have hq2:((s[k].toNat:Int) == 39)=true:=hu'.trans hq
    have HN:Hid ((r++s.extract k (k+1)++(⟨#[39]⟩:ByteArray)).toList=39::xE (s.toList.take (k+1))):=by
     show _=_
     have e39:(⟨#[39]⟩:ByteArray).toList = [39]:=by rw [pV]
     have e:s[k]=39:=eq_of_beq hq
     rw [gU,gU,HR.out,HE.out,HT.out,AS,e39,e];simp [xE]
    have HS:(r++s.extract k (k+1)++(⟨#[39]⟩:ByteArray)).size<=2*(k+1)+1:=by rw [ByteArray.size_append,ByteArray.size_append,HZ];show _+_+1<=_;omega
    have Xw:(r++s.extract k (k+1)).size<=2*(k+1):=by rw [ByteArray.size_append,HZ];omega
    clear hu' hq
    go_wp2
    go_round
    case rel=>exact ⟨k+1,_,by omega,by go_num,rfl,HS,HN⟩
    case measure=>simp [intOf];omega
  ·have HN:Hid ((r++(⟨#[39]⟩:ByteArray)).toList=39::xE s.toList ++ [39]):=by
    show _=_
    have e39:(⟨#[39]⟩:ByteArray).toList = [39]:=by rw [pV]
    have hk' : k=s.size:=by omega
    rw [gU,HR.out,e39,hk',tD (by rw [<- size_of_list rfl];exact aF _)]
   go_wp2
   go_ret
   exact ⟨⟨_,rfl,HN.out⟩,rfl⟩
theorem zA (a b:Value) (ha:a = .slice none 0 0\/∃ b1 b2 b3:Nat,a = .slice (some ⟨b1,b2,none⟩) 0 b3) (hb:b = .slice none 0 0\/∃ b1 b2 b3:Nat,b = .slice (some ⟨b1,b2,none⟩) 0 b3) (w:World) :
  Calls prog 18 #[a,b] w λe w'=>e = .returned (.bool true)/\Gr w w':=by
 rcases ha with rfl | ⟨_,_,_,rfl⟩ <;> rcases hb with rfl | ⟨_,_,_,rfl⟩ <;>
 ·go_enter func18,ntmps18
  go_wp2
  go_loop [5] (λi=>i = .int .i64 0) (λ_=>0)
  case atStart=>rfl
  case round=>
   subst hrel
   go_wp2
   go_ret
   exact ⟨rfl,Gr.refl _⟩
theorem Dj (ls ws:List (List Sv.Val)) (a b:Value) (w:World) (h1:ls.length<=100000) (h2:∀ x∈ls,x.length<=100000) (h3:∀ x∈ws,x.length<=100000) (ha:Lv w a ls) (hb:Lv w b ws) (Fx:WO ls ws) :
  Calls prog 18 #[a,b] w λe w'=>e = .returned (.bool true)/\Gr w w':=by
 have hl:=Fx.len
 rcases ha with ⟨rfl,rfl⟩ | ⟨rb,ro,c,rfl,ha⟩
 ·have hz:ws = []:=zE (by simpa using hl.symm)
  subst hz
  refine zA _ _ (.inl rfl) ?_ w
  rcases hb with ⟨rfl,_⟩ | ⟨_,_,_,rfl,_⟩
  ·exact .inl rfl
  ·exact .inr ⟨_,_,_,rfl⟩
 ·by_cases hz:ls.length=0
  ·have hz1:ls = []:=zE hz
   subst hz1
   have hz2:ws = []:=zE (by simpa using hl.symm)
   subst hz2
   refine zA _ _ (.inr ⟨_,_,_,rfl⟩) ?_ w
   rcases hb with ⟨rfl,_⟩ | ⟨_,_,_,rfl,_⟩
   ·exact .inl rfl
   ·exact .inr ⟨_,_,_,rfl⟩
  ·refine LR ls ws rb ro c _ b w rfl h1 h2 h3 ha hb ?_ Fx
   rcases hb with ⟨_,rfl⟩ | ⟨_,_,_,rfl,_⟩
   ·exact absurd hl (by simpa using hz)
   ·exact ⟨_,_,_,by rw [hl]⟩
end Go.Proofs.YtgnncnhkgmhngaaGreatDoor
