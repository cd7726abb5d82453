import Derived.Test.YtgnncnhkgmhngaaGreatDoorJ34
import Derived.Laws.BytesArg
set_option maxHeartbeats 2000000
set_option maxRecDepth 100000
namespace Go.Proofs.YtgnncnhkgmhngaaGreatDoor
open Go.RowKit Go.Sort
theorem ON (us vs:List Sv.Val) (hl:us.length=vs.length) (h:∀ j,(h1:j<us.length)->(h2:j<vs.length)->decide (us[j]=vs[j])=true):decide (us=vs)=true:=
 decide_eq_true (List.ext_getElem hl λj h1 h2=>of_decide_eq_true (h j h1 h2))
theorem L6 (us vs:List Sv.Val) (k:Nat) (h1:k<us.length) (h2:k<vs.length) (e:decide (us[k]=vs[k])=false):decide (us=vs)=false:=by
 refine decide_eq_false λh=>?_
 subst h
 simp at e
theorem Kj (b off n c b' off' n' c' : Nat) (us vs:List Sv.Val) (w:World) (hz:n=us.length) (hz' : n'=vs.length) (hbig:n<=100000) (hbig' : n'<=100000) (hv:Hv w b off us) (hv' : Hv w b' off' vs) :
  Calls Tryz.prog 36 #[.slice (some ⟨b,off,none⟩) n c, .slice (some ⟨b',off',none⟩) n' c'] w λe w'=>e = .returned (.bool (decide (us=vs)))/\Gr w w':=by
 have HV:=hid hv
 have K8:=hid hv'
 clear hv hv'
 have HZ:=hid hz
 have UR:=hid hz'
 clear hz hz'
 have HX:Hid (∀ j,(h1:j<us.length)->(h2:j<vs.length)->decide (us[j]=vs[j])=eqF us[j].k us[j].n us[j].s vs[j].k vs[j].n vs[j].s):=λj h1 h2=>(yO us[j] vs[j]).symm
 have HM:Hid (∀ k,(h1:k<us.length)->(h2:k<vs.length)->decide (us[k]=vs[k])=false->decide (us=vs)=false):=L6 us vs
 have HT:Hid (us.length=vs.length->(∀ j,(h1:j<us.length)->(h2:j<vs.length)->decide (us[j]=vs[j])=true)->decide (us=vs)=true):=λhl=>ON us vs hl
 have HL:Hid (us.length≠vs.length->decide (us=vs)=false):=λh=>decide_eq_false λe=>h (congrArg _ e)
 generalize hcx:decide (us=vs)=cx at HM HT HL
 clear hcx
 have hq:=S6
 have hm:=mixed
 by_cases hnn:n=n'
 ·subst hnn
  go_enter Tryz.func36,Tryz.ntmps36
  go_wp2
  go_loopw [5] (λi wr=>∃ k:Nat,k<=n/\i = .int .i64 k/\Hid (Gr w wr)/\Hid (∀ j,j<k->(h1:j<us.length)->(h2:j<vs.length)->decide (us[j]=vs[j])=true)) (λi _=>n - (intOf i).toNat)
  case atStart=>exact ⟨0,fO _,rfl,Gr.refl _,λj hj=>absurd hj (Nat.not_lt_zero _)⟩
  case round=>
   obtain ⟨k,hk,rfl,HG,HR⟩:=hrel
   by_cases hlt:k<n
   ·have hkz:k<us.length:=by have:=HZ.out;omega
    have vO : k<vs.length:=by have:=UR.out;omega
    have fQ:=HV.out.gr HG.out
    have L7:=K8.out.gr HG.out
    have c0:=fQ.k k hkz
    have c1:=fQ.n k hkz
    have c2:=fQ.s k hkz
    have d0:=L7.k k vO
    have d1:=L7.n k vO
    have d2:=L7.s k vO
    have HE:=HX.out k hkz vO
    clear fQ L7
    generalize us[k].k=xk at c0 HE
    generalize us[k].n=xn at c1 HE
    generalize us[k].s=xs at c2 HE
    generalize vs[k].k=yk at d0 HE
    generalize vs[k].n=yn at d1 HE
    generalize vs[k].s=ys at d2 HE
    cases he:eqF xk xn xs yk yn ys
    ·have HF:Hid (cx=false):=HM.out k hkz vO (HE.trans he)
     clear HE
     go_wp2_with fail
     go_quiet (fail)
     go_wp2_with fail
     go_ret
     exact ⟨congrArg (λr=>Ending.returned (.bool r)) HF.out.symm,HG.out.drewN _⟩
    ·have HF:Hid (decide (us[k]=vs[k])=true):=HE.trans he
     clear HE
     go_wp2_with fail
     go_quiet (fail)
     go_wp2_with fail
     go_roundw
     case rel=>exact ⟨k+1,by omega,by go_num,HG.out.drewN _,λj hj h1 h2=>by
      by_cases e:j=k
      ·subst e;exact HF.out
      ·exact HR.out j (by omega) h1 h2⟩
     case measure=>simp [intOf];omega
   ·have HF:Hid (cx=true):=HT.out (HZ.out.symm.trans UR.out) λj h1 h2=>HR.out j (by have:=HZ.out;omega) h1 h2
    go_wp2_with fail
    go_ret
    exact ⟨congrArg (λr=>Ending.returned (.bool r)) HF.out.symm,HG.out⟩
 ·have hne:((n:Int) == (n' : Int))=false:=by simpa using λe:(n:Int)=n'=>hnn (by exact_mod_cast e)
  have HF:Hid (cx=false):=HL.out (by have:=HZ.out;have:=UR.out;omega)
  go_enter Tryz.func36,Tryz.ntmps36
  go_wp2
  go_ret
  exact ⟨congrArg (λr=>Ending.returned (.bool r)) HF.out.symm,Gr.refl _⟩
def Rn (w:World) (v:Value) (vs:List Sv.Val):Prop:=∃ b off c,v = .slice (some ⟨b,off,none⟩) vs.length c/\Hv w b off vs
theorem Rn.gr {w w' : World} {v:Value} {vs:List Sv.Val} (h:Rn w v vs) (g:Gr w w'):Rn w' v vs:=by
 obtain ⟨b,off,c,e,hv⟩:=h;exact ⟨b,off,c,e,hv.gr g⟩
structure Ln (w:World) (rb ro:Nat) (rs:List (List Sv.Val)):Prop where
 lb:rb<w.heap.size
 at_:∀ i,(h:i<rs.length)->∃ v,w.cell? ⟨rb,ro+i,none⟩=some v/\Rn w v rs[i]
theorem Ln.gr {w w' : World} {rb ro:Nat} {rs:List (List Sv.Val)} (h:Ln w rb ro rs) (g:Gr w w'):Ln w' rb ro rs:=
 ⟨bY h.lb g.size,λi hi=>by obtain ⟨v,h1,h2⟩:=h.at_ i hi;exact ⟨v,(g.cell (p:=⟨rb,_,none⟩) h.lb).trans h1,h2.gr g⟩⟩
def Lv (w:World) (v:Value) (rs:List (List Sv.Val)):Prop:=(v = .slice none 0 0/\rs = [])\/∃ b off c,v = .slice (some ⟨b,off,none⟩) rs.length c/\Ln w b off rs
theorem Lv.gr {w w' : World} {v:Value} {rs:List (List Sv.Val)} (h:Lv w v rs) (g:Gr w w'):Lv w' v rs:=by
 rcases h with h | ⟨b,off,c,e,hl⟩
 ·exact .inl h
 ·exact .inr ⟨b,off,c,e,hl.gr g⟩
theorem Hq (us vs:List Sv.Val) (a b:Value) (w:World) (h1:us.length<=100000) (h2:vs.length<=100000) (ha:Rn w a us) (hb:Rn w b vs) :
  Calls Tryz.prog 36 #[a,b] w λe w'=>e = .returned (.bool (decide (us=vs)))/\Gr w w':=by
 obtain ⟨_,_,_,rfl,hu⟩:=ha
 obtain ⟨_,_,_,rfl,hv⟩:=hb
 exact Kj _ _ _ _ _ _ _ _ us vs w rfl rfl h1 h2 hu hv
def cnt (rs:List (List Sv.Val)) (r:List Sv.Val):Nat:=(rs.filter λx=>decide (x=r)).length
theorem Kk (rs:List (List Sv.Val)) (r:List Sv.Val) (k:Nat) (h:k<rs.length):cnt (rs.take (k+1)) r=cnt (rs.take k) r+(if rs[k]=r then 1 else 0):=by
 unfold cnt
 rw [uV h,List.filter_append,List.length_append]
 congr 1
 by_cases e:rs[k]=r <;> simp [e]
theorem cnt_le (rs:List (List Sv.Val)) (r:List Sv.Val):cnt rs r<=rs.length:=List.length_filter_le _ _
theorem eT (rs:List (List Sv.Val)) (r:List Sv.Val) (a b:Value) (w:World) (h1:rs.length<=100000) (h2:∀ x∈rs,x.length<=100000) (h3:r.length<=100000) (ha:Lv w a rs) (hb:Rn w b r) :
  Calls Tryz.prog 24 #[a,b] w λe w'=>e = .returned (.int .i64 (cnt rs r))/\Gr w w':=by
 have HB:=hid hb
 clear hb
 rcases ha with ⟨rfl,rfl⟩ | ⟨rb,ro,c,rfl,hl⟩
 ·obtain ⟨_,_,_,rfl,_⟩:=HB.out
  go_enter Tryz.func24,Tryz.ntmps24
  go_wp2
  go_loop [5,6] (λn i=>i = .int .i64 0/\n = .int .i64 0) (λ_ _=>0)
  case atStart=>exact ⟨rfl,rfl⟩
  case round=>
   obtain ⟨rfl,rfl⟩:=hrel
   go_wp2
   go_ret
   exact ⟨rfl,Gr.refl _⟩
 ·have HL:=hid hl
  clear hl
  have HS:Hid (∀ (a' : Value) (us:List Sv.Val) (w' : World),us.length<=100000->Rn w' a' us->Rn w' b r->Calls Tryz.prog 36 #[a',b] w' λe w''=>e = .returned (.bool (decide (us=r)))/\Gr w' w''):=λa' us w' hu ha' hb'=>Hq us r a' b w' hu h3 ha' hb'
  have HC:Hid (∀ k,(h:k<rs.length)->cnt (rs.take (k+1)) r=cnt (rs.take k) r+(if rs[k]=r then 1 else 0)):=λk h=>Kk rs r k h
  have HD:Hid (∀ k,cnt (rs.take k) r<=k):=λk=>cE (cnt_le _ _) (by simp;omega)
  have HQ:Hid (cnt (rs.take rs.length) r=cnt rs r):=by show _=_;rw [List.take_length]
  have HW:Hid (∀ k,(h:k<rs.length)->rs[k].length<=100000):=λk h=>h2 _ (jD h)
  have HZ:Hid (rs.length=rs.length):=rfl
  generalize hN:rs.length=N at h1 HZ HQ ⊢
  have HN:=hid hN
  clear hN HZ
  generalize hq:cnt rs r=total at HQ ⊢
  clear hq h2 h3
  obtain ⟨b1,b2,b3,hbe,_⟩:=HB.out
  have HBE:=hid hbe
  clear hbe
  go_enter Tryz.func24,Tryz.ntmps24
  go_wp2
  go_loopw [5,6] (λt i wr=>∃ k m:Nat,k<=N/\i = .int .i64 k/\t = .int .i64 m/\m<=k/\Hid (m=cnt (rs.take k) r)/\Hid (Gr w wr)) (λ_ i _=>N - (intOf i).toNat)
  case atStart=>exact ⟨0,0,fO _,rfl,rfl,aF _,by show _=_;simp [cnt],Gr.refl _⟩
  case round=>
   obtain ⟨k,m,hk,rfl,rfl,hmk,HR,HG⟩:=hrel
   by_cases hlt:k<N
   ·have hkz:k<rs.length:=by have:=HN.out;omega
    obtain ⟨v,hc,hv⟩:=(HL.out.gr HG.out).at_ k hkz
    have hs:=HS.out v rs[k] wr (HW.out k hkz) hv (HB.out.gr HG.out)
    have Pw:=HC.out k hkz
    clear hv
    by_cases e:rs[k]=r
    ·have HM:Hid (m+1=cnt (rs.take (k+1)) r):=by show _=_;rw [Pw,if_pos e,HR.out]
     rw [decide_eq_true e] at hs
     clear Pw e
     have NE:Hid (Calls Tryz.prog 36 #[v,b] wr λe w''=>e = .returned (.bool true)/\Gr wr w''):=hs
     clear hs
     go_wp2_with (go_at_call 36;refine NE.out.mono ?_;rintro e w' ⟨rfl,hg⟩)
     have uW:=hid hg
     clear hg
     go_wp2_with fail
     go_roundw
     case rel=>exact ⟨k+1,m+1,by omega,by go_num,by go_num,by omega,HM,HG.out.trans uW.out⟩
     case measure=>simp [intOf];omega
    ·have HM:Hid (m=cnt (rs.take (k+1)) r):=by show _=_;rw [Pw,if_neg e,HR.out];rfl
     rw [decide_eq_false e] at hs
     clear Pw e
     have NE:Hid (Calls Tryz.prog 36 #[v,b] wr λe w''=>e = .returned (.bool false)/\Gr wr w''):=hs
     clear hs
     go_wp2_with (go_at_call 36;refine NE.out.mono ?_;rintro e w' ⟨rfl,hg⟩)
     have uW:=hid hg
     clear hg
     go_wp2_with fail
     go_roundw
     case rel=>exact ⟨k+1,m,by omega,by go_num,rfl,by omega,HM,HG.out.trans uW.out⟩
     case measure=>simp [intOf];omega
   ·have hkN:k=N:=by omega
    subst hkN
    have HF:Hid (m=total):=HR.out.trans HQ.out
    go_wp2
    go_ret
    exact ⟨congrArg (λr:Nat=>Ending.returned (.int .i64 r)) HF.out,HG.out⟩
def US (k n:Int) (s:ByteArray) (k' n' : Int) (s' : ByteArray):Bool:=
 if k != k' then decide (k<k') else if n != n' then decide (n<n') else Op.bytesLess s.toList s'.toList
def Rr:List Sv.Val->List Sv.Val->Bool
 | [],_=>false
 | _::_, []=>false
 | a::l,b::m=>if a=b then Rr l m else US a.k a.n a.s b.k b.n b.s
structure Bag (ls ws:List (List Sv.Val)):Prop where
 len:ls.length=ws.length
 cnt:∀ i,(h:i<ls.length)->cnt ls ls[i]=cnt ws ls[i]
 ord:∀ i,(h:i+1<ls.length)->Rr ls[i+1] ls[i]=false
open Go.RowKit
def pk (c n:Int):Int:=(if c<0 then -(c+1) else c) % n
theorem CC (c n:Int) (hn:0<n):0<=pk c n/\pk c n<n:=⟨Int.emod_nonneg _ (by omega),Int.emod_lt_of_pos _ hn⟩
theorem pick_any (c n:Int) (w:World) (hc:-9223372036854775808<=c) (hc2:c<=9223372036854775807) (hn:0<n) (hn2:n<=1000) :
  Calls Tryz.prog 22 #[.int .i64 c, .int .i64 n] w λe w'=>e = .returned (.int .i64 (pk c n))/\w'=w:=by
 by_cases h:c<0
 ·have E:Hid (pk c n=-((c+1).tmod n)):=by
   show _=_
   simp only [pk,h,if_true]
   rw [<- Int.neg_tmod,Int.tmod_eq_emod_of_nonneg (by omega)]
  go_enter Tryz.func22,Tryz.ntmps22
  go_wp2
  go_ret
  exact ⟨aP E.out.symm,rfl⟩
 ·have E:Hid (pk c n=c % n):=by
   show _=_
   simp only [pk,h,if_false]
  go_enter Tryz.func22,Tryz.ntmps22
  go_wp2
  go_ret
  exact ⟨aP E.out.symm,rfl⟩
theorem uO (n:Int) (w:World) (h0:0<=n) (h1:n<10) :
  Calls Tryz.prog 23 #[.int .i64 n] w λe w'=>e = .returned (.string ⟨#[UInt8.ofNat (48+n.toNat)]⟩)/\Gr w w':=by
 go_enter Tryz.func23,Tryz.ntmps23
 have hcv:=run_convert_bytes_arg (P:=Tryz.prog) (w.alloc (.cells #[.int .u8 (48+n % 10)] 5)) 88 5 Tryz.underlying88 Tryz.underlying5 w.heap.size 0 1 1 [48+n % 10] rfl (λi hi=>by
  obtain rfl:i=0:=by omega
  simp) 9 Tryz.underlying9
 have HE:Hid (strOfNums [48+n % 10]=⟨#[UInt8.ofNat (48+n.toNat)]⟩):=by
  show _=_
  have:(48+n % 10).toNat=48+n.toNat:=by omega
  simp [strOfNums,this]
 generalize strOfNums [48+n % 10]=r at hcv HE
 go_wp2_with fail
 go_ret
 exact ⟨congrArg (λr=>Ending.returned (.string r)) HE.out,(Gr.refl w).alloc _⟩
def vV:List UInt8->List UInt8
 | [] => []
 | c::l=>if c == 39 then 39::39::vV l else c::vV l
theorem Ap:∀ (a b:List UInt8),vV (a++b)=vV a++vV b
 | [],b=>rfl
 | c::a,b=>by
  simp only [List.cons_append,vV]
  split <;> simp [Ap a b]
theorem Aq:∀ l:List UInt8,(vV l).length<=2*l.length
 | []=>by simp [vV]
 | c::l=>by
  have:=Aq l
  simp only [vV]
  split <;> simp <;> omega
theorem size_of_list {r:ByteArray} {l:List UInt8} (h:r.toList=l):r.size=l.length:=by
 rw [<- h,pD];simp
theorem ext1 (s:ByteArray) (k:Nat) (h:k<s.size):(s.extract k (k+1)).toList = [s[k]]:=by
 rw [pD,Lib.extract_data]
 have hk:k<s.data.toList.length:=by simpa using h
 rw [nS hk]
 simp
 rfl
theorem gQ (a b:ByteArray):(a++b).toList=a.toList++b.toList:=by
 simp only [pD]
 simp
theorem uP (s:ByteArray) (w:World) (hs:s.size<=1000) :
  Calls Tryz.prog 20 #[.string s] w λe w'=>(∃ r:ByteArray,e = .returned (.string r)/\r.toList=39::vV s.toList ++ [39])/\w'=w:=by
 go_enter Tryz.func20,Tryz.ntmps20
 go_wp2
 go_loop [3,4] (λo i=>∃ (k:Nat) (r:ByteArray),k<=s.size/\i = .int .i64 k/\o = .string r/\r.size<=2*k+1/\Hid (r.toList=39::vV (s.toList.take k))) (λ_ i=>s.size - (intOf i).toNat)
 case atStart=>exact ⟨0,_,fO _,rfl,rfl,by decide,by show _=_;rw [List.take_zero,pD];rfl⟩
 case round=>
  obtain ⟨k,r,hk,rfl,rfl,hrs,HR⟩:=hrel
  by_cases hlt:k<s.size
  ·have HE:Hid ((s.extract k (k+1)).toList = [s[k]]):=ext1 s k hlt
   have HZ:(s.extract k (k+1)).size=1:=size_of_list HE.out
   have HT:Hid (s.toList.take (k+1)=s.toList.take k ++ [s[k]]):=by
    show _=_
    have hk' : k<s.toList.length:=by rw [<- size_of_list rfl];exact hlt
    rw [uV hk']
    congr 2
    simp [pD];rfl
   have hu:=rJ s[k] 39
   have hu' : ((s[k].toNat:Int) == 39)=(s[k] == 39):=hu
   clear hu
   cases hq:(s[k] == 39)
   ·have hq2:((s[k].toNat:Int) == 39)=false:=hu'.trans hq
    have HN:Hid ((r++s.extract k (k+1)).toList=39::vV (s.toList.take (k+1))):=by
     show _=_;rw [gQ,HR.out,HE.out,HT.out,Ap];simp [vV,hq]
    have HS:(r++s.extract k (k+1)).size<=2*(k+1)+1:=by rw [ByteArray.size_append,HZ];omega
    clear hu' hq
    go_wp2
    go_round
    case rel=>exact ⟨k+1,_,by omega,by go_num,rfl,HS,HN⟩
    case measure=>simp [intOf];omega
   ·have hq2:((s[k].toNat:Int) == 39)=true:=hu'.trans hq
    have HN:Hid ((r++s.extract k (k+1)++(⟨#[39]⟩:ByteArray)).toList=39::vV (s.toList.take (k+1))):=by
     show _=_
     have e39:(⟨#[39]⟩:ByteArray).toList = [39]:=by rw [pD]
     have e:s[k]=39:=eq_of_beq hq
     rw [gQ,gQ,HR.out,HE.out,HT.out,Ap,e39,e];simp [vV]
    have HS:(r++s.extract k (k+1)++(⟨#[39]⟩:ByteArray)).size<=2*(k+1)+1:=by rw [ByteArray.size_append,ByteArray.size_append,HZ];show _+_+1<=_;omega
    have VB:(r++s.extract k (k+1)).size<=2*(k+1):=by rw [ByteArray.size_append,HZ];omega
    clear hu' hq
    go_wp2
    go_round
    case rel=>exact ⟨k+1,_,by omega,by go_num,rfl,HS,HN⟩
    case measure=>simp [intOf];omega
  ·have HN:Hid ((r++(⟨#[39]⟩:ByteArray)).toList=39::vV s.toList ++ [39]):=by
    show _=_
    have e39:(⟨#[39]⟩:ByteArray).toList = [39]:=by rw [pD]
    have hk' : k=s.size:=by omega
    rw [gQ,HR.out,e39,hk',sD (by rw [<- size_of_list rfl];exact aF _)]
   go_wp2
   go_ret
   exact ⟨⟨_,rfl,HN.out⟩,rfl⟩
end Go.Proofs.YtgnncnhkgmhngaaGreatDoor
