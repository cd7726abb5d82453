import Derived.Test.YtgnncnhkgmhngaaGreatDoorJ11
set_option maxHeartbeats 4000000
set_option maxRecDepth 100000
namespace Go.Proofs.YtgnncnhkgmhngaaGreatDoor
open Go.RowKit Go.Sort
def prodTo (lv:Sp.Lv) (p:Nat):Nat:=lv.foldl (fun q x=>min (q*max 1 x.2.rows.length) 1001) p
theorem prod_step (lv:Sp.Lv) (i p:Nat) (h:i<lv.length):prodTo (lv.drop i) p=prodTo (lv.drop (i+1)) (min (p*max 1 lv[i].2.rows.length) 1001):=by
 rw [List.drop_eq_getElem_cons h];rfl
theorem product_cons (lv:Sp.Lv) (r:List Sp.Lv) (p:Nat):Sp.product (lv::r) p=Sp.product r (prodTo lv p):=rfl
theorem noteMuch_any {cb k m:Nat} {tv:Value} {c:Sp.CS} {w:World} (h:CB cb tv c w) (hkw:k<=w.heap.size) {lvs:List Sp.Lv} {iv:Value} (hs:Scp k m w lvs iv) :
  Calls Tryz.prog 262 #[.pointer (some ⟨cb,0,none⟩),iv] w fun r w'=>r = .returned (.tuple #[])/\CB cb tv (c.note lvs) w'/\Kept cb w w':=by
 have HH:=hid h
 have HS:=hid hs
 have hkw':=hid hkw
 obtain ⟨ia,rfl⟩:=hs.ptr
 clear h hs hkw
 go_enter Tryz.func262,Tryz.ntmps262
 go_wp2_with fail
 go_loopg [1,4] lvs.length (fun gm iv pv wr=>∃ (rest:List Sp.Lv) (p:Nat),gm=rest.length/\pv = .int .i64 (p:Nat)/\p<=1001/\Hid (Gr w wr)/\Hid (Scp k m wr rest iv)/\Hid (Sp.product lvs 1=Sp.product rest p))
 case atStart=>exact ⟨lvs,1,rfl,rfl,by omega,Gr.refl _,HS,rfl⟩
 case round=>
  obtain ⟨rest,p,rfl,rfl,hp,HG,HSr,HP⟩:=hrel
  cases rest with
  | nil=>
   have e:=HSr.out
   simp only [Scp] at e
   subst e
   have HP' : Hid (Sp.product lvs 1=p):=HP.out
   have H1:Hid (CB cb tv c wr):=HH.out.gr HG.out
   obtain ⟨lt,b0,b1,b2,b3,fz⟩:=HH.out.gr HG.out
   have f3:=fz 3
   have FZ:=hid fz
   clear fz HSr HP
   by_cases hm:1000<p
   ·have HN:Hid (c.note lvs={ c with much:=true }):=by show _=_;simp only [Sp.CS.note,HP'.out];rw [if_pos hm]
    go_wp2_with fail
    go_end0
    refine ⟨rfl,?_,(Kept.gr HG.out).trans ((Kept.refl cb wr).setCell 3 _)⟩
    rw [HN.out]
    exact ⟨by simpa [World.setCell] using lt,by go_simp,by go_simp,by go_simp,by go_simp,fun o=>by have:=FZ.out o;go_simp⟩
   ·have HN:Hid (c.note lvs=c):=by show _=_;simp only [Sp.CS.note,HP'.out];rw [if_neg hm]
    go_wp2_with fail
    go_end0
    exact ⟨rfl,by rw [HN.out];exact H1.out,Kept.gr HG.out⟩
  | cons lv r=>
   obtain ⟨sb,sv,ov,rfl,hb,hl,c0,c1,hsv,hr⟩:=HSr.out
   have HR:=hid hr
   obtain ⟨oa,rfl⟩:=hr.ptr
   have hln:=hsv.1
   rcases hsv.2 with ⟨rfl,rfl⟩ | ⟨b,q,rfl,hbm,hsr⟩
   ·clear HSr hr hsv
    go_wp2_with fail
    go_loopw [4,18] (fun pv i w2=>pv = .int .i64 (p:Nat)/\i = .int .i64 0/\wr=w2) (fun _ _ _=>0)
    case atStart=>exact ⟨rfl,rfl,rfl⟩
    case round=>
     obtain ⟨rfl,rfl,rfl⟩:=hrel
     go_wp2_with fail
     go_roundg r.length
     case measure=>simp
     case rel=>exact ⟨r,p,rfl,rfl,hp,HG,HR,HP.out⟩
   ·have HV:=hid hsr
    obtain ⟨N,hN⟩:∃ N,N=lv.length:=⟨_,rfl⟩
    have HN:=hid hN
    rw [<- hN] at hln c0
    clear HSr hr hsv hsr hN
    go_wp2_with fail
    go_loopw [4,18] (fun pv i w2=>∃ j q:Nat,j<=N/\i = .int .i64 (j:Nat)/\pv = .int .i64 (q:Nat)/\q<=1001/\Hid (prodTo lv p=prodTo (lv.drop j) q)/\Hid (Gr wr w2)) (fun _ i _=>N - (intOf i).toNat)
    case atStart=>exact ⟨0,p,Nat.zero_le _,rfl,rfl,hp,rfl,Gr.refl _⟩
    case round=>
     obtain ⟨j,q,hj,rfl,rfl,hq,HQ,HG2⟩:=hrel
     by_cases hlt:j<N
     ·have hjz:j<lv.length:=by have:=HN.out;omega
      obtain ⟨⟨tn,ca,cl,cc,ra,rl,rc⟩,d0,d1,d2,d3,ht⟩:=(HV.out.same (Nat.le_trans hkw'.out HG.out.size) (Low.of_gr HG2.out) (HG2.out.below.block b HV.out.lb)).at_ j hjz
      have hrl:rl=lv[j].2.rows.length:=ht.rl
      have hrn:lv[j].2.rows.length<=1000:=ht.rowN
      have HS':=prod_step lv j q hjz
      rw [<- hrl] at HS' hrn
      have HS1:Hid (prodTo lv p=prodTo (lv.drop (j+1)) (min (q*max 1 rl) 1001)):=by show _=_;rw [HQ.out,HS']
      generalize bz lv[j].1=cn at d0
      clear ht hrl HS' HQ
      have hmul:q*max 1 rl<=1001*1000:=Nat.mul_le_mul hq (by omega)
      go_wp2_with fail
      have hz:(max 1 (rl:Int))=((max 1 rl:Nat):Int):=by omega
      have hw:wrap64 ((q:Int)*max 1 (rl:Int))=((q*max 1 rl:Nat):Int):=by
       rw [hz,<- Int.natCast_mul]
       unfold wrap64;omega
      go_roundw
      case rel=>exact ⟨j+1,min (q*max 1 rl) 1001,by omega,by go_num,by rw [hw];congr 1;omega,by omega,HS1,HG2.out.alloc _⟩
      case measure=>simp [intOf];omega
     ·have HE:Hid (prodTo lv p=q):=by show _=_;rw [HQ.out,List.drop_of_length_le (by have:=HN.out;omega)];rfl
      have c1':=(HG2.out.cell (p:=⟨sb,1,none⟩) hl).trans c1
      go_wp2_with fail
      go_roundg r.length
      case measure=>simp
      case rel=>exact ⟨r,q,rfl,rfl,hq,HG.out.trans HG2.out,HR.out.ou (Nat.le_trans hkw'.out HG.out.size) (Ou.gr HG2.out),by show _=_;rw [HP.out,product_cons,HE.out]⟩
abbrev enI (l:List Int):List Value:=l.map fun x => .int .i64 x
theorem enI_snoc (l:List Int) (x:Int):enI l ++ [.int .i64 x]=enI (l ++ [x]):=by simp [enI]
theorem enI_one (x:Int):∀ u∈([.int .i64 x]:List Value),u.oneCell'=true:=fun u hu=>by simp at hu;subst hu;rfl
theorem new1e {w:World} (x:Value) (t:TypeId) {n:Nat} (h:w.heap.size=n):∀ j u, [x][j]?=some u->(w.alloc (.cells #[x] t)).cell? (Addr.add ⟨n,0,none⟩ j)=some u:=by subst h;exact new1 w x t
def OwI (base:Nat) (w:World) (v:Value) (l:List Int):Prop:=w.ownsRow base 3 1 v l.length (enI l)
theorem OwI.nil (base:Nat) (w:World):OwI base w (.slice none 0 0) []:=World.ownsRow_nil _ _ _ _
theorem OwI.si {base:Nat} {w:World} {v:Value} {l:List Int} (h:OwI base w v l):Si w v l:=si_of_owns h
theorem OwI.below {base:Nat} {w w' : World} {v:Value} {l:List Int} (h:OwI base w v l) (g:Below w.heap.size w w'):OwI base w' v l:=ownsV_below h g
theorem OwI.alloc {base:Nat} {w:World} {v:Value} {l:List Int} (h:OwI base w v l) (o:Obj):OwI base (w.alloc o) v l:=h.below ((Below.refl _ w).alloc (Nat.le_refl _) _)
theorem OwI.same {base:Nat} {w w' : World} {v:Value} {l:List Int} (h:OwI base w v l) (hk:∀ b,v.ownBlock=some b->w'.heap[b]?=w.heap[b]?):OwI base w' v l:=by
 obtain ⟨hl,h | ⟨g,cap,cur,hv,h0,hb,r⟩⟩:=h
 ·exact ⟨hl, .inl h⟩
 ·subst hv;exact ⟨hl, .inr ⟨g,cap,cur,rfl,h0,(hk g rfl).trans hb,r⟩⟩
theorem OwI.fresh {base:Nat} {w:World} {v:Value} {l:List Int} (h:OwI base w v l):∀ b off n c,v = .slice (some ⟨b,off,none⟩) n c->base<=b:=by
 intro b off n c e
 exact (ownsV_block h b (by rw [e];rfl)).1
theorem OwI.sl {base:Nat} {w:World} {v:Value} {l:List Int} (h:OwI base w v l):∃ a c,v = .slice a l.length c:=h.si.shape
def tysF (lv:Sp.Lv):List Int:=lv.flatMap fun x=>x.2.cols.map (·.2)
theorem tysF_snoc (lv:Sp.Lv) (i:Nat) (h:i<lv.length):tysF (lv.take (i+1))=tysF (lv.take i)++lv[i].2.cols.map (·.2):=by
 rw [List.take_succ_eq_append_getElem h,tysF,List.flatMap_append];simp [tysF]
theorem tysF_len (lv:Sp.Lv) (h:∀ x∈lv,x.2.cols.length<=50):∀ i,(tysF (lv.take i)).length<=i*50:=by
 intro i
 induction i with
 | zero=>simp [tysF]
 | succ i ih=>
  by_cases hi:i<lv.length
  ·rw [tysF_snoc lv i hi,List.length_append,List.length_map]
   have:=h _ (List.getElem_mem hi)
   omega
  ·rw [List.take_of_length_le (by omega)];rw [List.take_of_length_le (by omega)] at ih;omega
theorem types_any {k m sb:Nat} {lv:Sp.Lv} {sv:Value} {w:World} (hkw:k<=w.heap.size) (hsb:sb<w.heap.size) (c0:w.cell? ⟨sb,0,none⟩=some sv) (hl:Svs k m w lv sv) :
  Calls Tryz.prog 263 #[.pointer (some ⟨sb,0,none⟩)] w fun e w'=>∃ v,e = .returned v/\OwI w.heap.size w' v (tysF lv)/\Below w.heap.size w w':=by
 obtain ⟨i0,ji,jz0,jz1,jz2⟩:=info_parts infoInt
 have hln:=hl.1
 rcases hl.2 with ⟨rfl,rfl⟩ | ⟨b,q,rfl,hbm,hsr⟩
 ·clear hl
  go_enter Tryz.func263,Tryz.ntmps263
  go_wp2_with fail
  go_loopw [3,13] (fun v i wr=>v = .slice none 0 0/\i = .int .i64 0/\wr=w) (fun _ _ _=>0)
  case atStart=>exact ⟨rfl,rfl,rfl⟩
  case round=>
   obtain ⟨rfl,rfl,rfl⟩:=hrel
   go_wp2_with fail
   go_ret
   exact ⟨_,rfl,OwI.nil _ _,Below.refl _ _⟩
 ·have HV:=hid hsr
  obtain ⟨N,hN⟩:∃ N,N=lv.length:=⟨_,rfl⟩
  have HN:=hid hN
  have hkw':=hid hkw
  rw [<- hN] at hln c0
  have HL:Hid (∀ i,i<=N->(tysF (lv.take i)).length<=i*50):=fun i _=>tysF_len lv (fun x hx=>by
   obtain ⟨j,hj,rfl⟩:=List.getElem_of_mem hx
   obtain ⟨tv,_,_,_,_,ht⟩:=hsr.at_ j hj
   exact ht.colN) i
  clear hl hsr hN hkw
  go_enter Tryz.func263,Tryz.ntmps263
  go_wp2_with fail
  go_loopw [3,13] (fun v i wr=>∃ j:Nat,j<=N/\i = .int .i64 (j:Nat)/\Hid (OwI w.heap.size wr v (tysF (lv.take j)))/\Hid (Below w.heap.size w wr)) (fun _ i _=>N - (intOf i).toNat)
  case atStart=>exact ⟨0,Nat.zero_le _,rfl,OwI.nil _ _,Below.refl _ _⟩
  case round=>
   obtain ⟨j,hj,rfl,HO,HB⟩:=hrel
   by_cases hlt:j<N
   ·have hjz:j<lv.length:=by have:=HN.out;omega
    obtain ⟨⟨tn,ca,cl,cc,ra,rl,rc⟩,d0,d1,d2,d3,ht⟩:=(HV.out.same hkw'.out (Ou.low (k:=k) (m:=0) (Ou.below HB.out)) (HB.out.block b HV.out.lb)).at_ j hjz
    have HT:Hid (tysF (lv.take (j+1))=tysF (lv.take j)++lv[j].2.cols.map (·.2)):=tysF_snoc lv j hjz
    have hL:=HL.out j hj
    have hcn:=ht.colN
    have hcb:=ht.cols
    generalize bz lv[j].1=cn at d0
    generalize lv[j].2.cols=cols at HT hcn hcb
    generalize tysF (lv.take j)=L at HO HT hL
    clear ht
    rcases hcb with ⟨rfl,e1,e2,e3⟩ | ⟨cbk,cof,e1,e2,hck,hcols⟩
    ·simp only [] at e1 e2 e3
     subst e1 e2 e3
     have HT' : Hid (tysF (lv.take (j+1))=L):=by show _=_;rw [HT.out];simp
     go_wp2_with fail
     go_loopw [3,21] (fun v i w2=>v=u3/\i = .int .i64 0/\w2=wr.alloc (.cells #[.string cn, .string tn, .slice none 0 0, .slice ra rl rc] 314)) (fun _ _ _=>0)
     case atStart=>exact ⟨rfl,rfl,rfl⟩
     case round=>
      obtain ⟨rfl,rfl,rfl⟩:=hrel
      go_wp2_with fail
      go_roundw
      case rel=>exact ⟨j+1,by omega,by go_num,by rw [HT'.out];exact HO.out.alloc _,HB.out.alloc HB.out.size _⟩
      case measure=>simp [intOf];omega
    ·simp only [] at e1 e2
     subst e1
     have HC:=hid hcols
     have HCL:=hid e2
     have hck' : cbk<w.heap.size:=by have:=hkw'.out;omega
     clear hcols
     rw [<- e2] at hcn
     clear e2
     go_wp2_with fail
     go_loopw [3,21] (fun v i w2=>∃ q:Nat,q<=cl/\i = .int .i64 (q:Nat)/\Hid (OwI w.heap.size w2 v (L++(cols.take q).map (·.2)))/\Hid (Below w.heap.size w w2)) (fun _ i _=>cl - (intOf i).toNat)
     case atStart=>exact ⟨0,Nat.zero_le _,rfl,by show OwI _ _ _ _;simpa using HO.out.alloc _,HB.out.alloc HB.out.size _⟩
     case round=>
      obtain ⟨q,hq,rfl,HO2,HB2⟩:=hrel
      by_cases hlt2:q<cl
      ·have hqz:q<cols.length:=by have:=HCL.out;omega
       have f0:=(HB2.out.cell (p:=⟨cbk,cof+q*2,none⟩) hck').trans ((HB.out.cell (p:=⟨cbk,cof+q*2,none⟩) hck').symm.trans (HC.out.n q (by simpa using hqz)))
       have f1:=(HB2.out.cell (p:=⟨cbk,cof+q*2+1,none⟩) hck').trans ((HB.out.cell (p:=⟨cbk,cof+q*2+1,none⟩) hck').symm.trans (HC.out.t q (by simpa using hqz)))
       simp only [List.getElem_map] at f0 f1
       have HX:Hid (L++(cols.take (q+1)).map (·.2)=(L++(cols.take q).map (·.2)) ++ [cols[q].2]):=by show _=_;rw [List.take_succ_eq_append_getElem hqz,List.map_append,List.append_assoc];rfl
       have hlen:(L++(cols.take q).map (·.2)).length<=60000:=by have:=HCL.out;rw [List.length_append,List.length_map,List.length_take];omega
       generalize bz cols[q].1=fn at f0
       generalize cols[q].2=ft at f1 HX
       generalize L++(cols.take q).map (·.2)=M at HO2 HX hlen
       go_wp2_with (at_builtin;go_must (refine wpList_append_own _ rfl (.tmp 25) (.tmp 28) 206 rfl w.heap.size 3 i0 (.int .i64 0) 1 8 Tryz.underlying206 ji jz0 jz1 jz2 rfl (by decide) _ _ _ rfl ((HO2.out.alloc _).alloc _) ⟨_,0,none⟩ 1 1 [.int .i64 ft] rfl rfl (new1e _ _ (by simp)) (enI_one _) ?c3 ?c4 ?c5 ?_))
       case c3=>unfold maxLen;omega
       case c4=>omega
       case c5=>have:=HB2.out.size;simp;omega
       intro v' w3 hown hgrow _
       have HO3:Hid (OwI w.heap.size w3 v' (L++(cols.take (q+1)).map (·.2))):=by
        show OwI _ _ _ _
        rw [HX.out]
        rw [enI_snoc] at hown
        simpa [OwI] using hown
       have HB3:Hid (Below w.heap.size w w3):=((HB2.out.alloc HB2.out.size _).alloc (by have:=HB2.out.size;simp;omega) _).grown hgrow (by have:=HB2.out.size;simp;omega) (fun q e=>(ownsV_block HO2.out q e).1)
       clear hown hgrow
       go_wp2_with fail
       go_roundw
       case rel=>exact ⟨q+1,by omega,by go_num,HO3,HB3⟩
       case measure=>simp [intOf];omega
      ·have HE:Hid (L++(cols.take q).map (·.2)=tysF (lv.take (j+1))):=by show _=_;rw [HT.out,List.take_of_length_le (by have:=HCL.out;omega)]
       go_wp2_with fail
       go_roundw
       case rel=>exact ⟨j+1,by omega,by go_num,by rw [<- HE.out];exact HO2.out,HB2⟩
       case measure=>simp [intOf];omega
   ·have HE:Hid (tysF (lv.take j)=tysF lv):=by show _=_;rw [List.take_of_length_le (by have:=HN.out;omega)]
    go_wp2_with fail
    go_ret
    exact ⟨_,rfl,by rw [<- HE.out];exact HO.out,HB.out⟩
theorem cellOf_lt (x:Sp.Bs):∀ l,Sp.cellOf x l=-1\/(0<=Sp.cellOf x l/\Sp.cellOf x l<l.length)
 | [] => .inl rfl
 | c::l=>by
  rw [Sp.cellOf]
  rcases cellOf_lt x l with h | h
  ·split
   ·exact .inr ⟨by omega,by simp⟩
   ·left;simp [h]
  ·split
   ·exact .inr ⟨by omega,by simp⟩
   ·right;rw [if_neg (by omega)];simp;omega
theorem cellFrom_of (x:Sp.Bs):∀ (l:List (Sp.Bs×Int)) (k:Nat),cellFrom x k (l.map fun y=>(bz y.1,y.2))=if Sp.cellOf x l<0 then -1 else Sp.cellOf x l+k
 | [],k=>rfl
 | c::l,k=>by
  have ih:=cellFrom_of x l (k+1)
  have hb:=cellOf_lt x l
  obtain ⟨z,hz⟩:∃ z,z=Sp.cellOf x (c::l):=⟨_,rfl⟩
  rw [<- hz]
  rw [Sp.cellOf] at hz
  simp only [List.map_cons,cellFrom,bz_list]
  rw [ih]
  by_cases hx:(c.1 == x)=true
  ·rw [if_pos hx] at hz ⊢;subst hz;simp
  ·rw [if_neg hx] at hz ⊢
   rcases hb with h | h
   ·rw [h] at hz ⊢;simp at hz;subst hz;simp
   ·rw [if_neg (by omega)] at hz ⊢;subst hz;rw [if_neg (by omega)];omega
theorem cellNo_of (x:Sp.Bs) (l:List (Sp.Bs×Int)):cellNo x (l.map fun y=>(bz y.1,y.2))=Sp.cellOf x l:=by
 have h:=cellFrom_of x l 0
 have hb:=cellOf_lt x l
 unfold cellNo
 rw [h]
 rcases hb with h | h
 ·simp [h]
 ·rw [if_neg (by omega)];simp
theorem colIndex_nil (g:Value) (w:World) :
  Calls Tryz.prog 218 #[.slice none 0 0,g] w fun e w'=>e = .returned (.int .i64 (-1))/\w'=w:=by
 go_enter Tryz.func218,Tryz.ntmps218
 go_wp2
 go_loopw [8] (fun i wr=>i = .int .i64 0/\wr=w) (fun _ _=>0)
 case atStart=>exact ⟨rfl,rfl⟩
 case round=>
  obtain ⟨rfl,rfl⟩:=hrel
  go_wp2_with fail
  go_ret
  exact ⟨rfl,rfl⟩
theorem tcell_nil (tn:ByteArray) (ra:Option Addr) (rl rc:Nat) (x:ByteArray) (w:World) :
  Calls Tryz.prog 178 #[.agg #[.string tn, .slice none 0 0, .slice ra rl rc], .string x] w fun e w'=>e = .returned (.int .i64 (-1))/\Gr w w':=by
 have G0:Hid (Gr w ((w.alloc (.cells #[.string tn, .slice none 0 0, .slice ra rl rc] 187)).alloc (.cells #[.string x] 9))):=((Gr.refl w).alloc _).alloc _
 go_enter Tryz.func178,Tryz.ntmps178
 go_wp2_with fail
 refine Calls.mono (colIndex_nil _ _) ?_
 rintro e w2 ⟨rfl,rfl⟩
 go_wp2_with fail
 go_ret
 exact ⟨rfl,G0.out⟩
theorem tcellT_any {k:Nat} {w:World} {t:Sp.Tb} {tv:TV} (h:Tb1 k w t tv) (x:Sp.Bs) :
  Calls Tryz.prog 178 #[enT tv, .string (bz x)] w fun e w'=>e = .returned (.int .i64 (Sp.cellOf x t.cols))/\Gr w w':=by
 rcases h.cols with ⟨e,h1,h2,h3⟩ | ⟨b,off,h1,h2,h3,h4⟩
 ·obtain ⟨tn,ca,cl,cc,ra,rl,rc⟩:=tv
  simp only [] at h1 h2 h3
  subst h1 h2 h3
  rw [e]
  exact tcell_nil tn ra rl rc (bz x) w
 ·have:=tcell_any tv b off _ (bz x) w h1 (by rw [h2,List.length_map]) (by rw [List.length_map];have:=h.colN;omega) h4
  rw [bz_list,cellNo_of] at this
  exact this
def isFor (tbl name:Sp.Bs) (x:Sp.Bs×Sp.Tb):Bool:=tbl == x.1||(tbl == []&&decide (0<=Sp.cellOf name x.2.cols))
def forTo (tbl name:Sp.Bs) (lv:Sp.Lv) (j:Nat):List Nat:=(List.range j).filter fun i=>match lv[i]? with | some x=>isFor tbl name x | none=>false
theorem forTo_all (tbl name:Sp.Bs) (lv:Sp.Lv):forTo tbl name lv lv.length=Sp.tablesFor tbl name lv:=by
 unfold forTo Sp.tablesFor isFor
 congr 1
 funext i
 cases lv[i]? <;> rfl
theorem forTo_len (tbl name:Sp.Bs) (lv:Sp.Lv) (j:Nat):(forTo tbl name lv j).length<=j:=by
 have:=List.length_filter_le (fun i=>match lv[i]? with | some x=>isFor tbl name x | none=>false) (List.range j)
 rw [List.length_range] at this
 exact this
theorem forTo_yes (tbl name:Sp.Bs) (lv:Sp.Lv) (j:Nat) (h:j<lv.length) (e:isFor tbl name lv[j]=true):forTo tbl name lv (j+1)=forTo tbl name lv j ++ [j]:=by
 unfold forTo
 rw [List.range_succ,List.filter_append,List.filter_cons,List.getElem?_eq_getElem h]
 simp [e]
theorem forTo_no (tbl name:Sp.Bs) (lv:Sp.Lv) (j:Nat) (h:j<lv.length) (e:isFor tbl name lv[j]=false):forTo tbl name lv (j+1)=forTo tbl name lv j:=by
 unfold forTo
 rw [List.range_succ,List.filter_append,List.filter_cons,List.getElem?_eq_getElem h]
 simp [e]
abbrev nats (l:List Nat):List Int:=l.map fun (i:Nat)=>(i:Int)
theorem nats_snoc (l:List Nat) (x:Nat):nats (l ++ [x])=nats l ++ [(x:Int)]:=by simp [nats]
theorem tablesFor_any {k m sb nb:Nat} {lv:Sp.Lv} {sv:Value} {w:World} {tbl name:Sp.Bs} (hkw:k<=w.heap.size) (hsb:sb<w.heap.size) (c0:w.cell? ⟨sb,0,none⟩=some sv) (hl:Svs k m w lv sv)
  (hnb:nb<w.heap.size) (n0:w.cell? ⟨nb,0,none⟩=some (.string (bz tbl))) (n1:w.cell? ⟨nb,1,none⟩=some (.string (bz name))) :
  Calls Tryz.prog 256 #[.pointer (some ⟨sb,0,none⟩), .pointer (some ⟨nb,0,none⟩)] w fun e w'=>∃ v,e = .returned v/\OwI w.heap.size w' v (nats (Sp.tablesFor tbl name lv))/\Below w.heap.size w w':=by
 obtain ⟨i0,ji,jz0,jz1,jz2⟩:=info_parts infoInt
 have hln:=hl.1
 rw [<- forTo_all]
 rcases hl.2 with ⟨rfl,rfl⟩ | ⟨b,q,rfl,hbm,hsr⟩
 ·clear hl
  go_enter Tryz.func256,Tryz.ntmps256
  go_wp2_with fail
  go_loopw [5,13] (fun v i wr=>v = .slice none 0 0/\i = .int .i64 0/\wr=w) (fun _ _ _=>0)
  case atStart=>exact ⟨rfl,rfl,rfl⟩
  case round=>
   obtain ⟨rfl,rfl,rfl⟩:=hrel
   go_wp2_with fail
   go_ret
   exact ⟨_,rfl,OwI.nil _ _,Below.refl _ _⟩
 ·have HV:=hid hsr
  obtain ⟨N,hN⟩:∃ N,N=lv.length:=⟨_,rfl⟩
  have HN:=hid hN
  have hkw':=hid hkw
  have HN0:=hid n0
  have HN1:=hid n1
  rw [<- hN] at hln c0 ⊢
  clear hl hsr hN hkw n0 n1
  have hm:=mixed
  go_enter Tryz.func256,Tryz.ntmps256
  go_wp2_with fail
  go_loopw [5,13] (fun v i wr=>∃ j:Nat,j<=N/\i = .int .i64 (j:Nat)/\Hid (OwI w.heap.size wr v (nats (forTo tbl name lv j)))/\Hid (Below w.heap.size w wr)) (fun _ i _=>N - (intOf i).toNat)
  case atStart=>exact ⟨0,Nat.zero_le _,rfl,OwI.nil _ _,Below.refl _ _⟩
  case round=>
   obtain ⟨j,hj,rfl,HO,HB⟩:=hrel
   by_cases hlt:j<N
   ·have hjz:j<lv.length:=by have:=HN.out;omega
    obtain ⟨tv,d0,d1,d2,d3,ht⟩:=(HV.out.same hkw'.out (Ou.low (k:=k) (m:=0) (Ou.below HB.out)) (HB.out.block b HV.out.lb)).at_ j hjz
    have HC:Hid (∀ w1,Gr wr w1->Calls Tryz.prog 178 #[enT tv, .string (bz name)] w1 fun e w'=>e = .returned (.int .i64 (Sp.cellOf name lv[j].2.cols))/\Gr w1 w'):=fun w1 g=>tcellT_any (ht.low (Nat.le_trans hkw'.out HB.out.size) (Low.of_gr g)) name
    obtain ⟨tn,ca,cl,cc,ra,rl,rc⟩:=tv
    have hL:=forTo_len tbl name lv j
    have HY:Hid (isFor tbl name lv[j]=true->nats (forTo tbl name lv (j+1))=nats (forTo tbl name lv j) ++ [(j:Int)]):=fun h=>by rw [forTo_yes tbl name lv j hjz h,nats_snoc]
    have HNo:Hid (isFor tbl name lv[j]=false->nats (forTo tbl name lv (j+1))=nats (forTo tbl name lv j)):=fun h=>by rw [forTo_no tbl name lv j hjz h]
    have HF:Hid (isFor tbl name lv[j]=((bz tbl).toList == (bz lv[j].1).toList||((bz tbl).toList == []&&decide (0<=Sp.cellOf name lv[j].2.cols)))):=by show _=_;rw [bz_list,bz_list];rfl
    have A0:Hid (∀ p:Addr,p.block<wr.heap.size->∀ m os,(grow ((wr.alloc (.cells #[.string (bz lv[j].1), .string tn, .slice ca cl cc, .slice ra rl rc] 314)).drewN m) os).cell? p=wr.cell? p):=fun p hp m os=>((((Gr.refl wr).alloc _).trans (gr_some m os)).cell hp)
    have A1:Hid (∀ i v,(#[Value.string (bz lv[j].1), .string tn, .slice ca cl cc, .slice ra rl rc])[i]?=some v->∀ m os,(grow ((wr.alloc (.cells #[.string (bz lv[j].1), .string tn, .slice ca cl cc, .slice ra rl rc] 314)).drewN m) os).cell? ⟨wr.heap.size,i,none⟩=some v):=fun i v h m os=>((gr_some m os).cell (p:=⟨wr.heap.size,i,none⟩) (by simp)).trans (by rw [World.cell?_alloc_new];exact h)
    have s0:=A1.out 0 _ rfl
    have s1:=A1.out 1 _ rfl
    have s2:=A1.out 2 _ rfl
    have s3:=A1.out 3 _ rfl
    have hbs:=HB.out.size
    have y0:∀ m os,(grow ((wr.alloc (.cells #[.string (bz lv[j].1), .string tn, .slice ca cl cc, .slice ra rl rc] 314)).drewN m) os).cell? ⟨nb,0,none⟩=some (.string (bz tbl)):=fun m os=>(A0.out ⟨nb,0,none⟩ (by show nb<_;omega) m os).trans ((HB.out.cell (p:=⟨nb,0,none⟩) hnb).trans HN0.out)
    have y1:∀ m os,(grow ((wr.alloc (.cells #[.string (bz lv[j].1), .string tn, .slice ca cl cc, .slice ra rl rc] 314)).drewN m) os).cell? ⟨nb,1,none⟩=some (.string (bz name)):=fun m os=>(A0.out ⟨nb,1,none⟩ (by show nb<_;omega) m os).trans ((HB.out.cell (p:=⟨nb,1,none⟩) hnb).trans HN1.out)
    have HC2:Hid (∀ m os,Calls Tryz.prog 178 #[.agg #[.string tn, .slice ca cl cc, .slice ra rl rc], .string (bz name)] (grow ((wr.alloc (.cells #[.string (bz lv[j].1), .string tn, .slice ca cl cc, .slice ra rl rc] 314)).drewN m) os) fun e w'=>e = .returned (.int .i64 (Sp.cellOf name lv[j].2.cols))/\Gr (grow ((wr.alloc (.cells #[.string (bz lv[j].1), .string tn, .slice ca cl cc, .slice ra rl rc] 314)).drewN m) os) w'):=fun m os=>HC.out _ (((Gr.refl wr).alloc _).trans (gr_some m os))
    generalize isFor tbl name lv[j]=fv at HY HNo HF
    generalize bz lv[j].1=cn at *
    generalize bz tbl=tb at *
    generalize bz name=nm at *
    generalize Sp.cellOf name lv[j].2.cols=ce at HF HC2
    clear HC A0 A1 ht
    cases e1:(tb.toList == cn.toList)
    ·cases e2:(tb.toList == [])
     ·go_wp2_with fail
      (refine wp_region_quiet_grown (by assumption) (by kernel_rfl) ?_;refine wpQuiet_ops fun OPSq HOPq=>?_)
      iterate 14 ((refine wpQuiet_step (fun K hK=>?_);refine quiet_if (wanted_of (Hid.out HOPq) (by kernel_rfl)) ?_;go_simp;first | (refine hK _ ?_;clear hK K) | (apply Exists.intro;refine ⟨fun _=>?_,hK _ ?_⟩;(fail);clear hK K)))
      iterate 8 (refine wpQuiet_step (fun K hK=>?_);refine quiet_else (wanted_of (Hid.out HOPq) (by kernel_rfl)) ?_;go_simp;refine hK _ ?_;clear hK K)
      iterate 2 ((refine wpQuiet_step (fun K hK=>?_);refine quiet_if (wanted_of (Hid.out HOPq) (by kernel_rfl)) ?_;go_simp;first | (refine hK _ ?_;clear hK K) | (apply Exists.intro;refine ⟨fun _=>?_,hK _ ?_⟩;(fail);clear hK K)))
      (refine wpQuiet_nil ?_;intro _ hw';obtain ⟨⟨nq,osq⟩,hw''⟩:=hw';subst hw'';clear HOPq OPSq)
      have HG2:Hid (Gr wr (grow ((wr.alloc (.cells #[.string cn, .string tn, .slice ca cl cc, .slice ra rl rc] 314)).drewN nq) osq)):=((Gr.refl wr).alloc _).trans (gr_some nq osq)
      clear s0 s1 s2 s3 y0 y1 HC2
      generalize grow ((wr.alloc (.cells #[.string cn, .string tn, .slice ca cl cc, .slice ra rl rc] 314)).drewN nq) osq=W at *
      have HB2:Hid (Below w.heap.size w W):=HB.out.trans (HG2.out.below.mono HB.out.size)
      have HO2:Hid (OwI w.heap.size W u5 (nats (forTo tbl name lv j))):=HO.out.below HG2.out.below
      have HN' : Hid (nats (forTo tbl name lv (j+1))=nats (forTo tbl name lv j)):=HNo.out (by rw [HF.out];rw [e1,e2];rfl)
      go_wp2_with fail
      go_roundw
      case rel=>exact ⟨j+1,by omega,by go_num,by rw [HN'.out];exact HO2.out,HB2⟩
      case measure=>simp [intOf];omega
     ·by_cases e3:0<=ce
      ·go_wp2_with fail
       (refine wp_region_quiet_grown (by assumption) (by kernel_rfl) ?_;refine wpQuiet_ops fun OPSq HOPq=>?_)
       iterate 24 ((refine wpQuiet_step (fun K hK=>?_);refine quiet_if (wanted_of (Hid.out HOPq) (by kernel_rfl)) ?_;go_simp;first | (refine hK _ ?_;clear hK K) | (apply Exists.intro;refine ⟨fun _=>?_,hK _ ?_⟩;(go_at_call 178;refine Calls.grown_of (HC2.out _ _));clear hK K)))
       (refine wpQuiet_nil ?_;intro _ hw';obtain ⟨⟨nq,osq⟩,hw''⟩:=hw';subst hw'';clear HOPq OPSq)
       have HG2:Hid (Gr wr (grow ((wr.alloc (.cells #[.string cn, .string tn, .slice ca cl cc, .slice ra rl rc] 314)).drewN nq) osq)):=((Gr.refl wr).alloc _).trans (gr_some nq osq)
       clear s0 s1 s2 s3 y0 y1 HC2
       generalize grow ((wr.alloc (.cells #[.string cn, .string tn, .slice ca cl cc, .slice ra rl rc] 314)).drewN nq) osq=W at *
       have HB2:Hid (Below w.heap.size w W):=HB.out.trans (HG2.out.below.mono HB.out.size)
       have HO2:Hid (OwI w.heap.size W u5 (nats (forTo tbl name lv j))):=HO.out.below HG2.out.below
       have HY' : Hid (nats (forTo tbl name lv (j+1))=nats (forTo tbl name lv j) ++ [(j:Int)]):=HY.out (by rw [HF.out];rw [e1,e2];simpa using e3)
       have hL2:(nats (forTo tbl name lv j)).length<=1100:=by simp [nats];omega
       generalize nats (forTo tbl name lv j)=M at HO2 HY' hL2
       go_wp2_with (at_builtin;go_must (refine wpList_append_own _ rfl (.tmp 42) (.tmp 44) 206 rfl w.heap.size 3 i0 (.int .i64 0) 1 8 Tryz.underlying206 ji jz0 jz1 jz2 rfl (by decide) _ _ _ rfl (HO2.out.alloc _) ⟨_,0,none⟩ 1 1 [.int .i64 (j:Int)] rfl rfl (new1e _ _ rfl) (enI_one _) ?c3 ?c4 ?c5 ?_))
       case c3=>unfold maxLen;omega
       case c4=>omega
       case c5=>have:=HB2.out.size;simp;omega
       intro v' w3 hown hgrow _
       have HO3:Hid (OwI w.heap.size w3 v' (nats (forTo tbl name lv (j+1)))):=by
        show OwI _ _ _ _
        rw [HY'.out]
        rw [enI_snoc] at hown
        simpa [OwI] using hown
       have HB3:Hid (Below w.heap.size w w3):=(HB2.out.alloc HB2.out.size _).grown hgrow (by have:=HB2.out.size;simp;omega) (fun q e=>(ownsV_block HO2.out q e).1)
       clear hown hgrow
       go_wp2_with fail
       go_roundw
       case rel=>exact ⟨j+1,by omega,by go_num,HO3,HB3⟩
       case measure=>simp [intOf];omega
      ·go_wp2_with fail
       (refine wp_region_quiet_grown (by assumption) (by kernel_rfl) ?_;refine wpQuiet_ops fun OPSq HOPq=>?_)
       iterate 24 ((refine wpQuiet_step (fun K hK=>?_);refine quiet_if (wanted_of (Hid.out HOPq) (by kernel_rfl)) ?_;go_simp;first | (refine hK _ ?_;clear hK K) | (apply Exists.intro;refine ⟨fun _=>?_,hK _ ?_⟩;(go_at_call 178;refine Calls.grown_of (HC2.out _ _));clear hK K)))
       (refine wpQuiet_nil ?_;intro _ hw';obtain ⟨⟨nq,osq⟩,hw''⟩:=hw';subst hw'';clear HOPq OPSq)
       have HG2:Hid (Gr wr (grow ((wr.alloc (.cells #[.string cn, .string tn, .slice ca cl cc, .slice ra rl rc] 314)).drewN nq) osq)):=((Gr.refl wr).alloc _).trans (gr_some nq osq)
       clear s0 s1 s2 s3 y0 y1 HC2
       generalize grow ((wr.alloc (.cells #[.string cn, .string tn, .slice ca cl cc, .slice ra rl rc] 314)).drewN nq) osq=W at *
       have HB2:Hid (Below w.heap.size w W):=HB.out.trans (HG2.out.below.mono HB.out.size)
       have HO2:Hid (OwI w.heap.size W u5 (nats (forTo tbl name lv j))):=HO.out.below HG2.out.below
       have HN' : Hid (nats (forTo tbl name lv (j+1))=nats (forTo tbl name lv j)):=HNo.out (by rw [HF.out];rw [e1,e2];simpa using e3)
       go_wp2_with fail
       go_roundw
       case rel=>exact ⟨j+1,by omega,by go_num,by rw [HN'.out];exact HO2.out,HB2⟩
       case measure=>simp [intOf];omega
    ·go_wp2_with fail
     (refine wp_region_quiet_grown (by assumption) (by kernel_rfl) ?_;refine wpQuiet_ops fun OPSq HOPq=>?_)
     iterate 8 ((refine wpQuiet_step (fun K hK=>?_);refine quiet_if (wanted_of (Hid.out HOPq) (by kernel_rfl)) ?_;go_simp;first | (refine hK _ ?_;clear hK K) | (apply Exists.intro;refine ⟨fun _=>?_,hK _ ?_⟩;(fail);clear hK K)))
     iterate 15 (refine wpQuiet_step (fun K hK=>?_);refine quiet_else (wanted_of (Hid.out HOPq) (by kernel_rfl)) ?_;go_simp;refine hK _ ?_;clear hK K)
     (refine wpQuiet_step (fun K hK=>?_);refine quiet_if (wanted_of (Hid.out HOPq) (by kernel_rfl)) ?_;go_simp;first | (refine hK _ ?_;clear hK K) | (apply Exists.intro;refine ⟨fun _=>?_,hK _ ?_⟩;(fail);clear hK K))
     (refine wpQuiet_nil ?_;intro _ hw';obtain ⟨⟨nq,osq⟩,hw''⟩:=hw';subst hw'';clear HOPq OPSq)
     have HG2:Hid (Gr wr (grow ((wr.alloc (.cells #[.string cn, .string tn, .slice ca cl cc, .slice ra rl rc] 314)).drewN nq) osq)):=((Gr.refl wr).alloc _).trans (gr_some nq osq)
     clear s0 s1 s2 s3 y0 y1 HC2
     generalize grow ((wr.alloc (.cells #[.string cn, .string tn, .slice ca cl cc, .slice ra rl rc] 314)).drewN nq) osq=W at *
     have HB2:Hid (Below w.heap.size w W):=HB.out.trans (HG2.out.below.mono HB.out.size)
     have HO2:Hid (OwI w.heap.size W u5 (nats (forTo tbl name lv j))):=HO.out.below HG2.out.below
     have HY' : Hid (nats (forTo tbl name lv (j+1))=nats (forTo tbl name lv j) ++ [(j:Int)]):=HY.out (by rw [HF.out];rw [e1];rfl)
     have hL2:(nats (forTo tbl name lv j)).length<=1100:=by simp [nats];omega
     generalize nats (forTo tbl name lv j)=M at HO2 HY' hL2
     go_wp2_with (at_builtin;go_must (refine wpList_append_own _ rfl (.tmp 42) (.tmp 44) 206 rfl w.heap.size 3 i0 (.int .i64 0) 1 8 Tryz.underlying206 ji jz0 jz1 jz2 rfl (by decide) _ _ _ rfl (HO2.out.alloc _) ⟨_,0,none⟩ 1 1 [.int .i64 (j:Int)] rfl rfl (new1e _ _ rfl) (enI_one _) ?c3 ?c4 ?c5 ?_))
     case c3=>unfold maxLen;omega
     case c4=>omega
     case c5=>have:=HB2.out.size;simp;omega
     intro v' w3 hown hgrow _
     have HO3:Hid (OwI w.heap.size w3 v' (nats (forTo tbl name lv (j+1)))):=by
      show OwI _ _ _ _
      rw [HY'.out]
      rw [enI_snoc] at hown
      simpa [OwI] using hown
     have HB3:Hid (Below w.heap.size w w3):=(HB2.out.alloc HB2.out.size _).grown hgrow (by have:=HB2.out.size;simp;omega) (fun q e=>(ownsV_block HO2.out q e).1)
     clear hown hgrow
     go_wp2_with fail
     go_roundw
     case rel=>exact ⟨j+1,by omega,by go_num,HO3,HB3⟩
     case measure=>simp [intOf];omega
   ·have HE:Hid (j=N):=by show _=_;omega
    go_wp2_with fail
    go_ret
    exact ⟨_,rfl,by rw [<- HE.out];exact HO.out,HB.out⟩
end Go.Proofs.YtgnncnhkgmhngaaGreatDoor
