import Derived.Test.YtgnncnhkgmhngaaGreatDoorJ11
set_option maxHeartbeats 4000000
set_option maxRecDepth 100000
namespace Go.Proofs.YtgnncnhkgmhngaaGreatDoor
open Sp
open Go.RowKit Go.Sort
def lX (lv:Sp.Lv) (p:Nat):Nat:=lv.foldl (λq x=>min (q*max 1 x.2.rows.length) 1001) p
theorem Gd (lv:Sp.Lv) (i p:Nat) (h:i<lv.length):lX (lv.drop i) p=lX (lv.drop (i+1)) (min (p*max 1 lv[i].2.rows.length) 1001):=by
 rw [nS h];rfl
theorem yW (lv:Sp.Lv) (r:List Sp.Lv) (p:Nat):Sp.product (lv::r) p=Sp.product r (lX lv p):=rfl
theorem yX {cb k m:Nat} {tv:Value} {c:CS} {w:World} (h:CB cb tv c w) (hkw:k<=w.heap.size) {aE:List Sp.Lv} {iv:Value} (hs:wN k m w aE iv) :
  Calls Tryz.prog 262 #[.pointer (some ⟨cb,0,none⟩),iv] w λr w'=>r = .returned (.tuple #[])/\CB cb tv (c.note aE) w'/\Kept cb w w':=by
 have HH:=hid h
 have HS:=hid hs
 have fC:=hid hkw
 obtain ⟨ia,rfl⟩:=hs.ptr
 clear h hs hkw
 go_enter Tryz.func262,Tryz.ntmps262
 go_wp2_with fail
 go_loopg [1,4] aE.length (λgm iv pv wr=>∃ (rest:List Sp.Lv) (p:Nat),gm=rest.length/\pv = .int .i64 (p:Nat)/\p<=1001/\Hid (Gr w wr)/\Hid (wN k m wr rest iv)/\Hid (Sp.product aE 1=Sp.product rest p))
 case atStart=>exact ⟨aE,1,rfl,rfl,by omega,Gr.refl _,HS,rfl⟩
 case round=>
  obtain ⟨rest,p,rfl,rfl,hp,HG,Mp,HP⟩:=hrel
  cases rest with
  | nil=>
   have e:=Mp.out
   simp only [wN] at e
   subst e
   have HP' : Hid (Sp.product aE 1=p):=HP.out
   have H1:Hid (CB cb tv c wr):=HH.out.gr HG.out
   obtain ⟨lt,b0,b1,b2,b3,fz⟩:=HH.out.gr HG.out
   have f3:=fz 3
   have FZ:=hid fz
   clear fz Mp HP
   by_cases hm:1000<p
   ·have HN:Hid (c.note aE={ c with much:=true }):=by show _=_;simp only [CS.note,HP'.out];rw [if_pos hm]
    go_wp2_with fail
    go_end0
    refine ⟨rfl,?_,(Kept.gr HG.out).trans ((Kept.refl cb wr).setCell 3 _)⟩
    rw [HN.out]
    exact ⟨by simpa [World.setCell] using lt,by go_simp,by go_simp,by go_simp,by go_simp,λo=>by have:=FZ.out o;go_simp⟩
   ·have HN:Hid (c.note aE=c):=by show _=_;simp only [CS.note,HP'.out];rw [if_neg hm]
    go_wp2_with fail
    go_end0
    exact ⟨rfl,by rw [HN.out];exact H1.out,Kept.gr HG.out⟩
  | cons lv r=>
   obtain ⟨sb,sv,ov,rfl,hb,hl,c0,c1,hsv,hr⟩:=Mp.out
   have HR:=hid hr
   obtain ⟨oa,rfl⟩:=hr.ptr
   have hln:=hsv.1
   rcases hsv.2 with ⟨rfl,rfl⟩ | ⟨b,q,rfl,hbm,hsr⟩
   ·clear Mp hr hsv
    go_wp2_with fail
    go_loopw [4,18] (λpv i w2=>pv = .int .i64 (p:Nat)/\i = .int .i64 0/\wr=w2) (λ_ _ _=>0)
    case atStart=>exact ⟨rfl,rfl,rfl⟩
    case round=>
     obtain ⟨rfl,rfl,rfl⟩:=hrel
     go_wp2_with fail
     go_roundg r.length
     case measure=>simp
     case rel=>exact ⟨r,p,rfl,rfl,hp,HG,HR,HP.out⟩
   ·have HV:=hid hsr
    obtain ⟨N,hN⟩:∃ N,N=lv.length:=⟨_,rfl⟩
    have HN:=hid hN
    rw [<- hN] at hln c0
    clear Mp hr hsv hsr hN
    go_wp2_with fail
    go_loopw [4,18] (λpv i w2=>∃ j q:Nat,j<=N/\i = .int .i64 (j:Nat)/\pv = .int .i64 (q:Nat)/\q<=1001/\Hid (lX lv p=lX (lv.drop j) q)/\Hid (Gr wr w2)) (λ_ i _=>N - (intOf i).toNat)
    case atStart=>exact ⟨0,p,fO _,rfl,rfl,hp,rfl,Gr.refl _⟩
    case round=>
     obtain ⟨j,q,hj,rfl,rfl,hq,HQ,HG2⟩:=hrel
     by_cases hlt:j<N
     ·have hjz:j<lv.length:=by have:=HN.out;omega
      obtain ⟨⟨tn,ca,cl,cc,ra,rl,rc⟩,d0,d1,d2,d3,ht⟩:=(HV.out.same (cE fC.out HG.out.size) (Low.dZ HG2.out) (HG2.out.below.block b HV.out.lb)).at_ j hjz
      have hrl:rl=lv[j].2.rows.length:=ht.rl
      have hrn:lv[j].2.rows.length<=1000:=ht.Dg
      have Tf:=Gd lv j q hjz
      rw [<- hrl] at Tf hrn
      have NE:Hid (lX lv p=lX (lv.drop (j+1)) (min (q*max 1 rl) 1001)):=by show _=_;rw [HQ.out,Tf]
      generalize bz lv[j].1=cn at d0
      clear ht hrl Tf HQ
      have hmul:q*max 1 rl<=1001*1000:=Nat.mul_le_mul hq (by omega)
      go_wp2_with fail
      have hz:(max 1 (rl:Int))=((max 1 rl:Nat):Int):=by omega
      have hw:wrap64 ((q:Int)*max 1 (rl:Int))=((q*max 1 rl:Nat):Int):=by
       rw [hz,<- Int.natCast_mul]
       unfold wrap64;omega
      go_roundw
      case rel=>exact ⟨j+1,min (q*max 1 rl) 1001,by omega,by go_num,by rw [hw];congr 1;omega,by omega,NE,HG2.out.alloc _⟩
      case measure=>simp [intOf];omega
     ·have HE:Hid (lX lv p=q):=by show _=_;rw [HQ.out,Aw (by have:=HN.out;omega)];rfl
      have c1':=(HG2.out.cell (p:=⟨sb,1,none⟩) hl).trans c1
      go_wp2_with fail
      go_roundg r.length
      case measure=>simp
      case rel=>exact ⟨r,q,rfl,rfl,hq,HG.out.trans HG2.out,HR.out.ou (cE fC.out HG.out.size) (Ou.gr HG2.out),by show _=_;rw [HP.out,yW,HE.out]⟩
abbrev NF (l:List Int):List Value:=l.map λx => .int .i64 x
theorem lY (l:List Int) (x:Int):NF l ++ [.int .i64 x]=NF (l ++ [x]):=by simp [NF]
theorem pI (x:Int):∀ u∈([.int .i64 x]:List Value),u.oneCell'=true:=λu hu=>by simp at hu;subst hu;rfl
theorem EV {w:World} (x:Value) (t:TypeId) {n:Nat} (h:w.heap.size=n):∀ j u, [x][j]?=some u->(w.alloc (.cells #[x] t)).cell? (Addr.add ⟨n,0,none⟩ j)=some u:=by subst h;exact new1 w x t
def dX (base:Nat) (w:World) (v:Value) (l:List Int):Prop:=w.ownsRow base 3 1 v l.length (NF l)
theorem dX.nil (base:Nat) (w:World):dX base w (.slice none 0 0) []:=World.ownsRow_nil _ _ _ _
theorem dX.si {base:Nat} {w:World} {v:Value} {l:List Int} (h:dX base w v l):Si w v l:=tJ h
theorem dX.below {base:Nat} {w w' : World} {v:Value} {l:List Int} (h:dX base w v l) (g:Below w.heap.size w w'):dX base w' v l:=aH h g
theorem dX.alloc {base:Nat} {w:World} {v:Value} {l:List Int} (h:dX base w v l) (o:Obj):dX base (w.alloc o) v l:=h.below ((Below.refl _ w).alloc (aF _) _)
theorem dX.same {base:Nat} {w w' : World} {v:Value} {l:List Int} (h:dX base w v l) (hk:∀ b,v.ownBlock=some b->w'.heap[b]?=w.heap[b]?):dX base w' v l:=by
 obtain ⟨hl,h | ⟨g,cap,cur,hv,h0,hb,r⟩⟩:=h
 ·exact ⟨hl, .inl h⟩
 ·subst hv;exact ⟨hl, .inr ⟨g,cap,cur,rfl,h0,(hk g rfl).trans hb,r⟩⟩
theorem dX.fresh {base:Nat} {w:World} {v:Value} {l:List Int} (h:dX base w v l):∀ b off n c,v = .slice (some ⟨b,off,none⟩) n c->base<=b:=by
 intro b off n c e
 exact (aB h b (by rw [e];rfl)).1
theorem dX.sl {base:Nat} {w:World} {v:Value} {l:List Int} (h:dX base w v l):∃ a c,v = .slice a l.length c:=h.si.shape
def kY (lv:Sp.Lv):List Int:=lv.flatMap λx=>x.2.cols.map (·.2)
theorem wO (lv:Sp.Lv) (i:Nat) (h:i<lv.length):kY (lv.take (i+1))=kY (lv.take i)++lv[i].2.cols.map (·.2):=by
 rw [uV h,kY,List.flatMap_append];simp [kY]
theorem AW (lv:Sp.Lv) (h:∀ x∈lv,x.2.cols.length<=50):∀ i,(kY (lv.take i)).length<=i*50:=by
 intro i
 induction i with
 | zero=>simp [kY]
 | succ i ih=>
  by_cases hi:i<lv.length
  ·rw [wO lv i hi,List.length_append,List.length_map]
   have:=h _ (jD hi)
   omega
  ·rw [sD (by omega)];rw [sD (by omega)] at ih;omega
theorem wP {k m sb:Nat} {lv:Sp.Lv} {sv:Value} {w:World} (hkw:k<=w.heap.size) (hsb:sb<w.heap.size) (c0:w.cell? ⟨sb,0,none⟩=some sv) (hl:Dk k m w lv sv) :
  Calls Tryz.prog 263 #[.pointer (some ⟨sb,0,none⟩)] w λe w'=>∃ v,e = .returned v/\dX w.heap.size w' v (kY lv)/\Below w.heap.size w w':=by
 obtain ⟨i0,ji,fR,jz1,fS⟩:=info_parts nI
 have hln:=hl.1
 rcases hl.2 with ⟨rfl,rfl⟩ | ⟨b,q,rfl,hbm,hsr⟩
 ·clear hl
  go_enter Tryz.func263,Tryz.ntmps263
  go_wp2_with fail
  go_loopw [3,13] (λv i wr=>v = .slice none 0 0/\i = .int .i64 0/\wr=w) (λ_ _ _=>0)
  case atStart=>exact ⟨rfl,rfl,rfl⟩
  case round=>
   obtain ⟨rfl,rfl,rfl⟩:=hrel
   go_wp2_with fail
   go_ret
   exact ⟨_,rfl,dX.nil _ _,Below.refl _ _⟩
 ·have HV:=hid hsr
  obtain ⟨N,hN⟩:∃ N,N=lv.length:=⟨_,rfl⟩
  have HN:=hid hN
  have fC:=hid hkw
  rw [<- hN] at hln c0
  have HL:Hid (∀ i,i<=N->(kY (lv.take i)).length<=i*50):=λi _=>AW lv (λx hx=>by
   obtain ⟨j,hj,rfl⟩:=List.getElem_of_mem hx
   obtain ⟨tv,_,_,_,_,ht⟩:=hsr.at_ j hj
   exact ht.iC) i
  clear hl hsr hN hkw
  go_enter Tryz.func263,Tryz.ntmps263
  go_wp2_with fail
  go_loopw [3,13] (λv i wr=>∃ j:Nat,j<=N/\i = .int .i64 (j:Nat)/\Hid (dX w.heap.size wr v (kY (lv.take j)))/\Hid (Below w.heap.size w wr)) (λ_ i _=>N - (intOf i).toNat)
  case atStart=>exact ⟨0,fO _,rfl,dX.nil _ _,Below.refl _ _⟩
  case round=>
   obtain ⟨j,hj,rfl,HO,HB⟩:=hrel
   by_cases hlt:j<N
   ·have hjz:j<lv.length:=by have:=HN.out;omega
    obtain ⟨⟨tn,ca,cl,cc,ra,rl,rc⟩,d0,d1,d2,d3,ht⟩:=(HV.out.same fC.out (Ou.low (k:=k) (m:=0) (Ou.below HB.out)) (HB.out.block b HV.out.lb)).at_ j hjz
    have HT:Hid (kY (lv.take (j+1))=kY (lv.take j)++lv[j].2.cols.map (·.2)):=wO lv j hjz
    have hL:=HL.out j hj
    have hcn:=ht.iC
    have hcb:=ht.cols
    generalize bz lv[j].1=cn at d0
    generalize lv[j].2.cols=cols at HT hcn hcb
    generalize kY (lv.take j)=L at HO HT hL
    clear ht
    rcases hcb with ⟨rfl,e1,e2,e3⟩ | ⟨EW,KU,e1,e2,hck,hcols⟩
    ·simp only [] at e1 e2 e3
     subst e1 e2 e3
     have RU : Hid (kY (lv.take (j+1))=L):=by show _=_;rw [HT.out];simp
     go_wp2_with fail
     go_loopw [3,21] (λv i w2=>v=u3/\i = .int .i64 0/\w2=wr.alloc (.cells #[.string cn, .string tn, .slice none 0 0, .slice ra rl rc] 314)) (λ_ _ _=>0)
     case atStart=>exact ⟨rfl,rfl,rfl⟩
     case round=>
      obtain ⟨rfl,rfl,rfl⟩:=hrel
      go_wp2_with fail
      go_roundw
      case rel=>exact ⟨j+1,by omega,by go_num,by rw [RU.out];exact HO.out.alloc _,HB.out.alloc HB.out.size _⟩
      case measure=>simp [intOf];omega
    ·simp only [] at e1 e2
     subst e1
     have HC:=hid hcols
     have Mq:=hid e2
     have KV : EW<w.heap.size:=by have:=fC.out;omega
     clear hcols
     rw [<- e2] at hcn
     clear e2
     go_wp2_with fail
     go_loopw [3,21] (λv i w2=>∃ q:Nat,q<=cl/\i = .int .i64 (q:Nat)/\Hid (dX w.heap.size w2 v (L++(cols.take q).map (·.2)))/\Hid (Below w.heap.size w w2)) (λ_ i _=>cl - (intOf i).toNat)
     case atStart=>exact ⟨0,fO _,rfl,by show dX _ _ _ _;simpa using HO.out.alloc _,HB.out.alloc HB.out.size _⟩
     case round=>
      obtain ⟨q,hq,rfl,fN,HB2⟩:=hrel
      by_cases hlt2:q<cl
      ·have hqz:q<cols.length:=by have:=Mq.out;omega
       have f0:=(HB2.out.cell (p:=⟨EW,KU+q*2,none⟩) KV).trans ((HB.out.cell (p:=⟨EW,KU+q*2,none⟩) KV).symm.trans (HC.out.n q (by simpa using hqz)))
       have f1:=(HB2.out.cell (p:=⟨EW,KU+q*2+1,none⟩) KV).trans ((HB.out.cell (p:=⟨EW,KU+q*2+1,none⟩) KV).symm.trans (HC.out.t q (by simpa using hqz)))
       simp only [List.getElem_map] at f0 f1
       have HX:Hid (L++(cols.take (q+1)).map (·.2)=(L++(cols.take q).map (·.2)) ++ [cols[q].2]):=by show _=_;rw [uV hqz,List.map_append,List.append_assoc];rfl
       have hlen:(L++(cols.take q).map (·.2)).length<=60000:=by have:=Mq.out;rw [List.length_append,List.length_map,List.length_take];omega
       generalize bz cols[q].1=fn at f0
       generalize cols[q].2=ft at f1 HX
       generalize L++(cols.take q).map (·.2)=M at fN HX hlen
       go_wp2_with (at_builtin;go_must (refine wpList_append_own _ rfl (.tmp 25) (.tmp 28) 206 rfl w.heap.size 3 i0 (.int .i64 0) 1 8 Tryz.underlying206 ji fR jz1 fS rfl (by decide) _ _ _ rfl ((fN.out.alloc _).alloc _) ⟨_,0,none⟩ 1 1 [.int .i64 ft] rfl rfl (EV _ _ (by simp)) (pI _) ?c3 ?c4 ?c5 ?_))
       case c3=>unfold maxLen;omega
       case c4=>omega
       case c5=>have:=HB2.out.size;simp;omega
       intro v' w3 hown hgrow _
       have jG:Hid (dX w.heap.size w3 v' (L++(cols.take (q+1)).map (·.2))):=by
        show dX _ _ _ _
        rw [HX.out]
        rw [lY] at hown
        simpa [dX] using hown
       have HB3:Hid (Below w.heap.size w w3):=((HB2.out.alloc HB2.out.size _).alloc (by have:=HB2.out.size;simp;omega) _).grown hgrow (by have:=HB2.out.size;simp;omega) (λq e=>(aB fN.out q e).1)
       clear hown hgrow
       go_wp2_with fail
       go_roundw
       case rel=>exact ⟨q+1,by omega,by go_num,jG,HB3⟩
       case measure=>simp [intOf];omega
      ·have HE:Hid (L++(cols.take q).map (·.2)=kY (lv.take (j+1))):=by show _=_;rw [HT.out,sD (by have:=Mq.out;omega)]
       go_wp2_with fail
       go_roundw
       case rel=>exact ⟨j+1,by omega,by go_num,by rw [<- HE.out];exact fN.out,HB2⟩
       case measure=>simp [intOf];omega
   ·have HE:Hid (kY (lv.take j)=kY lv):=by show _=_;rw [sD (by have:=HN.out;omega)]
    go_wp2_with fail
    go_ret
    exact ⟨_,rfl,by rw [<- HE.out];exact HO.out,HB.out⟩
theorem nK (x:Sp.Bs):∀ l,cellOf x l=-1\/(0<=cellOf x l/\cellOf x l<l.length)
 | [] => .inl rfl
 | c::l=>by
  rw [cellOf]
  rcases nK x l with h | h
  ·split
   ·exact .inr ⟨by omega,by simp⟩
   ·left;simp [h]
  ·split
   ·exact .inr ⟨by omega,by simp⟩
   ·right;rw [if_neg (by omega)];simp;omega
theorem rL (x:Sp.Bs):∀ (l:List (Sp.Bs×Int)) (k:Nat),dT x k (l.map λy=>(bz y.1,y.2))=if cellOf x l<0 then -1 else cellOf x l+k
 | [],k=>rfl
 | c::l,k=>by
  have ih:=rL x l (k+1)
  have hb:=nK x l
  obtain ⟨z,hz⟩:∃ z,z=cellOf x (c::l):=⟨_,rfl⟩
  rw [<- hz]
  rw [cellOf] at hz
  simp only [List.map_cons,dT,dJ]
  rw [ih]
  by_cases hx:(c.1 == x)=true
  ·rw [if_pos hx] at hz ⊢;subst hz;simp
  ·rw [if_neg hx] at hz ⊢
   rcases hb with h | h
   ·rw [h] at hz ⊢;simp at hz;subst hz;simp
   ·rw [if_neg (by omega)] at hz ⊢;subst hz;rw [if_neg (by omega)];omega
theorem Gf (x:Sp.Bs) (l:List (Sp.Bs×Int)):oE x (l.map λy=>(bz y.1,y.2))=cellOf x l:=by
 have h:=rL x l 0
 have hb:=nK x l
 unfold oE
 rw [h]
 rcases hb with h | h
 ·simp [h]
 ·rw [if_neg (by omega)];simp
theorem yY (g:Value) (w:World) :
  Calls Tryz.prog 218 #[.slice none 0 0,g] w λe w'=>e = .returned (.int .i64 (-1))/\w'=w:=by
 go_enter Tryz.func218,Tryz.ntmps218
 go_wp2
 go_loopw [8] (λi wr=>i = .int .i64 0/\wr=w) (λ_ _=>0)
 case atStart=>exact ⟨rfl,rfl⟩
 case round=>
  obtain ⟨rfl,rfl⟩:=hrel
  go_wp2_with fail
  go_ret
  exact ⟨rfl,rfl⟩
theorem Gg (tn:ByteArray) (ra:Option Addr) (rl rc:Nat) (x:ByteArray) (w:World) :
  Calls Tryz.prog 178 #[.agg #[.string tn, .slice none 0 0, .slice ra rl rc], .string x] w λe w'=>e = .returned (.int .i64 (-1))/\Gr w w':=by
 have G0:Hid (Gr w ((w.alloc (.cells #[.string tn, .slice none 0 0, .slice ra rl rc] 187)).alloc (.cells #[.string x] 9))):=((Gr.refl w).alloc _).alloc _
 go_enter Tryz.func178,Tryz.ntmps178
 go_wp2_with fail
 refine Calls.mono (yY _ _) ?_
 rintro e w2 ⟨rfl,rfl⟩
 go_wp2_with fail
 go_ret
 exact ⟨rfl,G0.out⟩
theorem oG {k:Nat} {w:World} {t:Sp.Tb} {tv:TV} (h:nZ k w t tv) (x:Sp.Bs) :
  Calls Tryz.prog 178 #[sE tv, .string (bz x)] w λe w'=>e = .returned (.int .i64 (cellOf x t.cols))/\Gr w w':=by
 rcases h.cols with ⟨e,h1,h2,h3⟩ | ⟨b,off,h1,h2,h3,h4⟩
 ·obtain ⟨tn,ca,cl,cc,ra,rl,rc⟩:=tv
  simp only [] at h1 h2 h3
  subst h1 h2 h3
  rw [e]
  exact Gg tn ra rl rc (bz x) w
 ·have:=F6 tv b off _ (bz x) w h1 (by rw [h2,List.length_map]) (by rw [List.length_map];have:=h.iC;omega) h4
  rw [dJ,Gf] at this
  exact this
def pJ (bU name:Sp.Bs) (x:Sp.Bs×Sp.Tb):Bool:=bU == x.1||(bU == []&&decide (0<=cellOf name x.2.cols))
def cN (bU name:Sp.Bs) (lv:Sp.Lv) (j:Nat):List Nat:=(List.range j).filter λi=>match lv[i]? with | some x=>pJ bU name x | none=>false
theorem wQ (bU name:Sp.Bs) (lv:Sp.Lv):cN bU name lv lv.length=b7 bU name lv:=by
 unfold cN b7 pJ
 congr 1
 funext i
 cases lv[i]? <;> rfl
theorem wR (bU name:Sp.Bs) (lv:Sp.Lv) (j:Nat):(cN bU name lv j).length<=j:=by
 have:=List.length_filter_le (λi=>match lv[i]? with | some x=>pJ bU name x | none=>false) (List.range j)
 rw [List.length_range] at this
 exact this
theorem Gh (bU name:Sp.Bs) (lv:Sp.Lv) (j:Nat) (h:j<lv.length) (e:pJ bU name lv[j]=true):cN bU name lv (j+1)=cN bU name lv j ++ [j]:=by
 unfold cN
 rw [List.range_succ,List.filter_append,List.filter_cons,rI h]
 simp [e]
theorem IL (bU name:Sp.Bs) (lv:Sp.Lv) (j:Nat) (h:j<lv.length) (e:pJ bU name lv[j]=false):cN bU name lv (j+1)=cN bU name lv j:=by
 unfold cN
 rw [List.range_succ,List.filter_append,List.filter_cons,rI h]
 simp [e]
abbrev eH (l:List Nat):List Int:=l.map λ(i:Nat)=>(i:Int)
theorem Gi (l:List Nat) (x:Nat):eH (l ++ [x])=eH l ++ [(x:Int)]:=by simp [eH]
theorem n7 {k m sb nb:Nat} {lv:Sp.Lv} {sv:Value} {w:World} {bU name:Sp.Bs} (hkw:k<=w.heap.size) (hsb:sb<w.heap.size) (c0:w.cell? ⟨sb,0,none⟩=some sv) (hl:Dk k m w lv sv)
  (hnb:nb<w.heap.size) (n0:w.cell? ⟨nb,0,none⟩=some (.string (bz bU))) (n1:w.cell? ⟨nb,1,none⟩=some (.string (bz name))) :
  Calls Tryz.prog 256 #[.pointer (some ⟨sb,0,none⟩), .pointer (some ⟨nb,0,none⟩)] w λe w'=>∃ v,e = .returned v/\dX w.heap.size w' v (eH (b7 bU name lv))/\Below w.heap.size w w':=by
 obtain ⟨i0,ji,fR,jz1,fS⟩:=info_parts nI
 have hln:=hl.1
 rw [<- wQ]
 rcases hl.2 with ⟨rfl,rfl⟩ | ⟨b,q,rfl,hbm,hsr⟩
 ·clear hl
  go_enter Tryz.func256,Tryz.ntmps256
  go_wp2_with fail
  go_loopw [5,13] (λv i wr=>v = .slice none 0 0/\i = .int .i64 0/\wr=w) (λ_ _ _=>0)
  case atStart=>exact ⟨rfl,rfl,rfl⟩
  case round=>
   obtain ⟨rfl,rfl,rfl⟩:=hrel
   go_wp2_with fail
   go_ret
   exact ⟨_,rfl,dX.nil _ _,Below.refl _ _⟩
 ·have HV:=hid hsr
  obtain ⟨N,hN⟩:∃ N,N=lv.length:=⟨_,rfl⟩
  have HN:=hid hN
  have fC:=hid hkw
  have Xi:=hid n0
  have vG:=hid n1
  rw [<- hN] at hln c0 ⊢
  clear hl hsr hN hkw n0 n1
  have hm:=mixed
  go_enter Tryz.func256,Tryz.ntmps256
  go_wp2_with fail
  go_loopw [5,13] (λv i wr=>∃ j:Nat,j<=N/\i = .int .i64 (j:Nat)/\Hid (dX w.heap.size wr v (eH (cN bU name lv j)))/\Hid (Below w.heap.size w wr)) (λ_ i _=>N - (intOf i).toNat)
  case atStart=>exact ⟨0,fO _,rfl,dX.nil _ _,Below.refl _ _⟩
  case round=>
   obtain ⟨j,hj,rfl,HO,HB⟩:=hrel
   by_cases hlt:j<N
   ·have hjz:j<lv.length:=by have:=HN.out;omega
    obtain ⟨tv,d0,d1,d2,d3,ht⟩:=(HV.out.same fC.out (Ou.low (k:=k) (m:=0) (Ou.below HB.out)) (HB.out.block b HV.out.lb)).at_ j hjz
    have HC:Hid (∀ w1,Gr wr w1->Calls Tryz.prog 178 #[sE tv, .string (bz name)] w1 λe w'=>e = .returned (.int .i64 (cellOf name lv[j].2.cols))/\Gr w1 w'):=λw1 g=>oG (ht.low (cE fC.out HB.out.size) (Low.dZ g)) name
    obtain ⟨tn,ca,cl,cc,ra,rl,rc⟩:=tv
    have hL:=wR bU name lv j
    have HY:Hid (pJ bU name lv[j]=true->eH (cN bU name lv (j+1))=eH (cN bU name lv j) ++ [(j:Int)]):=λh=>by rw [Gh bU name lv j hjz h,Gi]
    have Tg:Hid (pJ bU name lv[j]=false->eH (cN bU name lv (j+1))=eH (cN bU name lv j)):=λh=>by rw [IL bU name lv j hjz h]
    have HF:Hid (pJ bU name lv[j]=((bz bU).toList == (bz lv[j].1).toList||((bz bU).toList == []&&decide (0<=cellOf name lv[j].2.cols)))):=by show _=_;rw [dJ,dJ];rfl
    have A0:Hid (∀ p:Addr,p.block<wr.heap.size->∀ m os,(grow ((wr.alloc (.cells #[.string (bz lv[j].1), .string tn, .slice ca cl cc, .slice ra rl rc] 314)).drewN m) os).cell? p=wr.cell? p):=λp hp m os=>((((Gr.refl wr).alloc _).trans (kD m os)).cell hp)
    have A1:Hid (∀ i v,(#[Value.string (bz lv[j].1), .string tn, .slice ca cl cc, .slice ra rl rc])[i]?=some v->∀ m os,(grow ((wr.alloc (.cells #[.string (bz lv[j].1), .string tn, .slice ca cl cc, .slice ra rl rc] 314)).drewN m) os).cell? ⟨wr.heap.size,i,none⟩=some v):=λi v h m os=>((kD m os).cell (p:=⟨wr.heap.size,i,none⟩) (by simp)).trans (by rw [oZ];exact h)
    have s0:=A1.out 0 _ rfl
    have s1:=A1.out 1 _ rfl
    have s2:=A1.out 2 _ rfl
    have s3:=A1.out 3 _ rfl
    have hbs:=HB.out.size
    have y0:∀ m os,(grow ((wr.alloc (.cells #[.string (bz lv[j].1), .string tn, .slice ca cl cc, .slice ra rl rc] 314)).drewN m) os).cell? ⟨nb,0,none⟩=some (.string (bz bU)):=λm os=>(A0.out ⟨nb,0,none⟩ (by show nb<_;omega) m os).trans ((HB.out.cell (p:=⟨nb,0,none⟩) hnb).trans Xi.out)
    have y1:∀ m os,(grow ((wr.alloc (.cells #[.string (bz lv[j].1), .string tn, .slice ca cl cc, .slice ra rl rc] 314)).drewN m) os).cell? ⟨nb,1,none⟩=some (.string (bz name)):=λm os=>(A0.out ⟨nb,1,none⟩ (by show nb<_;omega) m os).trans ((HB.out.cell (p:=⟨nb,1,none⟩) hnb).trans vG.out)
    have HC2:Hid (∀ m os,Calls Tryz.prog 178 #[.agg #[.string tn, .slice ca cl cc, .slice ra rl rc], .string (bz name)] (grow ((wr.alloc (.cells #[.string (bz lv[j].1), .string tn, .slice ca cl cc, .slice ra rl rc] 314)).drewN m) os) λe w'=>e = .returned (.int .i64 (cellOf name lv[j].2.cols))/\Gr (grow ((wr.alloc (.cells #[.string (bz lv[j].1), .string tn, .slice ca cl cc, .slice ra rl rc] 314)).drewN m) os) w'):=λm os=>HC.out _ (((Gr.refl wr).alloc _).trans (kD m os))
    generalize pJ bU name lv[j]=fv at HY Tg HF
    generalize bz lv[j].1=cn at *
    generalize bz bU=tb at *
    generalize bz name=nm at *
    generalize cellOf name lv[j].2.cols=ce at HF HC2
    clear HC A0 A1 ht
    cases e1:(tb.toList == cn.toList)
    ·cases e2:(tb.toList == [])
     ·go_wp2_with fail
      (refine wp_region_quiet_grown (by assumption) (by kernel_rfl) ?_;refine iU λDn oH=>?_)
      iterate 14 ((refine wpQuiet_step (λK hK=>?_);refine jO (eX (Hid.out oH) (by kernel_rfl)) ?_;go_simp;first | (refine hK _ ?_;clear hK K) | (apply Exists.intro;refine ⟨λ_=>?_,hK _ ?_⟩;(fail);clear hK K)))
      iterate 8 (refine wpQuiet_step (λK hK=>?_);refine tA (eX (Hid.out oH) (by kernel_rfl)) ?_;go_simp;refine hK _ ?_;clear hK K)
      iterate 2 ((refine wpQuiet_step (λK hK=>?_);refine jO (eX (Hid.out oH) (by kernel_rfl)) ?_;go_simp;first | (refine hK _ ?_;clear hK K) | (apply Exists.intro;refine ⟨λ_=>?_,hK _ ?_⟩;(fail);clear hK K)))
      (refine wpQuiet_nil ?_;intro _ hw';obtain ⟨⟨nq,osq⟩,hw''⟩:=hw';subst hw'';clear oH Dn)
      have HG2:Hid (Gr wr (grow ((wr.alloc (.cells #[.string cn, .string tn, .slice ca cl cc, .slice ra rl rc] 314)).drewN nq) osq)):=((Gr.refl wr).alloc _).trans (kD nq osq)
      clear s0 s1 s2 s3 y0 y1 HC2
      generalize grow ((wr.alloc (.cells #[.string cn, .string tn, .slice ca cl cc, .slice ra rl rc] 314)).drewN nq) osq=W at *
      have HB2:Hid (Below w.heap.size w W):=HB.out.trans (HG2.out.below.mono HB.out.size)
      have fN:Hid (dX w.heap.size W u5 (eH (cN bU name lv j))):=HO.out.below HG2.out.below
      have HN' : Hid (eH (cN bU name lv (j+1))=eH (cN bU name lv j)):=Tg.out (by rw [HF.out];rw [e1,e2];rfl)
      go_wp2_with fail
      go_roundw
      case rel=>exact ⟨j+1,by omega,by go_num,by rw [HN'.out];exact fN.out,HB2⟩
      case measure=>simp [intOf];omega
     ·by_cases e3:0<=ce
      ·go_wp2_with fail
       (refine wp_region_quiet_grown (by assumption) (by kernel_rfl) ?_;refine iU λDn oH=>?_)
       iterate 24 ((refine wpQuiet_step (λK hK=>?_);refine jO (eX (Hid.out oH) (by kernel_rfl)) ?_;go_simp;first | (refine hK _ ?_;clear hK K) | (apply Exists.intro;refine ⟨λ_=>?_,hK _ ?_⟩;(go_at_call 178;refine Calls.grown_of (HC2.out _ _));clear hK K)))
       (refine wpQuiet_nil ?_;intro _ hw';obtain ⟨⟨nq,osq⟩,hw''⟩:=hw';subst hw'';clear oH Dn)
       have HG2:Hid (Gr wr (grow ((wr.alloc (.cells #[.string cn, .string tn, .slice ca cl cc, .slice ra rl rc] 314)).drewN nq) osq)):=((Gr.refl wr).alloc _).trans (kD nq osq)
       clear s0 s1 s2 s3 y0 y1 HC2
       generalize grow ((wr.alloc (.cells #[.string cn, .string tn, .slice ca cl cc, .slice ra rl rc] 314)).drewN nq) osq=W at *
       have HB2:Hid (Below w.heap.size w W):=HB.out.trans (HG2.out.below.mono HB.out.size)
       have fN:Hid (dX w.heap.size W u5 (eH (cN bU name lv j))):=HO.out.below HG2.out.below
       have PG : Hid (eH (cN bU name lv (j+1))=eH (cN bU name lv j) ++ [(j:Int)]):=HY.out (by rw [HF.out];rw [e1,e2];simpa using e3)
       have hL2:(eH (cN bU name lv j)).length<=1100:=by simp [eH];omega
       generalize eH (cN bU name lv j)=M at fN PG hL2
       go_wp2_with (at_builtin;go_must (refine wpList_append_own _ rfl (.tmp 42) (.tmp 44) 206 rfl w.heap.size 3 i0 (.int .i64 0) 1 8 Tryz.underlying206 ji fR jz1 fS rfl (by decide) _ _ _ rfl (fN.out.alloc _) ⟨_,0,none⟩ 1 1 [.int .i64 (j:Int)] rfl rfl (EV _ _ rfl) (pI _) ?c3 ?c4 ?c5 ?_))
       case c3=>unfold maxLen;omega
       case c4=>omega
       case c5=>have:=HB2.out.size;simp;omega
       intro v' w3 hown hgrow _
       have jG:Hid (dX w.heap.size w3 v' (eH (cN bU name lv (j+1)))):=by
        show dX _ _ _ _
        rw [PG.out]
        rw [lY] at hown
        simpa [dX] using hown
       have HB3:Hid (Below w.heap.size w w3):=(HB2.out.alloc HB2.out.size _).grown hgrow (by have:=HB2.out.size;simp;omega) (λq e=>(aB fN.out q e).1)
       clear hown hgrow
       go_wp2_with fail
       go_roundw
       case rel=>exact ⟨j+1,by omega,by go_num,jG,HB3⟩
       case measure=>simp [intOf];omega
      ·go_wp2_with fail
       (refine wp_region_quiet_grown (by assumption) (by kernel_rfl) ?_;refine iU λDn oH=>?_)
       iterate 24 ((refine wpQuiet_step (λK hK=>?_);refine jO (eX (Hid.out oH) (by kernel_rfl)) ?_;go_simp;first | (refine hK _ ?_;clear hK K) | (apply Exists.intro;refine ⟨λ_=>?_,hK _ ?_⟩;(go_at_call 178;refine Calls.grown_of (HC2.out _ _));clear hK K)))
       (refine wpQuiet_nil ?_;intro _ hw';obtain ⟨⟨nq,osq⟩,hw''⟩:=hw';subst hw'';clear oH Dn)
       have HG2:Hid (Gr wr (grow ((wr.alloc (.cells #[.string cn, .string tn, .slice ca cl cc, .slice ra rl rc] 314)).drewN nq) osq)):=((Gr.refl wr).alloc _).trans (kD nq osq)
       clear s0 s1 s2 s3 y0 y1 HC2
       generalize grow ((wr.alloc (.cells #[.string cn, .string tn, .slice ca cl cc, .slice ra rl rc] 314)).drewN nq) osq=W at *
       have HB2:Hid (Below w.heap.size w W):=HB.out.trans (HG2.out.below.mono HB.out.size)
       have fN:Hid (dX w.heap.size W u5 (eH (cN bU name lv j))):=HO.out.below HG2.out.below
       have HN' : Hid (eH (cN bU name lv (j+1))=eH (cN bU name lv j)):=Tg.out (by rw [HF.out];rw [e1,e2];simpa using e3)
       go_wp2_with fail
       go_roundw
       case rel=>exact ⟨j+1,by omega,by go_num,by rw [HN'.out];exact fN.out,HB2⟩
       case measure=>simp [intOf];omega
    ·go_wp2_with fail
     (refine wp_region_quiet_grown (by assumption) (by kernel_rfl) ?_;refine iU λDn oH=>?_)
     iterate 8 ((refine wpQuiet_step (λK hK=>?_);refine jO (eX (Hid.out oH) (by kernel_rfl)) ?_;go_simp;first | (refine hK _ ?_;clear hK K) | (apply Exists.intro;refine ⟨λ_=>?_,hK _ ?_⟩;(fail);clear hK K)))
     iterate 15 (refine wpQuiet_step (λK hK=>?_);refine tA (eX (Hid.out oH) (by kernel_rfl)) ?_;go_simp;refine hK _ ?_;clear hK K)
     (refine wpQuiet_step (λK hK=>?_);refine jO (eX (Hid.out oH) (by kernel_rfl)) ?_;go_simp;first | (refine hK _ ?_;clear hK K) | (apply Exists.intro;refine ⟨λ_=>?_,hK _ ?_⟩;(fail);clear hK K))
     (refine wpQuiet_nil ?_;intro _ hw';obtain ⟨⟨nq,osq⟩,hw''⟩:=hw';subst hw'';clear oH Dn)
     have HG2:Hid (Gr wr (grow ((wr.alloc (.cells #[.string cn, .string tn, .slice ca cl cc, .slice ra rl rc] 314)).drewN nq) osq)):=((Gr.refl wr).alloc _).trans (kD nq osq)
     clear s0 s1 s2 s3 y0 y1 HC2
     generalize grow ((wr.alloc (.cells #[.string cn, .string tn, .slice ca cl cc, .slice ra rl rc] 314)).drewN nq) osq=W at *
     have HB2:Hid (Below w.heap.size w W):=HB.out.trans (HG2.out.below.mono HB.out.size)
     have fN:Hid (dX w.heap.size W u5 (eH (cN bU name lv j))):=HO.out.below HG2.out.below
     have PG : Hid (eH (cN bU name lv (j+1))=eH (cN bU name lv j) ++ [(j:Int)]):=HY.out (by rw [HF.out];rw [e1];rfl)
     have hL2:(eH (cN bU name lv j)).length<=1100:=by simp [eH];omega
     generalize eH (cN bU name lv j)=M at fN PG hL2
     go_wp2_with (at_builtin;go_must (refine wpList_append_own _ rfl (.tmp 42) (.tmp 44) 206 rfl w.heap.size 3 i0 (.int .i64 0) 1 8 Tryz.underlying206 ji fR jz1 fS rfl (by decide) _ _ _ rfl (fN.out.alloc _) ⟨_,0,none⟩ 1 1 [.int .i64 (j:Int)] rfl rfl (EV _ _ rfl) (pI _) ?c3 ?c4 ?c5 ?_))
     case c3=>unfold maxLen;omega
     case c4=>omega
     case c5=>have:=HB2.out.size;simp;omega
     intro v' w3 hown hgrow _
     have jG:Hid (dX w.heap.size w3 v' (eH (cN bU name lv (j+1)))):=by
      show dX _ _ _ _
      rw [PG.out]
      rw [lY] at hown
      simpa [dX] using hown
     have HB3:Hid (Below w.heap.size w w3):=(HB2.out.alloc HB2.out.size _).grown hgrow (by have:=HB2.out.size;simp;omega) (λq e=>(aB fN.out q e).1)
     clear hown hgrow
     go_wp2_with fail
     go_roundw
     case rel=>exact ⟨j+1,by omega,by go_num,jG,HB3⟩
     case measure=>simp [intOf];omega
   ·have HE:Hid (j=N):=by show _=_;omega
    go_wp2_with fail
    go_ret
    exact ⟨_,rfl,by rw [<- HE.out];exact HO.out,HB.out⟩
end Go.Proofs.YtgnncnhkgmhngaaGreatDoor
