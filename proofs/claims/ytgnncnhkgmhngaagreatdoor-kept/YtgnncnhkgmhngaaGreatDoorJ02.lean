import Derived.Test.YtgnncnhkgmhngaaGreatDoorJ01
namespace Go.Proofs.YtgnncnhkgmhngaaGreatDoor.Sp
structure Tb where
 name:Bs
 cols:List (Bs×Int)
 rows:List (List Sv.Val)
def noTb:Tb:=⟨[], [], []⟩
def findTb (x:Bs):List Tb→Option Tb
 | []=>none
 | t::l=>if t.name == x then some t else findTb x l
def cellOf (x:Bs):List (Bs×Int)→Int
 | []=>-1
 | c::l=>if c.1 == x then 0 else (if cellOf x l<0 then -1 else cellOf x l+1)
structure CS where
 err:Nat
 at_:Nat
 much:Bool
def CS.fail (e a:Nat) (c:CS):CS:=if c.err == 0 then { c with err:=e,at_:=a } else c
def fitF:Int→List Int→Int×Bool
 | f, []=>(f,true)
 | f,t::l=>if f == 0 then fitF t l else if t != 0&&t != f then (0,false) else fitF f l
def fit (l:List Int):Int×Bool:=fitF 0 l
def CS.fit (a:Nat) (l:List Int) (c:CS):Int×CS:=((Sp.fit l).1,if (Sp.fit l).2 then c else c.fail 5 a)
def typeOf (w:Bs) (l:List Int):Int×Bool:=
 if w == [43]||w == [45]||w == [42]||w == [47] then (2,(fit (2::l)).2)
 else if w == [97,110,100]||w == [111,114]||w == [110,111,116] then (1,(fit (1::l)).2)
 else if w == [99,111,97,108,101,115,99,101] then fit l
 else (1,(fit l).2)
abbrev Lv:=List (Bs×Tb)
def tablesFor (tbl name:Bs) (lv:Lv):List Nat:=
 (List.range lv.length).filter fun i=>match lv[i]? with
  | some (called,t)=>tbl == called||(tbl == []&&decide (0≤cellOf name t.cols))
  | none=>false
def column (tbl name:Bs) (a:Nat):Nat→Nat→Int→List Lv→CS→Int×CS×Nd
 | o,sr,ce, [],c=>(0,c.fail 4 a, .col tbl name a o sr ce)
 | o,sr,ce,lv::r,c=>
  match tablesFor tbl name lv with
  | []=>column tbl name a (o+1) sr ce r c
  | i::more=>
   let t:=((lv[i]?).map (·.2)).getD noTb
   let k:=cellOf name t.cols
   if more.isEmpty&&decide (0≤k) then (((t.cols[k.toNat]?).map (·.2)).getD 0,c, .col tbl name a o i k)
   else (0,c.fail 4 a, .col tbl name a o i k)
def product:List Lv→Nat→Nat
 | [],p=>p
 | lv::r,p=>product r (lv.foldl (fun q x=>min (q*max 1 x.2.rows.length) 1001) p)
def fromC (T:List Tb):List (Nm×Nm)→Lv→CS→Lv×CS
 | [],lv,c=>(lv,c)
 | (t,k)::r,lv,c=>
  let c1:=match findTb t.1 T with | some _=>c | none=>c.fail 4 t.2
  let c2:=if lv.any (fun x=>x.1 == k.1) then c1.fail 4 k.2 else c1
  fromC T r (lv ++ [(k.1,(findTb t.1 T).getD noTb)]) c2
def CS.note (lvs:List Lv) (c:CS):CS:=if 1000<product lvs 1 then { c with much:=true } else c
def zipFit (a:Nat):List Int→List Int→CS→List Int×CS
 | x::l,y::m,c=>let r:=c.fit a [x,y];let r':=zipFit a l m r.2;(r.1::r'.1,r'.2)
 | _,_,c=>([],c)
def ck (T:List Tb):Nd→List Lv→Int→CS→List Int×CS×Nd
 | .nil,_,made,c=>([made],c, .nil)
 | .none,_,_,c=>([],c, .none)
 | .cons h t,lvs,made,c=>
  let r:=ck T h lvs made c
  let r':=ck T t lvs made r.2.1
  (r.1++r'.1,r'.2.1, .cons r.2.2 r'.2.2)
 | .clause a e,lvs,made,c=>
  let r:=ck T e lvs made c
  (r.1,r.2.1, .clause a r.2.2)
 | .const v,_,_,c=>([v.k],c, .const v)
 | .col tbl name a _o sr ce,lvs,_,c=>let r:=column tbl name a 0 sr ce lvs c;([r.1],r.2.1,r.2.2)
 | .op w a args,lvs,made,c=>
  let r:=ck T args lvs made c
  let t:=typeOf w r.1.dropLast
  ([t.1],if t.2 then r.2.1 else r.2.1.fail 5 a, .op w a r.2.2)
 | .kase arms els,lvs,_,c=>
  let r:=ck T arms lvs 0 c
  let m:=r.1.headD 0
  let r':=ck T els lvs 0 r.2.1
  match els with
  | .clause a _=>let f:=r'.2.1.fit a [m,r'.1.headD 0];([f.1],f.2, .kase r.2.2 r'.2.2)
  | _=>([m],r'.2.1, .kase r.2.2 r'.2.2)
 | .arms wa w ta t rest,lvs,made,c=>
  let r:=ck T w lvs 0 c
  let f:=r.2.1.fit wa [1,r.1.headD 0]
  let r':=ck T t lvs 0 f.2
  let g:=r'.2.1.fit ta [made,r'.1.headD 0]
  let q:=ck T rest lvs g.1 g.2
  (q.1,q.2.1, .arms wa r.2.2 ta r'.2.2 q.2.2)
 | .within w a args q,lvs,_,c=>
  let r:=ck T args lvs 0 c
  let r':=ck T q lvs 0 r.2.1
  let nd:=Nd.within w a r.2.2 r'.2.2
  if w == [101,120,105,115,116,115] then ([1],r'.2.1,nd)
  else if r'.1.length != 1 then ([0],r'.2.1.fail 6 a,nd)
  else
   let f:=r'.2.1.fit a (r.1.dropLast++r'.1)
   if w == [105,110] then ([1],f.2,nd) else ([f.1],f.2,nd)
 | .comb w a all p q,lvs,_,c=>
  let r:=ck T p lvs 0 c
  let r':=ck T q lvs 0 r.2.1
  let nd:=Nd.comb w a all r.2.2 r'.2.2
  if r.1.length != r'.1.length then (r.1,r'.2.1.fail 6 a,nd)
  else let z:=zipFit a r.1 r'.1 r'.2.1;(z.1,z.2,nd)
 | .sel di st ex src wh,lvs,_,c=>
  let f:=fromC T src [] c
  let c1:=f.2.note (f.1::lvs)
  let r:=ck T ex (f.1::lvs) 0 c1
  let tys:=match ex with | .none=>f.1.flatMap (fun x=>x.2.cols.map (·.2)) | _=>r.1.dropLast
  let c2:=match ex with | .none=>(if src.isEmpty then r.2.1.fail 6 st else r.2.1) | _=>r.2.1
  let r':=ck T wh (f.1::lvs) 0 c2
  let c3:=match wh with | .clause a _=>(r'.2.1.fit a [1,r'.1.headD 0]).2 | _=>r'.2.1
  (tys,c3, .sel di st r.2.2 src r'.2.2)
def cond (T:List Tb) (wh:Nd) (lvs:List Lv) (c:CS):CS×Nd:=
 let r:=ck T wh lvs 0 c
 (match wh with | .clause a _=>(r.2.1.fit a [1,r.1.headD 0]).2 | _=>r.2.1,r.2.2)
def fill (t:Tb) (a:Nat) (tys:List Int) (c:CS):CS:=
 if tys.length != t.cols.length then c.fail 6 a
 else (t.cols.zip tys).foldl (fun c x=>(c.fit a [x.1.2,x.2]).2) c
def tableC (T:List Tb) (x:Nm) (c:CS):Tb×CS:=
 match findTb x.1 T with | some t=>(t,c) | none=>(noTb,c.fail 4 x.2)
def colsC:List (Nm×Int)→List (Bs×Int)→CS→CS
 | [],_,c=>c
 | (n,t)::r,done,c=>colsC r (done ++ [(n.1,t)]) (if 0≤cellOf n.1 done then c.fail 4 n.2 else c)
def rowsC (T:List Tb) (t:Tb):List (Nat×Nd)→CS→CS×List (Nat×Nd)
 | [],c=>(c, [])
 | (a,e)::r,c=>
  let x:=ck T e [] 0 c
  let q:=rowsC T t r (fill t a x.1.dropLast x.2.1)
  (q.1,(a,x.2.2)::q.2)
def setsC (T:List Tb) (t:Tb) (lvs:List Lv):List (Nm×Nat×Nd)→List Bs→CS→CS×List (Nm×Nat×Nd)×Bool
 | [],_,c=>(c, [],true)
 | (n,a,e)::r,done,c=>
  if decide (cellOf n.1 t.cols<0)||done.contains n.1 then (c.fail 4 n.2,(n,a,e)::r,false)
  else
   let x:=ck T e lvs 0 c
   let ty:=((t.cols[(cellOf n.1 t.cols).toNat]?).map (·.2)).getD 0
   let q:=setsC T t lvs r (done ++ [n.1]) (x.2.1.fit a [ty,x.1.headD 0]).2
   (q.1,(n,a,x.2.2)::q.2.1,q.2.2)
def check (T:List Tb) (s:Stm):CS×Stm:=
 let c0:CS:=⟨0,0,false⟩
 match s with
 | .create t cols=>
  let c1:=match findTb t.1 T with | some _=>c0.fail 4 t.2 | none=>c0
  ({ colsC cols [] c1 with much:=decide (8≤T.length) },s)
 | .drop t=>((tableC T t c0).2,s)
 | .insertV i t rows=>
  let f:=tableC T t c0
  let q:=rowsC T f.1 rows f.2
  (q.1, .insertV i t q.2)
 | .insertQ i t q=>
  let f:=tableC T t c0
  let r:=ck T q [] 0 f.2
  (fill f.1 i r.1 r.2.1, .insertQ i t r.2.2)
 | .delete t wh=>
  let f:=tableC T t c0
  let r:=cond T wh [[(f.1.name,f.1)]] f.2
  (r.1, .delete t r.2)
 | .update t sets wh=>
  let f:=tableC T t c0
  let q:=setsC T f.1 [[(f.1.name,f.1)]] sets [] f.2
  if q.2.2 then
   let r:=cond T wh [[(f.1.name,f.1)]] q.1
   (r.1, .update t q.2.1 r.2)
  else (q.1, .update t q.2.1 wh)
 | .trans _=>(c0,s)
 | .query q=>let r:=ck T q [] 0 c0;(r.2.1, .query r.2.2)
def CS.out (c:CS):Nat×Nat:=if c.err == 0&&c.much then (8,0) else (c.err,c.at_)
inductive Kd where | expr | list | arms | cl | query
 deriving DecidableEq
def Nd.len:Nd→Nat
 | .cons _ t=>t.len+1
 | .arms _ _ _ _ r=>r.len+1
 | _=>0
def arity (w:Bs) (n:Nat):Bool:=
 if w == [105,115]||w == [110,111,116] then n == 1
 else if w == [45] then n == 1||n == 2
 else if w == [99,111,97,108,101,115,99,101] then 1≤n
 else n == 2
def wf (N:Nat):Nd→Kd→Prop
 | .nil,k=>k = .list∨k = .arms
 | .cons h t,k=>k = .list∧wf N h .expr∧wf N t .list
 | .none,k=>k = .cl
 | .clause _ e,k=>k = .cl∧wf N e .expr
 | .const _,k=>k = .expr
 | .col _ _ _ _ _ _,k=>k = .expr
 | .op w _ args,k=>k = .expr∧wf N args .list∧args.len≤N∧arity w args.len=true
 | .kase _ _,_=>False
 | .arms _ w _ t rest,k=>k = .arms∧wf N w .expr∧wf N t .expr∧wf N rest .arms
 | .within _ _ _ _,_=>False
 | .comb _ _ _ _ _,_=>False
 | .sel _ _ ex src wh,k=>k = .query∧(ex = .none∨(1≤ex.len∧ex.len≤N∧wf N ex .list))∧src.length≤1100∧wf N wh .cl
theorem step_dead (s:Bs) (x a:Nat):St.step s (.dead x a) = .dead x a:=rfl
theorem fail_dead (s:Bs) (y x a:Nat):St.fail s y (.dead x a) = .dead x a:=rfl
theorem is_dead (s w:Bs) (x a:Nat):St.is s w (.dead x a)=false:=rfl
theorem isCl_dead (s:Bs) (c:Cl) (x a:Nat):St.isCl s c (.dead x a)=false:=rfl
theorem take_dead (s w:Bs) (x a:Nat):St.take s w (.dead x a) = .dead x a:=by simp [St.take,St.is]
theorem must_dead (s w:Bs) (x a:Nat):St.must s w (.dead x a) = .dead x a:=by simp [St.must,St.is,St.fail]
theorem nameT_dead (s:Bs) (x a:Nat):St.nameT s (.dead x a) = .dead x a:=by simp [St.nameT,St.isCl,St.fail]
theorem openT_dead (s:Bs) (d x a:Nat):St.openT s d (.dead x a) = .dead x a:=by simp [St.openT,St.step,St.fail]
theorem opened_dead (s w:Bs) (d x a:Nat):St.opened s w d (.dead x a) = .dead x a:=by simp [St.opened,St.is,St.fail]
theorem isCmp_dead (s:Bs) (x a:Nat):St.isCmp s (.dead x a)=false:=rfl
theorem run_dead (s:Bs):∀ (n:Nat) (nt:Nt) (d x a:Nat),run s n nt d (.dead x a) = .dead x a
 | 0,nt,d,x,a=>by cases nt <;> rfl
 | n+1,nt,d,x,a=>by
  cases nt <;> simp [run,fail_dead,is_dead,isCl_dead,take_dead,must_dead,nameT_dead,isCmp_dead,run_dead s n]
theorem live_run {s:Bs} {n:Nat} {nt:Nt} {d:Nat} {σ:St} (h:(run s n nt d σ).isLive=true):σ.isLive=true:=by
 cases σ with | live e=>rfl | dead x a=>rw [run_dead] at h;exact h
theorem live_step {s:Bs} {σ:St} (h:(σ.step s).isLive=true):σ.isLive=true:=by
 cases σ with | live e=>rfl | dead x a=>exact h
theorem live_must {s w:Bs} {σ:St} (h:(σ.must s w).isLive=true):σ.isLive=true:=by
 cases σ with | live e=>rfl | dead x a=>rw [must_dead] at h;exact h
theorem live_take {s w:Bs} {σ:St} (h:(σ.take s w).isLive=true):σ.isLive=true:=by
 cases σ with | live e=>rfl | dead x a=>rw [take_dead] at h;exact h
theorem live_nameT {s:Bs} {σ:St} (h:(σ.nameT s).isLive=true):σ.isLive=true:=by
 cases σ with | live e=>rfl | dead x a=>rw [nameT_dead] at h;exact h
theorem live_openT {s:Bs} {d:Nat} {σ:St} (h:(σ.openT s d).isLive=true):σ.isLive=true:=by
 cases σ with | live e=>rfl | dead x a=>rw [openT_dead] at h;exact h
theorem live_opened {s w:Bs} {d:Nat} {σ:St} (h:(σ.opened s w d).isLive=true):σ.isLive=true:=by
 cases σ with | live e=>rfl | dead x a=>rw [opened_dead] at h;exact h
theorem live_is {s w:Bs} {σ:St} (h:σ.is s w=true):σ.isLive=true:=by
 cases σ with | live e=>rfl | dead x a=>exact absurd h (by simp [is_dead])
theorem live_isCl {s:Bs} {c:Cl} {σ:St} (h:σ.isCl s c=true):σ.isLive=true:=by
 cases σ with | live e=>rfl | dead x a=>exact absurd h (by simp [isCl_dead])
theorem live_fail {s:Bs} {x:Nat} {σ:St} (h:(σ.fail s x).isLive=true):False:=by
 cases σ <;> simp [St.fail,St.isLive] at h
theorem lapp_snoc (l:List Nd) (x t:Nd):lapp (l ++ [x]) t=lapp l (.cons x t):=by simp [lapp]
def lvT (T:List Tb) (src:List (Nm×Nm)):Lv:=src.map fun x=>(x.2.1,(findTb x.1.1 T).getD noTb)
def bd (T:List Tb):Nd→List Lv→Prop
 | .cons h t,lvs=>bd T h lvs∧bd T t lvs
 | .clause _ e,lvs=>bd T e lvs
 | .col _ _ _ o sr ce,lvs=>∃ lv x,lvs[o]?=some lv∧lv[sr]?=some x∧0≤ce∧ce.toNat<x.2.cols.length
 | .op _ _ args,lvs=>bd T args lvs
 | .kase arms els,lvs=>bd T arms lvs∧bd T els lvs
 | .arms _ w _ t rest,lvs=>bd T w lvs∧bd T t lvs∧bd T rest lvs
 | .within _ _ args q,lvs=>bd T args lvs∧bd T q lvs
 | .comb _ _ _ p q,lvs=>bd T p lvs∧bd T q lvs
 | .sel _ _ ex src wh,lvs=>(∀ x∈src,(findTb x.1.1 T).isSome=true)∧product (lvT T src::lvs) 1≤1000∧bd T ex (lvT T src::lvs)∧bd T wh (lvT T src::lvs)
 | _,_=>True
end Go.Proofs.YtgnncnhkgmhngaaGreatDoor.Sp
