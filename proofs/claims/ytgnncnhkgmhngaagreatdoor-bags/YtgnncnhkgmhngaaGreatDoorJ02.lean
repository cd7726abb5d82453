import Derived.Test.YtgnncnhkgmhngaaGreatDoorJ01
namespace Go.Proofs.YtgnncnhkgmhngaaGreatDoor.Sv
structure Val where
 k:Int
 n:Int
 s:ByteArray
 deriving DecidableEq
def null:Val:=⟨0,0,⟨#[]⟩⟩
def int (n:Int):Val:=⟨2,n,⟨#[]⟩⟩
def text (s:ByteArray):Val:=⟨3,0,s⟩
def bool (b:Bool):Val:=⟨1,if b then 1 else 0,⟨#[]⟩⟩
def isNull (v:Val):Bool:=decide (v.k=0)
def isTrue (v:Val):Bool:=decide (v=bool true)
def dY (a b:Int):Int:=if a<b then -1 else if b<a then 1 else 0
def nD:List UInt8->List UInt8->Bool
 | _, []=>false
 | [],_::_=>true
 | x::a,y::b=>if x<y then true else if y<x then false else nD a b
def nR (a b:List UInt8):Int:=if nD a b then -1 else if nD b a then 1 else 0
def Au:List Int->Int
 | []=>0
 | x::l=>if x=0 then Au l else x
def cmp (a b:Val):Int:=Au [dY a.k b.k,dY a.n b.n,nR a.s.toList b.s.toList]
def wrap (x:Int):Int:=(x+9223372036854775808) % 18446744073709551616 - 9223372036854775808
def compared (w:Sp.Bs) (o:Int):Bool:=
 if w == [61] then decide (o=0) else if w == [60,62] then decide (o≠0) else if w == [60] then decide (o<0)
 else if w == [60,61] then decide (o<=0) else if w == [62] then decide (0<o) else decide (0<=o)
def decided (t:Val) (l:List Val):Val:=
 if l.contains t then t else if l.any isNull then null else bool (!isTrue t)
def bL:List Val->Val
 | []=>null
 | v::l=>if isNull v then bL l else v
end Go.Proofs.YtgnncnhkgmhngaaGreatDoor.Sv
namespace Go.Proofs.YtgnncnhkgmhngaaGreatDoor.Sp
abbrev Nm:=Bs×Nat
inductive Nd where
 | nil | cons (h t:Nd)
 | none | clause (a:Nat) (e:Nd)
 | const (v:Sv.Val)
 | col (bU name:Bs) (a:Nat) (out src:Nat) (cell:Int)
 | op (word:Bs) (a:Nat) (args:Nd)
 | dW (arms els:Nd)
 | arms (wa:Nat) (w:Nd) (ta:Nat) (t rest:Nd)
 | within (word:Bs) (a:Nat) (args q:Nd)
 | comb (word:Bs) (a:Nat) (all:Bool) (x y:Nd)
 | sel (dist:Bool) (star:Nat) (exprs:Nd) (src:List (Nm×Nm)) (wh:Nd)
inductive wB where
 | create (t:Nm) (cols:List (Nm×Int))
 | drop (t:Nm)
 | dH (into:Nat) (t:Nm) (rows:List (Nat×Nd))
 | eO (into:Nat) (t:Nm) (q:Nd)
 | delete (t:Nm) (wh:Nd)
 | update (t:Nm) (sets:List (Nm×Nat×Nd)) (wh:Nd)
 | trans (word:Bs)
 | query (q:Nd)
def St.at_ (s:Bs):St->Nat
 | .live e=>aO s e
 | .dead _ _=>0
def St.word (s:Bs):St->Bs
 | .live e=>bW s e
 | .dead _ _ => []
def St.aA:St->Bool
 | .live _=>true
 | .dead _ _=>false
def KI:Bs->Bs
 | [] => []
 | [c] => [c]
 | c::c'::r=>if c == 39&&c' == 39 then c::KI r else c::KI (c'::r)
def kC (l:Bs):Bs:=KI ((l.drop 1).take (l.length - 2))
def arm (a t rest:Nd):Nd:=
 match a,t with
 | .clause wa w, .clause ta t => .arms wa w ta t rest
 | _,_ => .nil
def yG (a t:Nd):Nd->Nd
 | .dW as e => .dW (arm a t as) e
 | y=>y
def gG (l:List Nd) (t:Nd):Nd:=l.foldr .cons t
def St.nm (s:Bs) (σ:St):Nm:=(σ.word s,σ.at_ s)
def tr (s:Bs):Nat->Nt->Nat->Nd->St->Nd
 | 0,_,_,a,_=>a
 | n+1, .expr,d,_,σ=>tr s n .If d (tr s n .both d .nil σ) (run s n .both d σ)
 | n+1, .If,d,a,σ=>if σ.is s [111,114] then tr s n .If d (.op (σ.word s) (σ.at_ s) (.cons a (.cons (tr s n .both d .nil (σ.step s)) .nil))) (run s n .both d (σ.step s)) else a
 | n+1, .both,d,_,σ=>tr s n .sV d (tr s n .no d .nil σ) (run s n .no d σ)
 | n+1, .sV,d,a,σ=>if σ.is s [97,110,100] then tr s n .sV d (.op (σ.word s) (σ.at_ s) (.cons a (.cons (tr s n .no d .nil (σ.step s)) .nil))) (run s n .no d (σ.step s)) else a
 | n+1, .no,d,_,σ=>if σ.is s [110,111,116] then .op (σ.word s) (σ.at_ s) (.cons (tr s n .no (d+1) .nil (σ.dF s d)) .nil) else tr s n .compare d .nil σ
 | n+1, .compare,d,_,σ=>
  let a1:=tr s n .sum d .nil σ
  let σ1:=run s n .sum d σ
  if σ1.hZ s then .op (σ1.word s) (σ1.at_ s) (.cons a1 (.cons (tr s n .sum d .nil (σ1.step s)) .nil))
  else if σ1.is s [105,115] then
   (if (σ1.step s).is s [110,111,116] then .op ((σ1.step s).word s) ((σ1.step s).at_ s) (.cons (.op (σ1.word s) (σ1.at_ s) (.cons a1 .nil)) .nil) else .op (σ1.word s) (σ1.at_ s) (.cons a1 .nil))
  else if σ1.is s [110,111,116] then .op (σ1.word s) (σ1.at_ s) (.cons (.within ((σ1.step s).word s) ((σ1.step s).at_ s) (.cons a1 .nil) (tr s n .query (d+1) .nil (((σ1.step s).must s [105,110]).opened s [40] d))) .nil)
  else if σ1.is s [105,110] then .within (σ1.word s) (σ1.at_ s) (.cons a1 .nil) (tr s n .query (d+1) .nil ((σ1.step s).opened s [40] d))
  else a1
 | n+1, .sum,d,_,σ=>tr s n .sW d (tr s n .product d .nil σ) (run s n .product d σ)
 | n+1, .sW,d,a,σ=>if σ.is s [43]||σ.is s [45] then tr s n .sW d (.op (σ.word s) (σ.at_ s) (.cons a (.cons (tr s n .product d .nil (σ.step s)) .nil))) (run s n .product d (σ.step s)) else a
 | n+1, .product,d,_,σ=>tr s n .lH d (tr s n .unary d .nil σ) (run s n .unary d σ)
 | n+1, .lH,d,a,σ=>if σ.is s [42]||σ.is s [47] then tr s n .lH d (.op (σ.word s) (σ.at_ s) (.cons a (.cons (tr s n .unary d .nil (σ.step s)) .nil))) (run s n .unary d (σ.step s)) else a
 | n+1, .unary,d,_,σ=>if σ.is s [45] then .op (σ.word s) (σ.at_ s) (.cons (tr s n .unary (d+1) .nil (σ.dF s d)) .nil) else tr s n .atom d .nil σ
 | n+1, .atom,d,_,σ=>
  if σ.cG s .num then .const (Sv.int (dB (σ.word s)))
  else if σ.cG s .txt then .const (Sv.text ⟨(kC (σ.word s)).toArray⟩)
  else if σ.is s [116,114,117,101] then .const (Sv.bool true)
  else if σ.is s [102,97,108,115,101] then .const (Sv.bool false)
  else if σ.is s [110,117,108,108] then .const Sv.null
  else if σ.cG s .name then (if (σ.step s).is s [46] then .col (σ.word s) (((σ.step s).step s).word s) (σ.at_ s) 0 0 0 else .col [] (σ.word s) (σ.at_ s) 0 0 0)
  else if σ.is s [40] then (if σ.asks s then .within (σ.word s) (σ.at_ s) .nil (tr s n .query (d+1) .nil (σ.dF s d)) else tr s n .expr (d+1) .nil (σ.dF s d))
  else if σ.is s [101,120,105,115,116,115] then .within (σ.word s) (σ.at_ s) .nil (tr s n .query (d+1) .nil ((σ.step s).opened s [40] d))
  else if σ.is s [99,111,97,108,101,115,99,101] then .op (σ.word s) (σ.at_ s) (tr s n .list (d+1) .nil ((σ.step s).opened s [40] d))
  else tr s n .cX (d+1) .nil (σ.dF s d)
 | n+1, .list,d,_,σ => .cons (tr s n .expr d .nil σ) (tr s n .gV d .nil (run s n .expr d σ))
 | n+1, .gV,d,_,σ=>if σ.is s [44] then .cons (tr s n .expr d .nil (σ.step s)) (tr s n .gV d .nil (run s n .expr d (σ.step s))) else .nil
 | n+1, .cX,d,_,σ=>tr s n .caseT d (.clause (σ.at_ s) (tr s n .expr d .nil (σ.must s [119,104,101,110]))) (run s n .expr d (σ.must s [119,104,101,110]))
 | n+1, .caseT,d,a,σ=>
  let t := .clause (σ.at_ s) (tr s n .expr d .nil (σ.must s [116,104,101,110]))
  let σ1:=run s n .expr d (σ.must s [116,104,101,110])
  if σ1.is s [119,104,101,110] then yG a t (tr s n .cX d .nil σ1) else if σ1.is s [101,108,115,101] then .dW (arm a t .nil) (tr s n .pA d .nil σ1) else .dW (arm a t .nil) .none
 | n+1, .pA,d,_,σ => .clause (σ.at_ s) (tr s n .expr d .nil (σ.must s [101,108,115,101]))
 | n+1, .query,d,_,σ=>tr s n .iA d (tr s n .term d .nil σ) (run s n .term d σ)
 | n+1, .iA,d,a,σ=>if σ.is s [117,110,105,111,110]||σ.is s [101,120,99,101,112,116] then tr s n .iA d (.comb (σ.word s) (σ.at_ s) ((σ.step s).is s [97,108,108]) a (tr s n .term d .nil ((σ.step s).take s [97,108,108]))) (run s n .term d ((σ.step s).take s [97,108,108])) else a
 | n+1, .term,d,_,σ=>tr s n .lI d (tr s n .factor d .nil σ) (run s n .factor d σ)
 | n+1, .lI,d,a,σ=>if σ.is s [105,110,116,101,114,115,101,99,116] then tr s n .lI d (.comb (σ.word s) (σ.at_ s) ((σ.step s).is s [97,108,108]) a (tr s n .factor d .nil ((σ.step s).take s [97,108,108]))) (run s n .factor d ((σ.step s).take s [97,108,108])) else a
 | n+1, .factor,d,_,σ=>
  if σ.is s [40] then tr s n .query (d+1) .nil (σ.dF s d)
  else
   let uZ:=σ.must s [115,101,108,101,99,116]
   let σ1:=uZ.take s [100,105,115,116,105,110,99,116]
   let ex:=if σ1.is s [42] then Nd.none else tr s n .list d .nil σ1
   let σ2:=if σ1.is s [42] then σ1.step s else run s n .list d σ1
   let fr:=if σ2.is s [102,114,111,109] then froms s n (σ2.step s) else []
   let σ3:=if σ2.is s [102,114,111,109] then run s n .eU d (σ2.step s) else σ2
   .sel (uZ.is s [100,105,115,116,105,110,99,116]) (σ1.at_ s) ex fr (tr s n .dK d .nil σ3)
 | _+1, .eU,_,_,_ => .nil
 | n+1, .dK,d,_,σ=>if σ.is s [119,104,101,114,101] then .clause (σ.at_ s) (tr s n .expr d .nil (σ.step s)) else .none
 where
 froms (s:Bs):Nat->St->List (Nm×Nm)
 | 0,_ => []
 | n+1,σ=>
  let σ1:=σ.aC s
  let σ2:=if σ1.cG s .name then σ1.step s else σ1
  let one:=(σ.nm s,if σ1.cG s .name then σ1.nm s else σ.nm s)
  if σ2.is s [44] then one::froms s n (σ2.step s) else [one]
def kS (s:Bs) (σ:St):Int:=if σ.is s [105,110,116] then 2 else if σ.is s [116,101,120,116] then 3 else if σ.is s [98,111,111,108] then 1 else 0
def nV (s:Bs):Nat->Nat->St->List (Nm×Int)
 | 0,_,_ => []
 | n+1,c,σ=>
  let uZ:=if c == 6 then σ.fail s 2 else σ
  let σ1:=uZ.aC s
  let σ2:=if σ1.is s [105,110,116]||σ1.is s [116,101,120,116]||σ1.is s [98,111,111,108] then σ1.step s else σ1.fail s 2
  (uZ.nm s,kS s σ1)::(if σ2.is s [44] then nV s n (c+1) (σ2.step s) else [])
def nW (s:Bs) (n:Nat):Nat->St->List (Nat×Nd)
 | 0,_ => []
 | m+1,σ=>let σ1:=rowT s n σ;(σ.at_ s,tr s n .list 0 .nil (σ.must s [40]))::(if σ1.is s [44] then nW s n m (σ1.step s) else [])
def lL (s:Bs) (n:Nat):Nat->St->List (Nm×Nat×Nd)
 | 0,_ => []
 | m+1,σ=>let σ1:=pB s n σ;(σ.nm s,(σ.aC s).at_ s,tr s n .expr 0 .nil ((σ.aC s).must s [61]))::(if σ1.is s [44] then lL s n m (σ1.step s) else [])
def sC (s:Bs) (n:Nat) (σ:St):wB:=
 if σ.is s [99,114,101,97,116,101] then
  let σ1:=(σ.step s).must s [116,97,98,108,101]
  .create (σ1.nm s) (nV s n 0 ((σ1.aC s).must s [40]))
 else if σ.is s [100,114,111,112] then .drop (((σ.step s).must s [116,97,98,108,101]).nm s)
 else if σ.is s [105,110,115,101,114,116] then
  let uZ:=(σ.step s).must s [105,110,116,111]
  let σ1:=uZ.aC s
  if σ1.is s [118,97,108,117,101,115] then .dH ((σ.step s).at_ s) (uZ.nm s) (nW s n n (σ1.step s)) else .eO ((σ.step s).at_ s) (uZ.nm s) (tr s n .query 0 .nil σ1)
 else if σ.is s [100,101,108,101,116,101] then
  let uZ:=(σ.step s).must s [102,114,111,109]
  .delete (uZ.nm s) (tr s n .dK 0 .nil (uZ.aC s))
 else if σ.is s [117,112,100,97,116,101] then
  let uZ:=((σ.step s).aC s).must s [115,101,116]
  .update ((σ.step s).nm s) (lL s n n uZ) (tr s n .dK 0 .nil (iQ s n n uZ))
 else if σ.is s [98,101,103,105,110]||σ.is s [99,111,109,109,105,116]||σ.is s [114,111,108,108,98,97,99,107] then .trans (σ.word s)
 else .query (tr s n .query 0 .nil σ)
def tree (s:Bs):wB:=sC s (fuel s) (.live 0)
structure Tb where
 name:Bs
 cols:List (Bs×Int)
 rows:List (List Sv.Val)
def iR:Tb:=⟨[], [], []⟩
def aG (x:Bs):List Tb->Option Tb
 | []=>none
 | t::l=>if t.name == x then some t else aG x l
def cellOf (x:Bs):List (Bs×Int)->Int
 | []=>-1
 | c::l=>if c.1 == x then 0 else (if cellOf x l<0 then -1 else cellOf x l+1)
structure CS where
 err:Nat
 at_:Nat
 much:Bool
def CS.fail (e a:Nat) (c:CS):CS:=if c.err == 0 then { c with err:=e,at_:=a } else c
def lM:Int->List Int->Int×Bool
 | f, []=>(f,true)
 | f,t::l=>if f == 0 then lM t l else if t != 0&&t != f then (0,false) else lM f l
def fit (l:List Int):Int×Bool:=lM 0 l
def CS.fit (a:Nat) (l:List Int) (c:CS):Int×CS:=((Sp.fit l).1,if (Sp.fit l).2 then c else c.fail 5 a)
def typeOf (w:Bs) (l:List Int):Int×Bool:=
 if w == [43]||w == [45]||w == [42]||w == [47] then (2,(fit (2::l)).2)
 else if w == [97,110,100]||w == [111,114]||w == [110,111,116] then (1,(fit (1::l)).2)
 else if w == [99,111,97,108,101,115,99,101] then fit l
 else (1,(fit l).2)
abbrev Lv:=List (Bs×Tb)
def b7 (bU name:Bs) (lv:Lv):List Nat:=
 (List.range lv.length).filter λi=>match lv[i]? with
  | some (called,t)=>bU == called||(bU == []&&decide (0<=cellOf name t.cols))
  | none=>false
def column (bU name:Bs) (a:Nat):Nat->Nat->Int->List Lv->CS->Int×CS×Nd
 | o,sr,ce, [],c=>(0,c.fail 4 a, .col bU name a o sr ce)
 | o,sr,ce,lv::r,c=>
  match b7 bU name lv with
  | []=>column bU name a (o+1) sr ce r c
  | i::more=>
   let t:=((lv[i]?).map (·.2)).getD iR
   let k:=cellOf name t.cols
   if more.isEmpty&&decide (0<=k) then (((t.cols[k.toNat]?).map (·.2)).getD 0,c, .col bU name a o i k)
   else (0,c.fail 4 a, .col bU name a o i k)
def product:List Lv->Nat->Nat
 | [],p=>p
 | lv::r,p=>product r (lv.foldl (λq x=>min (q*max 1 x.2.rows.length) 1001) p)
def bI (T:List Tb):List (Nm×Nm)->Lv->CS->Lv×CS
 | [],lv,c=>(lv,c)
 | (t,k)::r,lv,c=>
  let c1:=match aG t.1 T with | some _=>c | none=>c.fail 4 t.2
  let c2:=if lv.any (λx=>x.1 == k.1) then c1.fail 4 k.2 else c1
  bI T r (lv ++ [(k.1,(aG t.1 T).getD iR)]) c2
def CS.note (aE:List Lv) (c:CS):CS:=if 1000<product aE 1 then { c with much:=true } else c
def dV (a:Nat):List Int->List Int->CS->List Int×CS
 | x::l,y::m,c=>let r:=c.fit a [x,y];let r':=dV a l m r.2;(r.1::r'.1,r'.2)
 | _,_,c=>([],c)
def ck (T:List Tb):Nd->List Lv->Int->CS->List Int×CS×Nd
 | .nil,_,made,c=>([made],c, .nil)
 | .none,_,_,c=>([],c, .none)
 | .cons h t,aE,made,c=>
  let r:=ck T h aE made c
  let r':=ck T t aE made r.2.1
  (r.1++r'.1,r'.2.1, .cons r.2.2 r'.2.2)
 | .clause a e,aE,made,c=>
  let r:=ck T e aE made c
  (r.1,r.2.1, .clause a r.2.2)
 | .const v,_,_,c=>([v.k],c, .const v)
 | .col bU name a _o sr ce,aE,_,c=>let r:=column bU name a 0 sr ce aE c;([r.1],r.2.1,r.2.2)
 | .op w a args,aE,made,c=>
  let r:=ck T args aE made c
  let t:=typeOf w r.1.dropLast
  ([t.1],if t.2 then r.2.1 else r.2.1.fail 5 a, .op w a r.2.2)
 | .dW arms els,aE,_,c=>
  let r:=ck T arms aE 0 c
  let m:=r.1.headD 0
  let r':=ck T els aE 0 r.2.1
  match els with
  | .clause a _=>let f:=r'.2.1.fit a [m,r'.1.headD 0];([f.1],f.2, .dW r.2.2 r'.2.2)
  | _=>([m],r'.2.1, .dW r.2.2 r'.2.2)
 | .arms wa w ta t rest,aE,made,c=>
  let r:=ck T w aE 0 c
  let f:=r.2.1.fit wa [1,r.1.headD 0]
  let r':=ck T t aE 0 f.2
  let g:=r'.2.1.fit ta [made,r'.1.headD 0]
  let q:=ck T rest aE g.1 g.2
  (q.1,q.2.1, .arms wa r.2.2 ta r'.2.2 q.2.2)
 | .within w a args q,aE,_,c=>
  let r:=ck T args aE 0 c
  let r':=ck T q aE 0 r.2.1
  let nd:=Nd.within w a r.2.2 r'.2.2
  if w == [101,120,105,115,116,115] then ([1],r'.2.1,nd)
  else if r'.1.length != 1 then ([0],r'.2.1.fail 6 a,nd)
  else
   let f:=r'.2.1.fit a (r.1.dropLast++r'.1)
   if w == [105,110] then ([1],f.2,nd) else ([f.1],f.2,nd)
 | .comb w a all p q,aE,_,c=>
  let r:=ck T p aE 0 c
  let r':=ck T q aE 0 r.2.1
  let nd:=Nd.comb w a all r.2.2 r'.2.2
  if r.1.length != r'.1.length then (r.1,r'.2.1.fail 6 a,nd)
  else let z:=dV a r.1 r'.1 r'.2.1;(z.1,z.2,nd)
 | .sel di st ex src wh,aE,_,c=>
  let f:=bI T src [] c
  let c1:=f.2.note (f.1::aE)
  let r:=ck T ex (f.1::aE) 0 c1
  let iM:=match ex with | .none=>f.1.flatMap (λx=>x.2.cols.map (·.2)) | _=>r.1.dropLast
  let c2:=match ex with | .none=>(if src.isEmpty then r.2.1.fail 6 st else r.2.1) | _=>r.2.1
  let r':=ck T wh (f.1::aE) 0 c2
  let c3:=match wh with | .clause a _=>(r'.2.1.fit a [1,r'.1.headD 0]).2 | _=>r'.2.1
  (iM,c3, .sel di st r.2.2 src r'.2.2)
def cond (T:List Tb) (wh:Nd) (aE:List Lv) (c:CS):CS×Nd:=
 let r:=ck T wh aE 0 c
 (match wh with | .clause a _=>(r.2.1.fit a [1,r.1.headD 0]).2 | _=>r.2.1,r.2.2)
def fill (t:Tb) (a:Nat) (iM:List Int) (c:CS):CS:=
 if iM.length != t.cols.length then c.fail 6 a
 else (t.cols.zip iM).foldl (λc x=>(c.fit a [x.1.2,x.2]).2) c
def aR (T:List Tb) (x:Nm) (c:CS):Tb×CS:=
 match aG x.1 T with | some t=>(t,c) | none=>(iR,c.fail 4 x.2)
def rH:List (Nm×Int)->List (Bs×Int)->CS->CS
 | [],_,c=>c
 | (n,t)::r,done,c=>rH r (done ++ [(n.1,t)]) (if 0<=cellOf n.1 done then c.fail 4 n.2 else c)
def gH (T:List Tb) (t:Tb):List (Nat×Nd)->CS->CS×List (Nat×Nd)
 | [],c=>(c, [])
 | (a,e)::r,c=>
  let x:=ck T e [] 0 c
  let q:=gH T t r (fill t a x.1.dropLast x.2.1)
  (q.1,(a,x.2.2)::q.2)
def Mm (T:List Tb) (t:Tb) (aE:List Lv):List (Nm×Nat×Nd)->List Bs->CS->CS×List (Nm×Nat×Nd)×Bool
 | [],_,c=>(c, [],true)
 | (n,a,e)::r,done,c=>
  if decide (cellOf n.1 t.cols<0)||done.contains n.1 then (c.fail 4 n.2,(n,a,e)::r,false)
  else
   let x:=ck T e aE 0 c
   let ty:=((t.cols[(cellOf n.1 t.cols).toNat]?).map (·.2)).getD 0
   let q:=Mm T t aE r (done ++ [n.1]) (x.2.1.fit a [ty,x.1.headD 0]).2
   (q.1,(n,a,x.2.2)::q.2.1,q.2.2)
def check (T:List Tb) (s:wB):CS×wB:=
 let c0:CS:=⟨0,0,false⟩
 match s with
 | .create t cols=>
  let c1:=match aG t.1 T with | some _=>c0.fail 4 t.2 | none=>c0
  ({ rH cols [] c1 with much:=decide (8<=T.length) },s)
 | .drop t=>((aR T t c0).2,s)
 | .dH i t rows=>
  let f:=aR T t c0
  let q:=gH T f.1 rows f.2
  (q.1, .dH i t q.2)
 | .eO i t q=>
  let f:=aR T t c0
  let r:=ck T q [] 0 f.2
  (fill f.1 i r.1 r.2.1, .eO i t r.2.2)
 | .delete t wh=>
  let f:=aR T t c0
  let r:=cond T wh [[(f.1.name,f.1)]] f.2
  (r.1, .delete t r.2)
 | .update t sets wh=>
  let f:=aR T t c0
  let q:=Mm T f.1 [[(f.1.name,f.1)]] sets [] f.2
  if q.2.2 then
   let r:=cond T wh [[(f.1.name,f.1)]] q.1
   (r.1, .update t q.2.1 r.2)
  else (q.1, .update t q.2.1 wh)
 | .trans _=>(c0,s)
 | .query q=>let r:=ck T q [] 0 c0;(r.2.1, .query r.2.2)
def CS.out (c:CS):Nat×Nat:=if c.err == 0&&c.much then (8,0) else (c.err,c.at_)
inductive Kd where | expr | list | arms | cl | query
 deriving DecidableEq
def Nd.len:Nd->Nat
 | .cons _ t=>t.len+1
 | .arms _ _ _ _ r=>r.len+1
 | _=>0
def arity (w:Bs) (n:Nat):Bool:=
 if w == [105,115]||w == [110,111,116] then n == 1
 else if w == [45] then n == 1||n == 2
 else if w == [99,111,97,108,101,115,99,101] then 1<=n
 else n == 2
def wf (N:Nat):Nd->Kd->Prop
 | .nil,k=>k = .list\/k = .arms
 | .cons h t,k=>k = .list/\wf N h .expr/\wf N t .list
 | .none,k=>k = .cl
 | .clause _ e,k=>k = .cl/\wf N e .expr
 | .const _,k=>k = .expr
 | .col _ _ _ _ _ _,k=>k = .expr
 | .op w _ args,k=>k = .expr/\wf N args .list/\args.len<=N/\arity w args.len=true
 | .dW _ _,_=>False
 | .arms _ w _ t rest,k=>k = .arms/\wf N w .expr/\wf N t .expr/\wf N rest .arms
 | .within _ _ _ _,_=>False
 | .comb _ _ _ x y,k=>k = .query/\wf N x .query/\wf N y .query
 | .sel _ _ ex src wh,k=>k = .query/\(ex = .none\/(1<=ex.len/\ex.len<=N/\wf N ex .list))/\src.length<=1100/\wf N wh .cl
theorem FK (s:Bs) (y x a:Nat):St.fail s y (.dead x a) = .dead x a:=rfl
theorem EM (s w:Bs) (x a:Nat):St.is s w (.dead x a)=false:=rfl
theorem wC (s:Bs) (c:Cl) (x a:Nat):St.cG s c (.dead x a)=false:=rfl
theorem FL (s w:Bs) (x a:Nat):St.take s w (.dead x a) = .dead x a:=by simp [St.take,St.is]
theorem wD (s w:Bs) (x a:Nat):St.must s w (.dead x a) = .dead x a:=by simp [St.must,St.is,St.fail]
theorem sX (s:Bs) (x a:Nat):St.aC s (.dead x a) = .dead x a:=by simp [St.aC,St.cG,St.fail]
theorem AG (s w:Bs) (d x a:Nat):St.opened s w d (.dead x a) = .dead x a:=by simp [St.opened,St.is,St.fail]
theorem C5 (s:Bs) (x a:Nat):St.hZ s (.dead x a)=false:=rfl
theorem AH (s:Bs):∀ (n:Nat) (nt:Nt) (d x a:Nat),run s n nt d (.dead x a) = .dead x a
 | 0,nt,d,x,a=>by cases nt <;> rfl
 | n+1,nt,d,x,a=>by
  cases nt <;> simp [run,FK,EM,wC,FL,wD,sX,C5,AH s n]
theorem dM {s:Bs} {n:Nat} {nt:Nt} {d:Nat} {σ:St} (h:(run s n nt d σ).aA=true):σ.aA=true:=by
 cases σ with | live e=>rfl | dead x a=>rw [AH] at h;exact h
theorem cP {s:Bs} {σ:St} (h:(σ.step s).aA=true):σ.aA=true:=by
 cases σ with | live e=>rfl | dead x a=>exact h
theorem bK {s w:Bs} {σ:St} (h:(σ.must s w).aA=true):σ.aA=true:=by
 cases σ with | live e=>rfl | dead x a=>rw [wD] at h;exact h
theorem fU {s:Bs} {σ:St} (h:(σ.aC s).aA=true):σ.aA=true:=by
 cases σ with | live e=>rfl | dead x a=>rw [sX] at h;exact h
theorem AI {s w:Bs} {d:Nat} {σ:St} (h:(σ.opened s w d).aA=true):σ.aA=true:=by
 cases σ with | live e=>rfl | dead x a=>rw [AG] at h;exact h
theorem cK {s w:Bs} {σ:St} (h:σ.is s w=true):σ.aA=true:=by
 cases σ with | live e=>rfl | dead x a=>exact absurd h (by simp [EM])
theorem jK {s:Bs} {c:Cl} {σ:St} (h:σ.cG s c=true):σ.aA=true:=by
 cases σ with | live e=>rfl | dead x a=>exact absurd h (by simp [wC])
theorem eV {s:Bs} {x:Nat} {σ:St} (h:(σ.fail s x).aA=true):False:=by
 cases σ <;> simp [St.fail,St.aA] at h
theorem FM (l:List Nd) (x t:Nd):gG (l ++ [x]) t=gG l (.cons x t):=by simp [gG]
def Hz (T:List Tb) (src:List (Nm×Nm)):Lv:=src.map λx=>(x.2.1,(aG x.1.1 T).getD iR)
def bd (T:List Tb):Nd->List Lv->Prop
 | .cons h t,aE=>bd T h aE/\bd T t aE
 | .clause _ e,aE=>bd T e aE
 | .col _ _ _ o sr ce,aE=>∃ lv x,aE[o]?=some lv/\lv[sr]?=some x/\0<=ce/\ce.toNat<x.2.cols.length
 | .op _ _ args,aE=>bd T args aE
 | .dW arms els,aE=>bd T arms aE/\bd T els aE
 | .arms _ w _ t rest,aE=>bd T w aE/\bd T t aE/\bd T rest aE
 | .within _ _ args q,aE=>bd T args aE/\bd T q aE
 | .comb _ _ _ p q,aE=>bd T p aE/\bd T q aE
 | .sel _ _ ex src wh,aE=>(∀ x∈src,(aG x.1.1 T).isSome=true)/\product (Hz T src::aE) 1<=1000/\bd T ex (Hz T src::aE)/\bd T wh (Hz T src::aE)
 | _,_=>True
end Go.Proofs.YtgnncnhkgmhngaaGreatDoor.Sp
