namespace Go.Proofs.YtgnncnhkgmhngaaGreatDoor.Sp
abbrev Bs:=List UInt8
def isSp (c:UInt8):Bool:=c == 32||c == 10
def iP (c:UInt8):Bool:=97<=c&&c<=122
def bV (c:UInt8):Bool:=48<=c&&c<=57
def eF (c:UInt8):Bool:=iP c||bV c||c == 95
def many (p:UInt8->Bool):Bs->Nat
 | []=>0
 | c::r=>if p c then many p r+1 else 0
def bJ:Bs->Option Nat
 | []=>none
 | c::r=>
  if c == 39 then
   match r with
   | []=>some 1
   | c'::r'=>if c' == 39 then (bJ r').map (·+2) else some 1
  else (bJ r).map (·+1)
def dB (l:Bs):Nat:=l.foldl (λa c=>a*10+(c.toNat - 48)) 0
def keys:List Bs := [[97,108,108], [97,110,100], [98,101,103,105,110], [98,111,111,108], [99,97,115,101], [99,111,97,108,101,115,99,101], [99,111,109,109,105,116], [99,114,101,97,116,101], [100,101,108,101,116,101], [100,105,115,116,105,110,99,116], [100,114,111,112], [101,108,115,101], [101,110,100], [101,120,99,101,112,116], [101,120,105,115,116,115], [102,97,108,115,101], [102,114,111,109], [105,110], [105,110,115,101,114,116], [105,110,116], [105,110,116,101,114,115,101,99,116], [105,110,116,111], [105,115], [110,111,116], [110,117,108,108], [111,114], [114,111,108,108,98,97,99,107], [115,101,108,101,99,116], [115,101,116], [116,97,98,108,101], [116,101,120,116], [116,104,101,110], [116,114,117,101], [117,110,105,111,110], [117,112,100,97,116,101], [118,97,108,117,101,115], [119,104,101,110], [119,104,101,114,101]]
def lF (c:UInt8):Bool:=c == 40||c == 41||c == 44||c == 46||c == 42||c == 43||c == 45||c == 47||c == 61||c == 60||c == 62
def EL (c c' : UInt8):Bool:=(c == 60&&c' == 62)||(c == 60&&c' == 61)||(c == 62&&c' == 61)
def aU:Bs->Nat
 | []=>0
 | [c]=>if lF c then 1 else 0
 | c::c'::_=>if EL c c' then 2 else if lF c then 1 else 0
inductive Cl where | fin | bad | name | num | txt | key
 deriving DecidableEq
def first:Bs->Cl×Nat
 | []=>(.fin,0)
 | c::r=>
  if iP c then
   let n:=many eF (c::r)
   if keys.contains ((c::r).take n) then (.key,n) else if n<=12 then (.name,n) else (.bad,n)
  else if bV c then
   let n:=many bV (c::r)
   if dB ((c::r).take n)<9223372036854775808 then (.num,n) else (.bad,n)
  else if c == 39 then
   match bJ r with
   | some n=>(.txt,n+1)
   | none=>(.bad,0)
  else
   match aU (c::r) with
   | 0=>(.bad,0)
   | n=>(.key,n)
def aO (s:Bs) (e:Nat):Nat:=e+many isSp (s.drop e)
def aD (s:Bs) (e:Nat):Cl:=(first (s.drop (aO s e))).1
def lG (s:Bs) (e:Nat):Nat:=(first (s.drop (aO s e))).2
def bW (s:Bs) (e:Nat):Bs:=(s.drop (aO s e)).take (lG s e)
def fE (s:Bs) (e:Nat):Nat:=aO s e+lG s e
inductive St where
 | live (e:Nat)
 | dead (err:Nat) (at_:Nat)
def St.is (s:Bs) (w:Bs):St->Bool
 | .live e=>aD s e == .key&&bW s e == w
 | .dead _ _=>false
def St.cG (s:Bs) (c:Cl):St->Bool
 | .live e=>aD s e == c
 | .dead _ _=>false
def St.step (s:Bs):St->St
 | .live e => .live (fE s e)
 | .dead x a => .dead x a
def St.fail (s:Bs) (err:Nat):St->St
 | .live e => .dead err (aO s e)
 | .dead x a => .dead x a
def St.take (s:Bs) (w:Bs) (σ:St):St:=if σ.is s w then σ.step s else σ
def St.must (s:Bs) (w:Bs) (σ:St):St:=if σ.is s w then σ.step s else σ.fail s 2
def St.aC (s:Bs) (σ:St):St:=if σ.cG s .name then σ.step s else σ.fail s 2
def St.dF (s:Bs) (d:Nat) (σ:St):St:=if 16<d+1 then σ.fail s 3 else σ.step s
def St.opened (s:Bs) (w:Bs) (d:Nat) (σ:St):St:=if σ.is s w then σ.dF s d else σ.fail s 2
def kB (s:Bs):Nat->Nat->Bool
 | 0,_=>false
 | n+1,e=>if aD s e == .key&&bW s e == [40] then kB s n (fE s e) else aD s e == .key&&bW s e == [115,101,108,101,99,116]
def St.asks (s:Bs):St->Bool
 | .live e=>kB s (s.length+1 - e) e
 | .dead _ _=>false
def St.hZ (s:Bs) (σ:St):Bool:=σ.is s [61]||σ.is s [60,62]||σ.is s [60]||σ.is s [60,61]||σ.is s [62]||σ.is s [62,61]
inductive Nt where
 | expr | If | both | sV | no | compare | sum | sW | product | lH | unary | atom | list | gV | cX | caseT | pA | query | iA | term | lI | factor | eU | dK
def run (s:Bs):Nat->Nt->Nat->St->St
 | 0,_,_,σ=>σ
 | n+1, .expr,d,σ=>run s n .If d (run s n .both d σ)
 | n+1, .If,d,σ=>if σ.is s [111,114] then run s n .If d (run s n .both d (σ.step s)) else σ
 | n+1, .both,d,σ=>run s n .sV d (run s n .no d σ)
 | n+1, .sV,d,σ=>if σ.is s [97,110,100] then run s n .sV d (run s n .no d (σ.step s)) else σ
 | n+1, .no,d,σ=>if σ.is s [110,111,116] then run s n .no (d+1) (σ.dF s d) else run s n .compare d σ
 | n+1, .compare,d,σ=>
  let σ1:=run s n .sum d σ
  if σ1.hZ s then run s n .sum d (σ1.step s)
  else if σ1.is s [105,115] then ((σ1.step s).take s [110,111,116]).must s [110,117,108,108]
  else if σ1.is s [110,111,116] then (run s n .query (d+1) (((σ1.step s).must s [105,110]).opened s [40] d)).must s [41]
  else if σ1.is s [105,110] then (run s n .query (d+1) ((σ1.step s).opened s [40] d)).must s [41]
  else σ1
 | n+1, .sum,d,σ=>run s n .sW d (run s n .product d σ)
 | n+1, .sW,d,σ=>if σ.is s [43]||σ.is s [45] then run s n .sW d (run s n .product d (σ.step s)) else σ
 | n+1, .product,d,σ=>run s n .lH d (run s n .unary d σ)
 | n+1, .lH,d,σ=>if σ.is s [42]||σ.is s [47] then run s n .lH d (run s n .unary d (σ.step s)) else σ
 | n+1, .unary,d,σ=>if σ.is s [45] then run s n .unary (d+1) (σ.dF s d) else run s n .atom d σ
 | n+1, .atom,d,σ=>
  if σ.cG s .num||σ.cG s .txt then σ.step s
  else if σ.is s [116,114,117,101]||σ.is s [102,97,108,115,101]||σ.is s [110,117,108,108] then σ.step s
  else if σ.cG s .name then (if (σ.step s).is s [46] then ((σ.step s).step s).aC s else σ.step s)
  else if σ.is s [40] then (if σ.asks s then (run s n .query (d+1) (σ.dF s d)).must s [41] else (run s n .expr (d+1) (σ.dF s d)).must s [41])
  else if σ.is s [101,120,105,115,116,115] then (run s n .query (d+1) ((σ.step s).opened s [40] d)).must s [41]
  else if σ.is s [99,111,97,108,101,115,99,101] then (run s n .list (d+1) ((σ.step s).opened s [40] d)).must s [41]
  else if σ.is s [99,97,115,101] then (run s n .cX (d+1) (σ.dF s d)).must s [101,110,100]
  else σ.fail s 2
 | n+1, .list,d,σ=>run s n .gV d (run s n .expr d σ)
 | n+1, .gV,d,σ=>if σ.is s [44] then run s n .gV d (run s n .expr d (σ.step s)) else σ
 | n+1, .cX,d,σ=>run s n .caseT d (run s n .expr d (σ.must s [119,104,101,110]))
 | n+1, .caseT,d,σ=>
  let σ1:=run s n .expr d (σ.must s [116,104,101,110])
  if σ1.is s [119,104,101,110] then run s n .cX d σ1 else if σ1.is s [101,108,115,101] then run s n .pA d σ1 else σ1
 | n+1, .pA,d,σ=>run s n .expr d (σ.must s [101,108,115,101])
 | n+1, .query,d,σ=>run s n .iA d (run s n .term d σ)
 | n+1, .iA,d,σ=>if σ.is s [117,110,105,111,110]||σ.is s [101,120,99,101,112,116] then run s n .iA d (run s n .term d ((σ.step s).take s [97,108,108])) else σ
 | n+1, .term,d,σ=>run s n .lI d (run s n .factor d σ)
 | n+1, .lI,d,σ=>if σ.is s [105,110,116,101,114,115,101,99,116] then run s n .lI d (run s n .factor d ((σ.step s).take s [97,108,108])) else σ
 | n+1, .factor,d,σ=>
  if σ.is s [40] then (run s n .query (d+1) (σ.dF s d)).must s [41]
  else
   let σ1:=(σ.must s [115,101,108,101,99,116]).take s [100,105,115,116,105,110,99,116]
   let σ2:=if σ1.is s [42] then σ1.step s else run s n .list d σ1
   let σ3:=if σ2.is s [102,114,111,109] then run s n .eU d (σ2.step s) else σ2
   run s n .dK d σ3
 | n+1, .eU,d,σ=>
  let σ1:=σ.aC s
  let σ2:=if σ1.cG s .name then σ1.step s else σ1
  if σ2.is s [44] then run s n .eU d (σ2.step s) else σ2
 | n+1, .dK,d,σ=>if σ.is s [119,104,101,114,101] then run s n .expr d (σ.step s) else σ
def uY (s:Bs):Nat->Nat->St->St
 | 0,_,σ=>σ
 | n+1,c,σ=>
  let uZ:=if c == 6 then σ.fail s 2 else σ
  let σ1:=uZ.aC s
  let σ2:=if σ1.is s [105,110,116]||σ1.is s [116,101,120,116]||σ1.is s [98,111,111,108] then σ1.step s else σ1.fail s 2
  if σ2.is s [44] then uY s n (c+1) (σ2.step s) else σ2
def rowT (s:Bs) (n:Nat) (σ:St):St:=(run s n .list 0 (σ.must s [40])).must s [41]
def u6 (s:Bs) (n:Nat):Nat->St->St
 | 0,σ=>σ
 | m+1,σ=>let σ1:=rowT s n σ;if σ1.is s [44] then u6 s n m (σ1.step s) else σ1
def pB (s:Bs) (n:Nat) (σ:St):St:=run s n .expr 0 ((σ.aC s).must s [61])
def iQ (s:Bs) (n:Nat):Nat->St->St
 | 0,σ=>σ
 | m+1,σ=>let σ1:=pB s n σ;if σ1.is s [44] then iQ s n m (σ1.step s) else σ1
def stmt (s:Bs) (n:Nat) (σ:St):St:=
 if σ.is s [99,114,101,97,116,101] then (uY s n 0 ((((σ.step s).must s [116,97,98,108,101]).aC s).must s [40])).must s [41]
 else if σ.is s [100,114,111,112] then ((σ.step s).must s [116,97,98,108,101]).aC s
 else if σ.is s [105,110,115,101,114,116] then
  let σ1:=((σ.step s).must s [105,110,116,111]).aC s
  if σ1.is s [118,97,108,117,101,115] then u6 s n n (σ1.step s) else run s n .query 0 σ1
 else if σ.is s [100,101,108,101,116,101] then run s n .dK 0 (((σ.step s).must s [102,114,111,109]).aC s)
 else if σ.is s [117,112,100,97,116,101] then run s n .dK 0 (iQ s n n (((σ.step s).aC s).must s [115,101,116]))
 else if σ.is s [98,101,103,105,110]||σ.is s [99,111,109,109,105,116]||σ.is s [114,111,108,108,98,97,99,107] then σ.step s
 else run s n .query 0 σ
def fuel (s:Bs):Nat:=32*(s.length+4)
def St.out:St->Nat×Nat
 | .live _=>(0,0)
 | .dead x a=>(x,a)
def parse (s:Bs):Nat×Nat:=
 if 2000<s.length then (1,0)
 else
  let σ:=stmt s (fuel s) (.live 0)
  (if σ.cG s .fin then σ else σ.fail s 2).out
def rem (s : Bs) : St -> Nat
  | .live e => s.length + 1 - e
  | .dead _ _ => 0
theorem FJ (s : Bs) (e : Nat) : e <= fE s e := by unfold fE aO; omega
theorem lJ {p : UInt8 -> Bool} {c : UInt8} {r : Bs} (h : p c = true) : 1 <= many p (c :: r) := by simp [many, h]
theorem first_pos {l : Bs} (hf : (first l).1 ≠ .fin) (hb : (first l).1 ≠ .bad) : 1 <= (first l).2 := by
  cases l with
  | nil => simp [first] at hf
  | cons c r =>
    by_cases h1 : iP c = true
    · have hw : eF c = true := by simp [eF, h1]
      have := lJ (p := eF) (r := r) hw
      simp only [first, h1, if_true]
      split
      · exact this
      · split
        · exact this
        · exact this
    · have h1' : iP c = false := by simpa using h1
      by_cases h2 : bV c = true
      · have := lJ (p := bV) (r := r) h2
        simp only [first, h1', h2, if_true, Bool.false_eq_true, if_false]
        split
        · exact this
        · exact this
      · have h2' : bV c = false := by simpa using h2
        by_cases h3 : (c == 39) = true
        · revert hb
          simp only [first, h1', h2', h3, if_true, Bool.false_eq_true, if_false]
          cases bJ r <;> simp
        · have h3' : (c == 39) = false := by simpa using h3
          revert hb
          simp only [first, h1', h2', h3', Bool.false_eq_true, if_false]
          cases h : aU (c :: r) <;> simp
theorem m9 {s : Bs} {e : Nat} (hf : aD s e ≠ .fin) (hb : aD s e ≠ .bad) : e < fE s e := by
  have := first_pos (l := s.drop (aO s e)) hf hb
  unfold fE lG
  have : e <= aO s e := by unfold aO; omega
  omega
theorem qE {s : Bs} {e : Nat} (hf : aD s e ≠ .fin) : e < s.length := by
  rcases Nat.lt_or_ge e s.length with h | h
  · exact h
  · exfalso
    apply hf
    unfold aD
    have : s.drop (aO s e) = [] := List.drop_of_length_le (by unfold aO; omega)
    rw [this]; rfl
theorem cC (s : Bs) (σ : St) : rem s (σ.step s) <= rem s σ := by
  cases σ with
  | live e => have := FJ s e; simp only [rem, St.step]; omega
  | dead x a => exact Nat.le_refl _
theorem fF (s : Bs) (x : Nat) (σ : St) : rem s (σ.fail s x) = 0 := by cases σ <;> rfl
theorem aM {s : Bs} {σ : St} {w : Bs} (h : σ.is s w = true) : rem s (σ.step s) < rem s σ := by
  cases σ with
  | live e =>
    simp only [St.is, Bool.and_eq_true, beq_iff_eq] at h
    have h1 := m9 (s := s) (e := e) (by rw [h.1]; decide) (by rw [h.1]; decide)
    have h2 := qE (s := s) (e := e) (by rw [h.1]; decide)
    simp only [rem, St.step]; omega
  | dead x a => simp [St.is] at h
theorem pC (s : Bs) (w : Bs) (σ : St) : rem s (σ.take s w) <= rem s σ := by
  unfold St.take; split
  · exact cC s σ
  · exact Nat.le_refl _
theorem bZ (s : Bs) (w : Bs) (σ : St) : rem s (σ.must s w) <= rem s σ := by
  unfold St.must; split
  · exact cC s σ
  · rw [fF]; omega
theorem AF (s : Bs) (w : Bs) (σ : St) : rem s (σ.must s w) < rem s σ \/ rem s (σ.must s w) = 0 := by
  unfold St.must; split
  · rename_i h; exact Or.inl (aM h)
  · exact Or.inr (fF _ _ _)
theorem dL (s : Bs) (σ : St) : rem s (σ.aC s) <= rem s σ := by
  unfold St.aC; split
  · exact cC s σ
  · rw [fF]; omega
theorem v8 (s : Bs) (d : Nat) (σ : St) : rem s (σ.dF s d) <= rem s σ := by
  unfold St.dF; split
  · rw [fF]; omega
  · exact cC s σ
theorem eG {s : Bs} {w : Bs} {d : Nat} {σ : St} (h : σ.is s w = true) : rem s (σ.dF s d) < rem s σ := by
  have := aM h
  unfold St.dF; split
  · rw [fF]; omega
  · exact this
theorem iB (s : Bs) (w : Bs) (d : Nat) (σ : St) : rem s (σ.opened s w d) <= rem s σ := by
  unfold St.opened; split
  · exact v8 s d σ
  · rw [fF]; omega
theorem cJ (s : Bs) : ∀ (n : Nat) (nt : Nt) (d : Nat) (σ : St), rem s (run s n nt d σ) <= rem s σ
  | 0, _, _, _ => by unfold run; exact Nat.le_refl _
  | n + 1, nt, d, σ => by
    have ih := cJ s n
    have hs := λσ => cC s σ
    have hm := λw σ => bZ s w σ
    have ht := λw σ => pC s w σ
    have hn := λσ => dL s σ
    have ho := λd σ => v8 s d σ
    have hp := λw d σ => iB s w d σ
    cases nt with
    | expr => rw [run]; exact Nat.le_trans (ih _ _ _) (ih _ _ _)
    | If => rw [run]; split
            · exact Nat.le_trans (ih _ _ _) (Nat.le_trans (ih _ _ _) (hs _))
            · exact Nat.le_refl _
    | both => rw [run]; exact Nat.le_trans (ih _ _ _) (ih _ _ _)
    | sV => rw [run]; split
            · exact Nat.le_trans (ih _ _ _) (Nat.le_trans (ih _ _ _) (hs _))
            · exact Nat.le_refl _
    | no => rw [run]; split
            · exact Nat.le_trans (ih _ _ _) (ho _ _)
            · exact ih _ _ _
    | compare =>
      rw [run]
      have h1 := ih .sum d σ
      refine Nat.le_trans ?_ h1
      generalize run s n .sum d σ = σ1
      try dsimp only
      split
      · exact Nat.le_trans (ih _ _ _) (hs _)
      · split
        · exact Nat.le_trans (hm _ _) (Nat.le_trans (ht _ _) (hs _))
        · split
          · exact Nat.le_trans (hm _ _) (Nat.le_trans (ih _ _ _) (Nat.le_trans (hp _ _ _) (Nat.le_trans (hm _ _) (hs _))))
          · split
            · exact Nat.le_trans (hm _ _) (Nat.le_trans (ih _ _ _) (Nat.le_trans (hp _ _ _) (hs _)))
            · exact Nat.le_refl _
    | sum => rw [run]; exact Nat.le_trans (ih _ _ _) (ih _ _ _)
    | sW => rw [run]; split
            · exact Nat.le_trans (ih _ _ _) (Nat.le_trans (ih _ _ _) (hs _))
            · exact Nat.le_refl _
    | product => rw [run]; exact Nat.le_trans (ih _ _ _) (ih _ _ _)
    | lH => rw [run]; split
            · exact Nat.le_trans (ih _ _ _) (Nat.le_trans (ih _ _ _) (hs _))
            · exact Nat.le_refl _
    | unary => rw [run]; split
               · exact Nat.le_trans (ih _ _ _) (ho _ _)
               · exact ih _ _ _
    | atom =>
      rw [run]
      split
      · exact hs _
      · split
        · exact hs _
        · split
          · split
            · exact Nat.le_trans (hn _) (Nat.le_trans (hs _) (hs _))
            · exact hs _
          · split
            · split
              · exact Nat.le_trans (hm _ _) (Nat.le_trans (ih _ _ _) (ho _ _))
              · exact Nat.le_trans (hm _ _) (Nat.le_trans (ih _ _ _) (ho _ _))
            · split
              · exact Nat.le_trans (hm _ _) (Nat.le_trans (ih _ _ _) (Nat.le_trans (hp _ _ _) (hs _)))
              · split
                · exact Nat.le_trans (hm _ _) (Nat.le_trans (ih _ _ _) (Nat.le_trans (hp _ _ _) (hs _)))
                · split
                  · exact Nat.le_trans (hm _ _) (Nat.le_trans (ih _ _ _) (ho _ _))
                  · rw [fF]; omega
    | list => rw [run]; exact Nat.le_trans (ih _ _ _) (ih _ _ _)
    | gV => rw [run]; split
            · exact Nat.le_trans (ih _ _ _) (Nat.le_trans (ih _ _ _) (hs _))
            · exact Nat.le_refl _
    | cX => rw [run]; exact Nat.le_trans (ih _ _ _) (Nat.le_trans (ih _ _ _) (hm _ _))
    | caseT =>
      rw [run]
      have h1 := Nat.le_trans (ih .expr d (σ.must s [116, 104, 101, 110])) (hm _ _)
      refine Nat.le_trans ?_ h1
      generalize run s n .expr d (σ.must s [116, 104, 101, 110]) = σ1
      try dsimp only
      split
      · exact ih _ _ _
      · split
        · exact ih _ _ _
        · exact Nat.le_refl _
    | pA => rw [run]; exact Nat.le_trans (ih _ _ _) (hm _ _)
    | query => rw [run]; exact Nat.le_trans (ih _ _ _) (ih _ _ _)
    | iA => rw [run]; split
            · exact Nat.le_trans (ih _ _ _) (Nat.le_trans (ih _ _ _) (Nat.le_trans (ht _ _) (hs _)))
            · exact Nat.le_refl _
    | term => rw [run]; exact Nat.le_trans (ih _ _ _) (ih _ _ _)
    | lI => rw [run]; split
            · exact Nat.le_trans (ih _ _ _) (Nat.le_trans (ih _ _ _) (Nat.le_trans (ht _ _) (hs _)))
            · exact Nat.le_refl _
    | factor =>
      rw [run]
      split
      · exact Nat.le_trans (hm _ _) (Nat.le_trans (ih _ _ _) (ho _ _))
      · try dsimp only
        refine Nat.le_trans (ih _ _ _) ?_
        have h1 := Nat.le_trans (ht [100, 105, 115, 116, 105, 110, 99, 116] (σ.must s [115, 101, 108, 101, 99, 116])) (hm _ _)
        generalize (σ.must s [115, 101, 108, 101, 99, 116]).take s [100, 105, 115, 116, 105, 110, 99, 116] = σ1 at h1 ⊢
        have h2 : rem s (if σ1.is s [42] then σ1.step s else run s n .list d σ1) <= rem s σ1 := by
          split
          · exact hs _
          · exact ih _ _ _
        generalize (if σ1.is s [42] then σ1.step s else run s n .list d σ1) = σ2 at h2 ⊢
        refine Nat.le_trans ?_ (Nat.le_trans h2 h1)
        split
        · exact Nat.le_trans (ih _ _ _) (hs _)
        · exact Nat.le_refl _
    | eU =>
      rw [run]
      try dsimp only
      have h1 := hn σ
      generalize σ.aC s = σ1 at h1 ⊢
      have h2 : rem s (if σ1.cG s .name then σ1.step s else σ1) <= rem s σ1 := by
        split
        · exact hs _
        · exact Nat.le_refl _
      generalize (if σ1.cG s .name then σ1.step s else σ1) = σ2 at h2 ⊢
      refine Nat.le_trans ?_ (Nat.le_trans h2 h1)
      split
      · exact Nat.le_trans (ih _ _ _) (hs _)
      · exact Nat.le_refl _
    | dK => rw [run]; split
            · exact Nat.le_trans (ih _ _ _) (hs _)
            · exact Nat.le_refl _
def lK : Nt -> Nat
  | .If | .sV | .sW | .lH | .gV | .iA | .lI => 1
  | .eU => 2
  | .atom => 2 | .unary => 3 | .product => 4 | .sum => 5 | .compare => 6 | .no => 7 | .both => 8 | .expr => 9 | .dK => 10 | .list => 10 | .pA => 11 | .caseT => 12 | .cX => 13 | .factor => 12 | .term => 14 | .query => 15
end Go.Proofs.YtgnncnhkgmhngaaGreatDoor.Sp
