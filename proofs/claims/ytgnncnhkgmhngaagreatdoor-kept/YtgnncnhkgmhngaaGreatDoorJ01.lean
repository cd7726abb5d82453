namespace Go.Proofs.YtgnncnhkgmhngaaGreatDoor.Sp
abbrev Bs:=List UInt8
def isSp (c:UInt8):Bool:=c == 32||c == 10
def isLo (c:UInt8):Bool:=97<=c&&c<=122
def isDg (c:UInt8):Bool:=48<=c&&c<=57
def isWd (c:UInt8):Bool:=isLo c||isDg c||c == 95
def many (p:UInt8->Bool):Bs->Nat
 | []=>0
 | c::r=>if p c then many p r+1 else 0
def txtLen:Bs->Option Nat
 | []=>none
 | c::r=>
  if c == 39 then
   match r with
   | []=>some 1
   | c'::r'=>if c' == 39 then (txtLen r').map (·+2) else some 1
  else (txtLen r).map (·+1)
def numVal (l:Bs):Nat:=l.foldl (fun a c=>a*10+(c.toNat - 48)) 0
def keys:List Bs := [[97,108,108], [97,110,100], [98,101,103,105,110], [98,111,111,108], [99,97,115,101], [99,111,97,108,101,115,99,101], [99,111,109,109,105,116], [99,114,101,97,116,101], [100,101,108,101,116,101], [100,105,115,116,105,110,99,116], [100,114,111,112], [101,108,115,101], [101,110,100], [101,120,99,101,112,116], [101,120,105,115,116,115], [102,97,108,115,101], [102,114,111,109], [105,110], [105,110,115,101,114,116], [105,110,116], [105,110,116,101,114,115,101,99,116], [105,110,116,111], [105,115], [110,111,116], [110,117,108,108], [111,114], [114,111,108,108,98,97,99,107], [115,101,108,101,99,116], [115,101,116], [116,97,98,108,101], [116,101,120,116], [116,104,101,110], [116,114,117,101], [117,110,105,111,110], [117,112,100,97,116,101], [118,97,108,117,101,115], [119,104,101,110], [119,104,101,114,101]]
def isOne (c:UInt8):Bool:=c == 40||c == 41||c == 44||c == 46||c == 42||c == 43||c == 45||c == 47||c == 61||c == 60||c == 62
def isTwo (c c' : UInt8):Bool:=(c == 60&&c' == 62)||(c == 60&&c' == 61)||(c == 62&&c' == 61)
def signLen:Bs->Nat
 | []=>0
 | [c]=>if isOne c then 1 else 0
 | c::c'::_=>if isTwo c c' then 2 else if isOne c then 1 else 0
inductive Cl where | fin | bad | name | num | txt | key
 deriving DecidableEq
def first:Bs->Cl×Nat
 | []=>(.fin,0)
 | c::r=>
  if isLo c then
   let n:=many isWd (c::r)
   if keys.contains ((c::r).take n) then (.key,n) else if n<=12 then (.name,n) else (.bad,n)
  else if isDg c then
   let n:=many isDg (c::r)
   if numVal ((c::r).take n)<9223372036854775808 then (.num,n) else (.bad,n)
  else if c == 39 then
   match txtLen r with
   | some n=>(.txt,n+1)
   | none=>(.bad,0)
  else
   match signLen (c::r) with
   | 0=>(.bad,0)
   | n=>(.key,n)
def tokAt (s:Bs) (e:Nat):Nat:=e+many isSp (s.drop e)
def tokCl (s:Bs) (e:Nat):Cl:=(first (s.drop (tokAt s e))).1
def tokLen (s:Bs) (e:Nat):Nat:=(first (s.drop (tokAt s e))).2
def tokWord (s:Bs) (e:Nat):Bs:=(s.drop (tokAt s e)).take (tokLen s e)
def tokEnd (s:Bs) (e:Nat):Nat:=tokAt s e+tokLen s e
inductive St where
 | live (e:Nat)
 | dead (err:Nat) (at_:Nat)
def St.is (s:Bs) (w:Bs):St->Bool
 | .live e=>tokCl s e == .key&&tokWord s e == w
 | .dead _ _=>false
def St.isCl (s:Bs) (c:Cl):St->Bool
 | .live e=>tokCl s e == c
 | .dead _ _=>false
def St.step (s:Bs):St->St
 | .live e => .live (tokEnd s e)
 | .dead x a => .dead x a
def St.fail (s:Bs) (err:Nat):St->St
 | .live e => .dead err (tokAt s e)
 | .dead x a => .dead x a
def St.take (s:Bs) (w:Bs) (σ:St):St:=if σ.is s w then σ.step s else σ
def St.must (s:Bs) (w:Bs) (σ:St):St:=if σ.is s w then σ.step s else σ.fail s 2
def St.nameT (s:Bs) (σ:St):St:=if σ.isCl s .name then σ.step s else σ.fail s 2
def St.openT (s:Bs) (d:Nat) (σ:St):St:=if 16<d+1 then σ.fail s 3 else σ.step s
def St.opened (s:Bs) (w:Bs) (d:Nat) (σ:St):St:=if σ.is s w then σ.openT s d else σ.fail s 2
def asksAt (s:Bs):Nat->Nat->Bool
 | 0,_=>false
 | n+1,e=>if tokCl s e == .key&&tokWord s e == [40] then asksAt s n (tokEnd s e) else tokCl s e == .key&&tokWord s e == [115,101,108,101,99,116]
def St.asks (s:Bs):St->Bool
 | .live e=>asksAt s (s.length+1 - e) e
 | .dead _ _=>false
def St.isCmp (s:Bs) (σ:St):Bool:=σ.is s [61]||σ.is s [60,62]||σ.is s [60]||σ.is s [60,61]||σ.is s [62]||σ.is s [62,61]
inductive Nt where
 | expr | orL | both | andL | no | compare | sum | sumL | product | prodL | unary | atom | list | listL | caseW | caseT | caseE | query | queryL | term | termL | factor | fromL | where_
def run (s:Bs):Nat->Nt->Nat->St->St
 | 0,_,_,σ=>σ
 | n+1, .expr,d,σ=>run s n .orL d (run s n .both d σ)
 | n+1, .orL,d,σ=>if σ.is s [111,114] then run s n .orL d (run s n .both d (σ.step s)) else σ
 | n+1, .both,d,σ=>run s n .andL d (run s n .no d σ)
 | n+1, .andL,d,σ=>if σ.is s [97,110,100] then run s n .andL d (run s n .no d (σ.step s)) else σ
 | n+1, .no,d,σ=>if σ.is s [110,111,116] then run s n .no (d+1) (σ.openT s d) else run s n .compare d σ
 | n+1, .compare,d,σ=>
  let σ1:=run s n .sum d σ
  if σ1.isCmp s then run s n .sum d (σ1.step s)
  else if σ1.is s [105,115] then ((σ1.step s).take s [110,111,116]).must s [110,117,108,108]
  else if σ1.is s [110,111,116] then (run s n .query (d+1) (((σ1.step s).must s [105,110]).opened s [40] d)).must s [41]
  else if σ1.is s [105,110] then (run s n .query (d+1) ((σ1.step s).opened s [40] d)).must s [41]
  else σ1
 | n+1, .sum,d,σ=>run s n .sumL d (run s n .product d σ)
 | n+1, .sumL,d,σ=>if σ.is s [43]||σ.is s [45] then run s n .sumL d (run s n .product d (σ.step s)) else σ
 | n+1, .product,d,σ=>run s n .prodL d (run s n .unary d σ)
 | n+1, .prodL,d,σ=>if σ.is s [42]||σ.is s [47] then run s n .prodL d (run s n .unary d (σ.step s)) else σ
 | n+1, .unary,d,σ=>if σ.is s [45] then run s n .unary (d+1) (σ.openT s d) else run s n .atom d σ
 | n+1, .atom,d,σ=>
  if σ.isCl s .num||σ.isCl s .txt then σ.step s
  else if σ.is s [116,114,117,101]||σ.is s [102,97,108,115,101]||σ.is s [110,117,108,108] then σ.step s
  else if σ.isCl s .name then (if (σ.step s).is s [46] then ((σ.step s).step s).nameT s else σ.step s)
  else if σ.is s [40] then (if σ.asks s then (run s n .query (d+1) (σ.openT s d)).must s [41] else (run s n .expr (d+1) (σ.openT s d)).must s [41])
  else if σ.is s [101,120,105,115,116,115] then (run s n .query (d+1) ((σ.step s).opened s [40] d)).must s [41]
  else if σ.is s [99,111,97,108,101,115,99,101] then (run s n .list (d+1) ((σ.step s).opened s [40] d)).must s [41]
  else if σ.is s [99,97,115,101] then (run s n .caseW (d+1) (σ.openT s d)).must s [101,110,100]
  else σ.fail s 2
 | n+1, .list,d,σ=>run s n .listL d (run s n .expr d σ)
 | n+1, .listL,d,σ=>if σ.is s [44] then run s n .listL d (run s n .expr d (σ.step s)) else σ
 | n+1, .caseW,d,σ=>run s n .caseT d (run s n .expr d (σ.must s [119,104,101,110]))
 | n+1, .caseT,d,σ=>
  let σ1:=run s n .expr d (σ.must s [116,104,101,110])
  if σ1.is s [119,104,101,110] then run s n .caseW d σ1 else if σ1.is s [101,108,115,101] then run s n .caseE d σ1 else σ1
 | n+1, .caseE,d,σ=>run s n .expr d (σ.must s [101,108,115,101])
 | n+1, .query,d,σ=>run s n .queryL d (run s n .term d σ)
 | n+1, .queryL,d,σ=>if σ.is s [117,110,105,111,110]||σ.is s [101,120,99,101,112,116] then run s n .queryL d (run s n .term d ((σ.step s).take s [97,108,108])) else σ
 | n+1, .term,d,σ=>run s n .termL d (run s n .factor d σ)
 | n+1, .termL,d,σ=>if σ.is s [105,110,116,101,114,115,101,99,116] then run s n .termL d (run s n .factor d ((σ.step s).take s [97,108,108])) else σ
 | n+1, .factor,d,σ=>
  if σ.is s [40] then (run s n .query (d+1) (σ.openT s d)).must s [41]
  else
   let σ1:=(σ.must s [115,101,108,101,99,116]).take s [100,105,115,116,105,110,99,116]
   let σ2:=if σ1.is s [42] then σ1.step s else run s n .list d σ1
   let σ3:=if σ2.is s [102,114,111,109] then run s n .fromL d (σ2.step s) else σ2
   run s n .where_ d σ3
 | n+1, .fromL,d,σ=>
  let σ1:=σ.nameT s
  let σ2:=if σ1.isCl s .name then σ1.step s else σ1
  if σ2.is s [44] then run s n .fromL d (σ2.step s) else σ2
 | n+1, .where_,d,σ=>if σ.is s [119,104,101,114,101] then run s n .expr d (σ.step s) else σ
def colL (s:Bs):Nat->Nat->St->St
 | 0,_,σ=>σ
 | n+1,c,σ=>
  let σ0:=if c == 6 then σ.fail s 2 else σ
  let σ1:=σ0.nameT s
  let σ2:=if σ1.is s [105,110,116]||σ1.is s [116,101,120,116]||σ1.is s [98,111,111,108] then σ1.step s else σ1.fail s 2
  if σ2.is s [44] then colL s n (c+1) (σ2.step s) else σ2
def rowT (s:Bs) (n:Nat) (σ:St):St:=(run s n .list 0 (σ.must s [40])).must s [41]
def rowL (s:Bs) (n:Nat):Nat->St->St
 | 0,σ=>σ
 | m+1,σ=>let σ1:=rowT s n σ;if σ1.is s [44] then rowL s n m (σ1.step s) else σ1
def chgT (s:Bs) (n:Nat) (σ:St):St:=run s n .expr 0 ((σ.nameT s).must s [61])
def chgL (s:Bs) (n:Nat):Nat->St->St
 | 0,σ=>σ
 | m+1,σ=>let σ1:=chgT s n σ;if σ1.is s [44] then chgL s n m (σ1.step s) else σ1
def stmt (s:Bs) (n:Nat) (σ:St):St:=
 if σ.is s [99,114,101,97,116,101] then (colL s n 0 ((((σ.step s).must s [116,97,98,108,101]).nameT s).must s [40])).must s [41]
 else if σ.is s [100,114,111,112] then ((σ.step s).must s [116,97,98,108,101]).nameT s
 else if σ.is s [105,110,115,101,114,116] then
  let σ1:=((σ.step s).must s [105,110,116,111]).nameT s
  if σ1.is s [118,97,108,117,101,115] then rowL s n n (σ1.step s) else run s n .query 0 σ1
 else if σ.is s [100,101,108,101,116,101] then run s n .where_ 0 (((σ.step s).must s [102,114,111,109]).nameT s)
 else if σ.is s [117,112,100,97,116,101] then run s n .where_ 0 (chgL s n n (((σ.step s).nameT s).must s [115,101,116]))
 else if σ.is s [98,101,103,105,110]||σ.is s [99,111,109,109,105,116]||σ.is s [114,111,108,108,98,97,99,107] then σ.step s
 else run s n .query 0 σ
def fuel (s:Bs):Nat:=32*(s.length+4)
def St.out:St->Nat×Nat
 | .live _=>(0,0)
 | .dead x a=>(x,a)
def parse (s:Bs):Nat×Nat:=
 if 2000<s.length then (1,0)
 else
  let σ:=stmt s (fuel s) (.live 0)
  (if σ.isCl s .fin then σ else σ.fail s 2).out
def rem (s : Bs) : St -> Nat
  | .live e => s.length + 1 - e
  | .dead _ _ => 0
theorem tokEnd_ge (s : Bs) (e : Nat) : e <= tokEnd s e := by unfold tokEnd tokAt; omega
theorem many_pos {p : UInt8 -> Bool} {c : UInt8} {r : Bs} (h : p c = true) : 1 <= many p (c :: r) := by simp [many, h]
theorem first_pos {l : Bs} (hf : (first l).1 ≠ .fin) (hb : (first l).1 ≠ .bad) : 1 <= (first l).2 := by
  cases l with
  | nil => simp [first] at hf
  | cons c r =>
    by_cases h1 : isLo c = true
    · have hw : isWd c = true := by simp [isWd, h1]
      have := many_pos (p := isWd) (r := r) hw
      simp only [first, h1, if_true]
      split
      · exact this
      · split
        · exact this
        · exact this
    · have h1' : isLo c = false := by simpa using h1
      by_cases h2 : isDg c = true
      · have := many_pos (p := isDg) (r := r) h2
        simp only [first, h1', h2, if_true, Bool.false_eq_true, if_false]
        split
        · exact this
        · exact this
      · have h2' : isDg c = false := by simpa using h2
        by_cases h3 : (c == 39) = true
        · revert hb
          simp only [first, h1', h2', h3, if_true, Bool.false_eq_true, if_false]
          cases txtLen r <;> simp
        · have h3' : (c == 39) = false := by simpa using h3
          revert hb
          simp only [first, h1', h2', h3', Bool.false_eq_true, if_false]
          cases h : signLen (c :: r) <;> simp
theorem tokEnd_gt {s : Bs} {e : Nat} (hf : tokCl s e ≠ .fin) (hb : tokCl s e ≠ .bad) : e < tokEnd s e := by
  have := first_pos (l := s.drop (tokAt s e)) hf hb
  unfold tokEnd tokLen
  have : e <= tokAt s e := by unfold tokAt; omega
  omega
theorem lt_of_tok {s : Bs} {e : Nat} (hf : tokCl s e ≠ .fin) : e < s.length := by
  rcases Nat.lt_or_ge e s.length with h | h
  · exact h
  · exfalso
    apply hf
    unfold tokCl
    have : s.drop (tokAt s e) = [] := List.drop_of_length_le (by unfold tokAt; omega)
    rw [this]; rfl
theorem rem_step_le (s : Bs) (σ : St) : rem s (σ.step s) <= rem s σ := by
  cases σ with
  | live e => have := tokEnd_ge s e; simp only [rem, St.step]; omega
  | dead x a => exact Nat.le_refl _
theorem rem_fail (s : Bs) (x : Nat) (σ : St) : rem s (σ.fail s x) = 0 := by cases σ <;> rfl
theorem rem_step_lt {s : Bs} {σ : St} {w : Bs} (h : σ.is s w = true) : rem s (σ.step s) < rem s σ := by
  cases σ with
  | live e =>
    simp only [St.is, Bool.and_eq_true, beq_iff_eq] at h
    have h1 := tokEnd_gt (s := s) (e := e) (by rw [h.1]; decide) (by rw [h.1]; decide)
    have h2 := lt_of_tok (s := s) (e := e) (by rw [h.1]; decide)
    simp only [rem, St.step]; omega
  | dead x a => simp [St.is] at h
theorem rem_stepCl_lt {s : Bs} {σ : St} {c : Cl} (h : σ.isCl s c = true) (hf : c ≠ .fin) (hb : c ≠ .bad) : rem s (σ.step s) < rem s σ := by
  cases σ with
  | live e =>
    simp only [St.isCl, beq_iff_eq] at h
    have h1 := tokEnd_gt (s := s) (e := e) (by rw [h]; exact hf) (by rw [h]; exact hb)
    have h2 := lt_of_tok (s := s) (e := e) (by rw [h]; exact hf)
    simp only [rem, St.step]; omega
  | dead x a => simp [St.isCl] at h
theorem rem_take (s : Bs) (w : Bs) (σ : St) : rem s (σ.take s w) <= rem s σ := by
  unfold St.take; split
  · exact rem_step_le s σ
  · exact Nat.le_refl _
theorem rem_must (s : Bs) (w : Bs) (σ : St) : rem s (σ.must s w) <= rem s σ := by
  unfold St.must; split
  · exact rem_step_le s σ
  · rw [rem_fail]; omega
theorem rem_must_lt (s : Bs) (w : Bs) (σ : St) : rem s (σ.must s w) < rem s σ \/ rem s (σ.must s w) = 0 := by
  unfold St.must; split
  · rename_i h; exact Or.inl (rem_step_lt h)
  · exact Or.inr (rem_fail _ _ _)
theorem rem_nameT (s : Bs) (σ : St) : rem s (σ.nameT s) <= rem s σ := by
  unfold St.nameT; split
  · exact rem_step_le s σ
  · rw [rem_fail]; omega
theorem rem_openT (s : Bs) (d : Nat) (σ : St) : rem s (σ.openT s d) <= rem s σ := by
  unfold St.openT; split
  · rw [rem_fail]; omega
  · exact rem_step_le s σ
theorem rem_openT_lt {s : Bs} {w : Bs} {d : Nat} {σ : St} (h : σ.is s w = true) : rem s (σ.openT s d) < rem s σ := by
  have := rem_step_lt h
  unfold St.openT; split
  · rw [rem_fail]; omega
  · exact this
theorem rem_opened (s : Bs) (w : Bs) (d : Nat) (σ : St) : rem s (σ.opened s w d) <= rem s σ := by
  unfold St.opened; split
  · exact rem_openT s d σ
  · rw [rem_fail]; omega
theorem rem_run (s : Bs) : ∀ (n : Nat) (nt : Nt) (d : Nat) (σ : St), rem s (run s n nt d σ) <= rem s σ
  | 0, _, _, _ => by unfold run; exact Nat.le_refl _
  | n + 1, nt, d, σ => by
    have ih := rem_run s n
    have hs := fun σ => rem_step_le s σ
    have hm := fun w σ => rem_must s w σ
    have ht := fun w σ => rem_take s w σ
    have hn := fun σ => rem_nameT s σ
    have ho := fun d σ => rem_openT s d σ
    have hp := fun w d σ => rem_opened s w d σ
    cases nt with
    | expr => rw [run]; exact Nat.le_trans (ih _ _ _) (ih _ _ _)
    | orL => rw [run]; split
             · exact Nat.le_trans (ih _ _ _) (Nat.le_trans (ih _ _ _) (hs _))
             · exact Nat.le_refl _
    | both => rw [run]; exact Nat.le_trans (ih _ _ _) (ih _ _ _)
    | andL => rw [run]; split
              · exact Nat.le_trans (ih _ _ _) (Nat.le_trans (ih _ _ _) (hs _))
              · exact Nat.le_refl _
    | no => rw [run]; split
            · exact Nat.le_trans (ih _ _ _) (ho _ _)
            · exact ih _ _ _
    | compare =>
      rw [run]
      have h1 := ih .sum d σ
      refine Nat.le_trans ?_ h1
      generalize run s n .sum d σ = σ1
      try dsimp only
      split
      · exact Nat.le_trans (ih _ _ _) (hs _)
      · split
        · exact Nat.le_trans (hm _ _) (Nat.le_trans (ht _ _) (hs _))
        · split
          · exact Nat.le_trans (hm _ _) (Nat.le_trans (ih _ _ _) (Nat.le_trans (hp _ _ _) (Nat.le_trans (hm _ _) (hs _))))
          · split
            · exact Nat.le_trans (hm _ _) (Nat.le_trans (ih _ _ _) (Nat.le_trans (hp _ _ _) (hs _)))
            · exact Nat.le_refl _
    | sum => rw [run]; exact Nat.le_trans (ih _ _ _) (ih _ _ _)
    | sumL => rw [run]; split
              · exact Nat.le_trans (ih _ _ _) (Nat.le_trans (ih _ _ _) (hs _))
              · exact Nat.le_refl _
    | product => rw [run]; exact Nat.le_trans (ih _ _ _) (ih _ _ _)
    | prodL => rw [run]; split
               · exact Nat.le_trans (ih _ _ _) (Nat.le_trans (ih _ _ _) (hs _))
               · exact Nat.le_refl _
    | unary => rw [run]; split
               · exact Nat.le_trans (ih _ _ _) (ho _ _)
               · exact ih _ _ _
    | atom =>
      rw [run]
      split
      · exact hs _
      · split
        · exact hs _
        · split
          · split
            · exact Nat.le_trans (hn _) (Nat.le_trans (hs _) (hs _))
            · exact hs _
          · split
            · split
              · exact Nat.le_trans (hm _ _) (Nat.le_trans (ih _ _ _) (ho _ _))
              · exact Nat.le_trans (hm _ _) (Nat.le_trans (ih _ _ _) (ho _ _))
            · split
              · exact Nat.le_trans (hm _ _) (Nat.le_trans (ih _ _ _) (Nat.le_trans (hp _ _ _) (hs _)))
              · split
                · exact Nat.le_trans (hm _ _) (Nat.le_trans (ih _ _ _) (Nat.le_trans (hp _ _ _) (hs _)))
                · split
                  · exact Nat.le_trans (hm _ _) (Nat.le_trans (ih _ _ _) (ho _ _))
                  · rw [rem_fail]; omega
    | list => rw [run]; exact Nat.le_trans (ih _ _ _) (ih _ _ _)
    | listL => rw [run]; split
               · exact Nat.le_trans (ih _ _ _) (Nat.le_trans (ih _ _ _) (hs _))
               · exact Nat.le_refl _
    | caseW => rw [run]; exact Nat.le_trans (ih _ _ _) (Nat.le_trans (ih _ _ _) (hm _ _))
    | caseT =>
      rw [run]
      have h1 := Nat.le_trans (ih .expr d (σ.must s [116, 104, 101, 110])) (hm _ _)
      refine Nat.le_trans ?_ h1
      generalize run s n .expr d (σ.must s [116, 104, 101, 110]) = σ1
      try dsimp only
      split
      · exact ih _ _ _
      · split
        · exact ih _ _ _
        · exact Nat.le_refl _
    | caseE => rw [run]; exact Nat.le_trans (ih _ _ _) (hm _ _)
    | query => rw [run]; exact Nat.le_trans (ih _ _ _) (ih _ _ _)
    | queryL => rw [run]; split
                · exact Nat.le_trans (ih _ _ _) (Nat.le_trans (ih _ _ _) (Nat.le_trans (ht _ _) (hs _)))
                · exact Nat.le_refl _
    | term => rw [run]; exact Nat.le_trans (ih _ _ _) (ih _ _ _)
    | termL => rw [run]; split
               · exact Nat.le_trans (ih _ _ _) (Nat.le_trans (ih _ _ _) (Nat.le_trans (ht _ _) (hs _)))
               · exact Nat.le_refl _
    | factor =>
      rw [run]
      split
      · exact Nat.le_trans (hm _ _) (Nat.le_trans (ih _ _ _) (ho _ _))
      · try dsimp only
        refine Nat.le_trans (ih _ _ _) ?_
        have h1 := Nat.le_trans (ht [100, 105, 115, 116, 105, 110, 99, 116] (σ.must s [115, 101, 108, 101, 99, 116])) (hm _ _)
        generalize (σ.must s [115, 101, 108, 101, 99, 116]).take s [100, 105, 115, 116, 105, 110, 99, 116] = σ1 at h1 ⊢
        have h2 : rem s (if σ1.is s [42] then σ1.step s else run s n .list d σ1) <= rem s σ1 := by
          split
          · exact hs _
          · exact ih _ _ _
        generalize (if σ1.is s [42] then σ1.step s else run s n .list d σ1) = σ2 at h2 ⊢
        refine Nat.le_trans ?_ (Nat.le_trans h2 h1)
        split
        · exact Nat.le_trans (ih _ _ _) (hs _)
        · exact Nat.le_refl _
    | fromL =>
      rw [run]
      try dsimp only
      have h1 := hn σ
      generalize σ.nameT s = σ1 at h1 ⊢
      have h2 : rem s (if σ1.isCl s .name then σ1.step s else σ1) <= rem s σ1 := by
        split
        · exact hs _
        · exact Nat.le_refl _
      generalize (if σ1.isCl s .name then σ1.step s else σ1) = σ2 at h2 ⊢
      refine Nat.le_trans ?_ (Nat.le_trans h2 h1)
      split
      · exact Nat.le_trans (ih _ _ _) (hs _)
      · exact Nat.le_refl _
    | where_ => rw [run]; split
                · exact Nat.le_trans (ih _ _ _) (hs _)
                · exact Nat.le_refl _
def lev : Nt -> Nat
  | .orL | .andL | .sumL | .prodL | .listL | .queryL | .termL => 1
  | .fromL => 2
  | .atom => 2 | .unary => 3 | .product => 4 | .sum => 5 | .compare => 6 | .no => 7 | .both => 8 | .expr => 9 | .where_ => 10 | .list => 10 | .caseE => 11 | .caseT => 12 | .caseW => 13 | .factor => 12 | .term => 14 | .query => 15
end Go.Proofs.YtgnncnhkgmhngaaGreatDoor.Sp
