import Derived.Calls
import Derived.RunT
import Derived.Test.YtgnncnhkgmhngaaGreatDoorJ31
import Derived.Test.YtgnncnhkgmhngaaGreatDoorJ32
set_option maxHeartbeats 4000000
set_option maxRecDepth 100000
namespace Go.Proofs.YtgnncnhkgmhngaaGreatDoor.Dr
open Go
theorem D7 {α : Type} : ∀ (q : Ask α) (w : World) (d : Nat), d <= w.drawn -> d <= (w.ask q).2.drawn
  | .done a, w, d, h => h
  | .ask what range k, w, d, h => by
    simp only [World.ask]
    split
    · exact D7 _ _ _ h
    · exact D7 _ _ _ (cE h (Nat.le_succ _))
theorem Og (w : World) (c : Sys) (d : Nat) (h : d <= w.drawn) : d <= (w.sys c).2.drawn := by
  have h2 := D7 (Kernel.perform c w.os) w d h
  unfold World.sys
  split
  · exact h
  · rename_i r os w' _ e
    rw [e] at h2
    exact h2
def rw' {α : Type} : Result α -> World
  | .ok _ w => w
  | .halt _ w => w
theorem uE (p : Program) (w w' : World) (at_ : Addr) (u : TypeId) (k : Addr) (v : Value) (b : Bool) (l : List Addr) (h : w.viewStore p at_ u k v b = .ok (w', l)) : w'.drawn = w.drawn := by
  unfold World.viewStore at h
  simp only [bind, Except.bind, pure, Except.pure] at h
  repeat' split at h
  all_goals first | (cases h; done) | skip
  all_goals first | (cases h; rfl) | skip
  all_goals (try (simp only [Except.ok.injEq, Prod.mk.injEq] at h; obtain ⟨rfl, _⟩ := h; rfl))
theorem vT (p : Program) (w w' : World) (a : Addr) (v : Value) (b : Bool) (l : List Addr) (h : w.farStore p a v b = .ok (w', l)) : w'.drawn = w.drawn := by
  unfold World.farStore at h
  split at h
  · split at h
    · rename_i r e
      cases h
      exact uE p w w' _ _ _ _ _ _ e
    · cases h
  · cases h
theorem JA {α : Type} (p : Program) (e : Sem α) : ∀ (w : World) (d : Nat), d <= w.drawn -> d <= (rw' (e.run p w)).drawn := by
  induction e with
  | pure a => intro w d h; exact h
  | load m a k ih =>
    intro w d h; simp only [Sem.run]; split
    · exact ih _ _ _ h
    · split
      · exact ih _ _ _ h
      · exact h
  | store m a v k ih =>
    intro w d h
    cases v <;> simp only [Sem.run] <;> first
      | exact h
      | (split
         · split
           · exact h
           · exact ih _ _ h
         · split
           · rename_i hh
             exact ih _ _ (by rw [vT p w _ a _ _ _ hh]; exact h)
           · exact h)
  | new o k ih => intro w d h; exact ih _ _ _ h
  | shape r k ih => intro w d h; exact ih _ _ _ h
  | freeze a n k ih => intro w d h; exact ih _ _ (by unfold World.freeze; split <;> exact h)
  | frozen a k ih => intro w d h; exact ih _ _ _ h
  | getObj r k ih => intro w d h; simp only [Sem.run]; split <;> first | exact h | exact ih _ _ _ h
  | setObj r o k ih => intro w d h; simp only [Sem.run]; split <;> first | exact h | exact ih _ _ h
  | choose q k ih =>
    intro w d h; simp only [Sem.run]; split
    · exact ih _ _ _ h
    · exact ih _ _ _ (cE h (Nat.le_succ _))
  | sys c k ih => intro w d h; exact ih _ _ _ (Og w c d h)
  | program k ih => intro w d h; exact ih _ _ _ h
  | mark m k ih => intro w d h; exact ih _ _ h
  | halt h => intro w d h; exact h
theorem b9 {α : Type} {p : Program} {e : Sem α} {w w' : World} {a : α} {d : Nat} (h : d <= w.drawn) (hr : e.run p w = .ok a w') : d <= w'.drawn := by
  have := JA p e w d h; rw [hr] at this; exact this
theorem run_halt {α : Type} {p : Program} {e : Sem α} {w w' : World} {a : Halt} {d : Nat} (h : d <= w.drawn) (hr : e.run p w = .halt a w') : d <= w'.drawn := by
  have := JA p e w d h; rw [hr] at this; exact this
theorem LF {α : Type} {p : Program} {e : Sem α} {w w' : World} {a : α} {d : Nat} {es es' : Array Event} (h : d <= w.drawn) (hr : e.runT p w es = (.ok a w', es')) : d <= w'.drawn :=
  b9 h (by rw [<- Sem.runT_fst p e w es, hr])
theorem GO {α : Type} {p : Program} {e : Sem α} {w w' : World} {a : Halt} {d : Nat} {es es' : Array Event} (h : d <= w.drawn) (hr : e.runT p w es = (.halt a w', es')) : d <= w'.drawn :=
  run_halt h (by rw [<- Sem.runT_fst p e w es, hr])
theorem gZ {α : Type} {p : Program} {e : Sem α} {w w' : World} {a : α} {d : Nat} {es : Array Event} (h : d <= w.drawn) (hr : (e.runT p w es).1 = .ok a w') : d <= w'.drawn :=
  b9 h (by rw [<- Sem.runT_fst p e w es, hr])
theorem j7 {α : Type} {p : Program} {e : Sem α} {w w' : World} {a : Halt} {d : Nat} {es : Array Event} (h : d <= w.drawn) (hr : (e.runT p w es).1 = .halt a w') : d <= w'.drawn :=
  run_halt h (by rw [<- Sem.runT_fst p e w es, hr])
def Ge (d : Nat) : GStep -> Prop
  | .go _ w _ => d <= w.drawn
  | .comm _ _ _ _ w _ => d <= w.drawn
  | .spawn _ _ w _ => d <= w.drawn
  | .count _ w _ => d <= w.drawn
  | .timer _ _ w _ => d <= w.drawn
  | .alone _ _ w _ => d <= w.drawn
  | .newcoro _ _ _ w _ => d <= w.drawn
  | .coroswitch _ _ _ w _ => d <= w.drawn
  | .collect _ w _ => d <= w.drawn
  | .watch _ w _ => d <= w.drawn
  | .ended _ _ _ => True
theorem Ge.after {d : Nat} {s : GStep} (es : Array Event) (h : Ge d s) : Ge d (GStep.after es s) := by cases s <;> exact h
theorem D8 (w : World) (fd : Nat) (t : ByteArray) (o : Outcome) (d : Nat) : Ge d (endWith w fd t o) := by
  unfold endWith
  repeat' split
  all_goals exact trivial
theorem mR (fr : Frame) (m : String) (w : World) (d : Nat) (h : d <= w.drawn) : Ge d (endThrow fr m w) := h
theorem mS (p : Program) (fr : Frame) (v : Value) (w : World) (d : Nat) (h : d <= w.drawn) : Ge d (endPrinting p fr v w) := by
  unfold endPrinting
  simp only []
  split
  · exact h
  · exact trivial
theorem rR (p : Program) (fr : Frame) (cs : List Frame) (dy : Option Dying) (m : String) (w : World) (d : Nat) (h : d <= w.drawn) : Ge d (endFatal p fr cs dy m w) := by
  unfold endFatal
  simp only []
  split
  · rename_i hr; exact b9 h hr
  · exact trivial
  · exact trivial
theorem D9 (p : Program) (fr : Frame) (dy : Dying) (f : Fatal) (w : World) (d : Nat) (h : d <= w.drawn) : Ge d (writeOn p fr dy f w) := by
  unfold writeOn
  simp only []
  split
  · exact trivial
  · split
    · rename_i hr; exact LF h hr
    · rename_i hr; exact GO h hr
    · exact trivial
    · exact trivial
theorem Oh (p : Program) (fr : Frame) (dy : Dying) (w : World) (d : Nat) (h : d <= w.drawn) : Ge d (die p fr dy w) := by
  unfold die
  split
  · exact D9 p fr dy _ w d h
  · split
    · split
      · exact h
      · exact D8 _ _ _ _ _
    · simp only []
      split
      · exact h
      · split
        · rename_i hr; exact b9 h hr
        · exact trivial
      · refine Ge.after _ ?_
        split
        · rename_i hr; exact gZ h hr
        · rename_i hr; exact gZ h hr
        · exact trivial
        · rename_i hr; exact mS _ _ _ _ _ (j7 h hr)
        · exact trivial
      · exact trivial
theorem mT (p : Program) (main : Bool) (fr : Frame) (cs : List Frame) (dy : Option Dying) (v : Value) (w : World) (d : Nat) (h : d <= w.drawn) : Ge d (doReturn p main fr cs dy v w) := by
  unfold doReturn
  repeat' split
  all_goals first | exact h | exact trivial
theorem jI {d : Nat} {c : Prop} [Decidable c] {a b : GStep} (h1 : Ge d a) (h2 : Ge d b) : Ge d (if c then a else b) := by
  split
  · exact h1
  · exact h2
theorem sL (p : Program) (fr : Frame) (cs : List Frame) (dy : Option Dying) (df : Deferred) (w : World) (d : Nat) (h : d <= w.drawn) : Ge d (callDeferred p fr cs dy df w) := by
  unfold callDeferred
  refine jI trivial ?_
  simp only []
  refine Ge.after _ ?_
  split
  all_goals rename_i hr
  all_goals first
    | exact trivial
    | exact gZ h hr
    | exact j7 h hr
    | exact rR _ _ _ _ _ _ _ (j7 h hr)
    | exact mR _ _ _ _ (j7 h hr)
    | (split <;> exact gZ h hr)
theorem GP (p : Program) (main : Bool) (fr : Frame) (cs : List Frame) (dy : Option Dying) (w : World) (d : Nat) (h : d <= w.drawn) : Ge d (unwind p main fr cs dy w) := by
  unfold unwind
  split
  · simp only []
    refine Ge.after _ ?_
    split
    · rename_i hr; exact gZ h hr
    · exact trivial
  · exact sL _ _ _ _ _ _ _ h
  · split
    · exact trivial
    · split
      · exact trivial
      · split
        · exact h
        · split
          · split
            · exact h
            · split
              · rename_i hr; exact b9 h hr
              · exact trivial
              · exact trivial
          · split
            · exact mS _ _ _ _ _ h
            · exact trivial
    · split
      · exact mT _ _ _ _ _ _ _ _ h
      · simp only []
        refine Ge.after _ ?_
        split
        · rename_i hr; exact mT _ _ _ _ _ _ _ _ (gZ h hr)
        · exact trivial
        · exact trivial
theorem JB (p : Program) (fr : Frame) (cs : List Frame) (dy : Option Dying) (g : Nat) (w : World) (d : Nat) (h : d <= w.drawn) : Ge d (early p fr cs dy g w) := by
  unfold early
  simp only []
  have hn : ∀ w : World, d <= w.drawn -> Ge d (match w.heap[g]? with
    | some (.pending c elem) => GStep.go { frame := fr, callers := cs, status := .running, dying := dy } { w with heap := w.heap.setIfInBounds g (.cells c elem) }
    | _ => .ended (.stuck "early: the variable does not wait" (fr.pos p)) w) := λw h => by
    split
    · exact h
    · exact trivial
  refine jI (hn w h) ?_
  split
  · exact trivial
  · refine jI (hn w h) ?_
    refine jI (hn w h) ?_
    split
    · exact trivial
    · exact h
    · exact trivial
    · exact hn w h
    · refine jI h ?_
      refine jI (hn w h) ?_
      split
      · rename_i hr; exact hn _ (b9 h hr)
      · rename_i hr; exact b9 h hr
      · exact trivial
theorem zS {α:Type} {d:Nat} {o:Option α} {a:GStep} {f:α->GStep} (h1:Ge d a) (h2:∀ x,Ge d (f x)):Ge d (o.elim a f):=by
 cases o
 ·exact h1
 ·exact h2 _
theorem mU (p:Program) (listen:Bool) (fr:Frame) (cs:List Frame) (dy:Option Dying) (s:Sem Next) (w:World) (d:Nat) (h:d<=w.drawn):Ge d (stepG.apply p listen fr cs dy s w):=by
 unfold stepG.apply
 simp only []
 refine Ge.after _ ?_
 have hx:(if listen then s.runT p w #[] else (s.run p w,#[])).1=s.run p w:=by
  cases listen
  ·rfl
  ·exact Sem.runT_fst p s w #[]
 rw [hx]
 split
 all_goals rename_i hr
 all_goals first
  | exact trivial
  | exact b9 h hr
  | exact run_halt h hr
  | exact rR _ _ _ _ _ _ _ (run_halt h hr)
  | exact mR _ _ _ _ (run_halt h hr)
  | exact JB _ _ _ _ _ _ _ (run_halt h hr)
  | skip
 all_goals first
  | (split <;> exact b9 h hr)
  | exact jI (mR _ _ _ _ (b9 h hr)) (b9 h hr)
  | skip
theorem LG (p:Program) (listen:Bool) (fr:Frame) (cs:List Frame) (dy:Option Dying) (w:World) (d:Nat) (h:d<=w.drawn):Ge d (stepG.oper p listen fr cs dy w):=by
 unfold stepG.oper
 split
 ·exact trivial
 ·split
  ·exact mU p _ _ _ _ _ _ _ h
  ·exact mU p _ _ _ _ _ _ _ h
theorem LH (p:Program) (main listen:Bool) (fr:Frame) (cs:List Frame) (dy:Option Dying) (w:World) (d:Nat) (h:d<=w.drawn):Ge d (stepG.exec p main listen fr cs dy w):=by
 unfold stepG.exec
 simp only []
 have hm:∀ (c:Prop) [Decidable c] (jump:Option Code),Ge d (match fr.roundOf with
   | none => if c then GStep.go { frame := { fr with mode := .returning }, callers := cs, status := .running, dying := dy } w else .ended (.stuck "exit, goto: no such block or label" (fr.pos p)) w
   | some l=>
    GStep.after (seen p fr.fn ((Instr.endRound l jump).runT p w #[]).2) <| match ((Instr.endRound l jump).runT p w #[]).1 with
    | .ok v w=>doReturn p main fr cs dy v w
    | .halt _ w => .ended (.stuck "range over a function: no such loop" (fr.pos p)) w) := λc _ jump => by
  split
  ·exact jI h trivial
  ·refine Ge.after _ ?_
   split
   ·rename_i hr;exact mT _ _ _ _ _ _ _ _ (gZ h hr)
   ·exact trivial
 split
 all_goals first
  | exact hm _ _
  | exact h
  | exact trivial
  | exact mU p _ _ _ _ _ _ _ h
  | skip
 ·split
  ·exact h
  ·exact trivial
 ·exact zS (hm _ _) λ_=>h
 ·exact zS (hm _ _) λ_=>h
 ·refine Ge.after _ ?_
  split
  ·rename_i hr;exact mU p _ _ _ _ _ _ _ (gZ h hr)
  ·exact trivial
 ·refine Ge.after _ ?_
  split
  ·rename_i hr;exact gZ h hr
  ·rename_i hr;exact j7 h hr
  ·exact trivial
 ·exact zS trivial λ_=>mU p _ _ _ _ _ _ _ h
 ·refine jI h ?_
  split
  ·rename_i hr;exact b9 h hr
  ·exact trivial
 ·exact jI (LG p _ _ _ _ _ _ h) h
theorem JC (p:Program) (main listen:Bool) (g:Goroutine) (w:World) (d:Nat) (h:d<=w.drawn):Ge d (stepG p main g w listen):=by
 unfold stepG
 simp only []
 split
 ·exact Oh _ _ _ _ _ h
 ·exact LH _ _ _ _ _ _ _ _ h
 ·exact GP _ _ _ _ _ _ _ h
def Se (d:Nat):Stepped->Prop
 | .next m=>d<=m.world.drawn
 | .ended _ _=>True
theorem JD {d:Nat} {c:Prop} [Decidable c] {a b:Stepped} (h1:Se d a) (h2:Se d b):Se d (if c then a else b):=by
 split
 ·exact h1
 ·exact h2
theorem Fj (p:Program) (gs:Array Goroutine) (r:Rest) (w:World) (d:Nat) (h:d<=w.drawn):Se d (look p gs r w):=by
 unfold look
 split
 ·simp only []
  refine JD trivial ?_
  split
  ·exact trivial
  ·split
   ·rename_i hr
    have hz:=b9 h hr
    exact hz
   ·exact trivial
   ·exact trivial
 ·exact trivial
theorem zT {d:Nat} {c:Prop} [Decidable c] {a b:Stepped×Array MemOp} (h1:Se d a.1) (h2:Se d b.1):Se d (if c then a else b).1:=by
 split
 ·exact h1
 ·exact h2
theorem uF (p:Program) (r:Rest) (gs:Array Goroutine) (i:Nat) (g:Goroutine) (cs:Array CommCase) (b:Bool) (sh:CommShape) (w:World) (d:Nat) (h:d<=w.drawn):Se d (communicate p r gs i g cs b sh w).1:=by
 unfold communicate
 simp only []
 refine zT trivial ?_
 refine zT (zT ?_ h) ?_
 ·split
  ·rename_i hr
   unfold waitingAt at hr
   split at hr
   ·split at hr
    ·cases hr;exact h
    ·cases hr
   ·cases hr;exact h
  ·exact trivial
 ·split
  ·exact trivial
  ·rename_i hr
   have hz:=b9 h hr
   split
   ·split
    ·rename_i hr2
     have hz2:=run_halt hz hr2
     exact hz2
    ·exact trivial
   ·exact hz
   ·exact hz
   ·split
    ·exact hz
    ·split
     ·rename_i hr2
      have hz2:=b9 hz hr2
      exact hz2
     ·exact trivial
   ·exact hz
   ·exact hz
   ·exact trivial
theorem Ea (m m' : Machine) (op:TimerOp) (v:Value) (d:Nat) (h:d<=m.world.drawn) (hr:timerOp m op = .ok (v,m')):d<=m'.world.drawn:=by
 have hret:∀ (m:Machine) (k:Nat) (t:Timer) (a b:Nat),d<=m.world.drawn->d<=(retime m k t a b).2.world.drawn:=λm k t a b h=>by
  unfold retime
  simp only []
  split
  ·unfold drain;split <;> exact h
  ·exact h
 have QK:∀ (m:Machine) (var:Addr) (f:Nat->Timer->Value×Machine),(∀ k t,d<=(f k t).2.world.drawn)->timerOp.named m var f = .ok (v,m')->d<=m'.world.drawn:=λm var f hf hr=>by
  unfold timerOp.named at hr
  split at hr
  ·rename_i k _
   have hz:=hf k (m.rest.timers.getD k default)
   injection hr with hr
   rw [hr] at hz
   exact hz
  ·cases hr
 cases op with
 | new t=>
  simp only [timerOp] at hr
  split at hr
  ·injection hr with hr;injection hr with h1 h2;rw [<- h2];exact h
  ·split at hr
   ·split at hr
    ·cases hr
    ·injection hr with hr;injection hr with h1 h2;rw [<- h2];exact h
   ·cases hr
 | stop var=>exact QK m var _ (λk t=>hret m k t _ _ h) hr
 | reset var a b=>
  simp only [timerOp] at hr
  split at hr
  ·rename_i m2 ho
   have h2:d<=m2.world.drawn:=by
    unfold timerOp.opened at ho
    split at ho
    ·split at ho
     ·cases ho;exact h
     ·cases ho
    ·cases ho;exact h
   exact QK _ var _ (λk t=>hret m2 k t _ _ h2) hr
  ·cases hr
 | deadline ctx a b c=>
  simp only [timerOp] at hr
  injection hr with hr;injection hr with h1 h2;rw [<- h2];exact h
theorem JE (p:Program) (m:Machine) (k:Nat) (d:Nat) (h:d<=m.world.drawn):Se d (serve p m k):=by
 unfold serve
 split
 ·exact trivial
 ·exact h
 ·simp only []
  split
  ·exact trivial
  ·exact h
theorem LI (p:Program) (m:Machine) (i:Nat) (l:Bool) (d:Nat) (h:d<=m.world.drawn):Se d (runT p m i l).1:=by
 unfold runT
 simp only []
 have hs:∀ g,Ge d (stepG p (i == 0) g m.world l):=λg=>JC p _ l g _ d h
 split
 all_goals rename_i hr
 all_goals (have hz:=hs (m.gs.swapAt! i { (default:Goroutine) with status := .finished }).1;rw [hr] at hz)
 all_goals first
  | exact trivial
  | exact hz
  | exact uF _ _ _ _ _ _ _ _ _ _ hz
  | exact Fj _ _ _ _ _ hz
  | exact JD trivial hz
  | skip
 ·simp only []
  split
  ·exact hz
  ·split
   ·rename_i e;injection e with e1 e2;rw [<- e2];exact hz
   ·exact trivial
  ·exact trivial
 ·simp only []
  split
  ·rename_i ht
   have ht2:=λhh=>Ea _ _ _ _ d hh ht
   exact ht2 hz
  ·split
   ·rename_i e;injection e with e1 e2;rw [<- e2];exact hz
   ·exact trivial
  ·exact trivial
  ·exact trivial
def Me (d:Nat):Move->Prop
 | .goroutine m _=>d<=m.world.drawn
 | .machine s _=>Se d s
theorem mV {d:Nat} {c:Prop} [Decidable c] {a b:Move} (h1:Me d a) (h2:Me d b):Me d (if c then a else b):=by
 split
 ·exact h1
 ·exact h2
theorem uG (p:Program) (m:Machine) (d:Nat) (h:d<=m.world.drawn):Me d (askOn p m):=by
 unfold askOn
 simp only []
 split
 ·exact trivial
 ·rename_i hr
  have hz:=b9 h hr
  refine mV (JE _ _ _ _ hz) ?_
  split
  ·split
   ·exact hz
   ·refine mV hz ?_
    split
    ·exact trivial
    ·exact trivial
  ·split
   ·skip
    split
    ·exact trivial
    ·rename_i hp
     have hz2:=b9 hz hp
     refine mV hz2 ?_
     split
     ·exact trivial
     ·rename_i hq
      have hz3:=b9 hz2 hq
      exact hz3
   ·split
    ·exact trivial
    ·rename_i h5
     have h6:=b9 hz h5
     split
     ·exact trivial
     ·rename_i hp
      have hz2:=b9 h6 hp
      refine mV hz2 ?_
      split
      ·exact trivial
      ·rename_i hq
       have hz3:=b9 hz2 hq
       exact hz3
    ·rename_i h5
     have h6:=b9 hz h5
     exact h6
    ·rename_i h5
     have h6:=b9 hz h5
     split
     ·exact trivial
     ·rename_i hp
      have hz2:=b9 (by exact h6) hp
      refine mV hz2 ?_
      split
      ·exact trivial
      ·rename_i hq
       have hz3:=b9 hz2 hq
       exact hz3
theorem JF (p:Program) (m:Machine) (d:Nat) (h:d<=m.world.drawn):Me d (ask p m):=by
 unfold ask
 refine mV ?_ (uG p m d h)
 split
 ·exact trivial
 ·rename_i h5
  have h6:=b9 h h5
  have h7:=Fj p m.gs m.rest _ d h6
  split
  ·rename_i h8
   rw [h8] at h7
   exact uG _ _ _ h7
  ·exact h7
 ·rename_i h5
  have h6:=b9 h h5
  exact uG _ _ _ h6
theorem LJ (p:Program) (m:Machine) (d:Nat) (h:d<=m.world.drawn):Me d (move p m):=by
 unfold move
 split
 ·exact mV h trivial
 ·split
  ·exact mV h (JF _ _ _ h)
  ·exact JF _ _ _ h
theorem LK (p:Program) (m:Machine) (d:Nat) (h:d<=m.world.drawn):Se d (step p m):=by
 unfold step stepT
 have h2:=LJ p m d h
 split
 ·rename_i e;rw [e] at h2;exact LI _ _ _ _ _ h2
 ·rename_i e;rw [e] at h2;exact h2
theorem Fk (p:Program):∀ (n:Nat) (m:Machine) (d:Nat),d<=m.world.drawn->Se d (runN p n m)
 | 0,m,d,h=>h
 | n+1,m,d,h=>by
  have h2:=LK p m d h
  unfold runN
  split
  ·rename_i e;rw [e] at h2;exact Fk p n _ d h2
  ·exact h2
theorem rS {P:Program} {f:FuncId} {args:Array Value} {w:World} {R:Ending->World->Prop} (h:Calls P f args w R) (ho:∀ w',¬ R .outgrown w') :
  Calls P f args w λe w'=>R e w'/\w.drawn<=w'.drawn:=by
 intro cs
 obtain ⟨e,w',fr,hR,hC,hf,hl⟩:=h cs
 refine ⟨e,w',fr,⟨hR,?_⟩,hC,hf,hl⟩
 have key:Steps P (lone (Frame.enter P f args .normal) cs w) (lone fr cs w')->w.drawn<=w'.drawn:=λ⟨n,hn⟩=>by
  have:=Fk P n (lone (Frame.enter P f args .normal) cs w) w.drawn (aF _)
  rw [hn] at this
  exact this
 cases e with
 | returned v=>exact key hC
 | panicked c=>exact key hC
 | outgrown=>exact absurd hR (ho w')
end Go.Proofs.YtgnncnhkgmhngaaGreatDoor.Dr
namespace Go.Proofs.YtgnncnhkgmhngaaGreatDoor
open Sp
open Go.RowKit Go.Sort
theorem uH {w:World} {nd:Nd} {lo hi N:Nat} {v:Value} (h:Rp w nd lo hi v) (hw:wf N nd .query):(∃ b,v = .iface 278 (.pointer (some ⟨b,0,none⟩)))\/(∃ b,v = .iface 280 (.pointer (some ⟨b,0,none⟩))):=by
 cases nd with
 | sel di st ex src wh=>obtain ⟨b,xv,fv,wv,m1,m2,m3,m4,e,_⟩:=h;exact .inl ⟨b,e⟩
 | comb wd a all p q=>obtain ⟨b,pv,qv,m1,m2,m3,e,_⟩:=h;exact .inr ⟨b,e⟩
 | _=>simp [wf] at hw
theorem QL (T:List Sp.Tb) {wh:Nd} (hw:wf 90000 wh .cl) (hd:wh.dep<=90000):wh = .none\/∃ a e,wh = .clause a e/\Bi T e/\1+e.dep<=100000:=by
 cases wh with
 | none=>exact .inl rfl
 | clause a e=>exact .inr ⟨a,e,rfl,(Fh T 90000 (aF _) (.clause a e)).2.2.2.1 hw a e rfl,by simp only [Nd.dep] at hd;omega⟩
 | _=>simp [wf] at hw
theorem GQ {T:List Sp.Tb} {k cb lo hi:Nat} {tv v:Value} {s:wB} {w:World} (hs:okS 90000 s) (hnt:∀ z,s ≠ .trans z) (hc:CB cb tv ⟨0,0,false⟩ w) (ht:sF k w T tv) (hkl:k<=lo) (E4:hi<=cb) (hV:nM w s lo hi v) :
  Calls Tryz.prog 85 #[.pointer (some ⟨cb,0,none⟩),v] w λr w'=>r = .returned (.tuple #[])/\CB cb tv (check T s).1 w'/\nM w' (check T s).2 lo hi v/\Fc cb lo hi w w':=by
 have hM:=Fh T 90000 (aF _)
 have hcw:=hc.lt
 cases s with
 | create t cols=>
  obtain ⟨p,rfl,q,sl,rfl,h1,h2,hA,hL⟩:=hV
  have hcl:cols.length<=7:=hs
  refine GH (P:=λw'=>CB cb tv (check T (.create t cols)).1 w'/\nM w' (check T (.create t cols)).2 lo hi (.iface 160 (.pointer (some ⟨q,0,none⟩)))/\Fc cb lo hi w w') ((BK hc ht hkl E4 ⟨h1,h2⟩ hA hL (by omega)).mono ?_)
  rintro r w' ⟨rfl,h,kk⟩
  exact ⟨rfl,h,⟨_,rfl,q,sl,rfl,h1,h2,hA.same kk.size (kk.block q hA.1 (by omega)),hL.frame (λu u1 u2=>kk.block u (by omega) (by omega))⟩,Fc.of kk⟩
 | drop t=>
  obtain ⟨q,rfl,h1,h2,hA⟩:=hV
  refine (LC hc ht hA).mono ?_
  rintro r w' ⟨rfl,h,kk⟩
  exact ⟨rfl,h,⟨q,rfl,h1,h2,hA.same kk.size (kk.block q hA.1 (by omega))⟩,Fc.of kk⟩
 | dH a t rows=>
  obtain ⟨p,rfl,q,sl,rfl,h1,h2,hA,hL⟩:=hV
  obtain ⟨hrl,hrs⟩:=hs
  refine GI (P:=λw'=>CB cb tv (check T (.dH a t rows)).1 w'/\nM w' (check T (.dH a t rows)).2 lo hi (.iface 169 (.pointer (some ⟨q,0,none⟩)))/\Fc cb lo hi w w') ((zN (N:=90000) (λx hx=>⟨DC (hrs x hx).1 (hrs x hx).2.1 ((hM x.2).2.1 (hrs x hx).1),by have:=(hrs x hx).2.2;omega,(hrs x hx).1,(hrs x hx).2.1⟩) hrl hc ht hkl E4 ⟨h1,h2⟩ hA hL).mono ?_)
  rintro r w' ⟨rfl,h,l,f⟩
  exact ⟨rfl,h,⟨_,rfl,q,sl,rfl,h1,h2,hA.same f.size (f.block q hA.1 (by omega) (by omega)),l⟩,f.wide (by omega) (aF _)⟩
 | eO a t nd=>exact hs.elim
 | delete t wh=>
  obtain ⟨q,pv,rfl,h1,h2,hA,hp,hR⟩:=hV
  obtain ⟨hw,hd⟩:=hs
  refine (GJ (QL T hw hd) hc ht hkl h1 (by omega) hA hp hR).mono ?_
  rintro r w' ⟨rfl,h,r,f⟩
  exact ⟨rfl,h,⟨q,pv,rfl,h1,h2,hA.same f.size (f.block q hA.1 (by omega) (by omega)),hp,r⟩,f.wide (aF _) (by omega)⟩
 | update t sets wh=>exact hs.elim
 | trans z=>exact absurd rfl (hnt z)
 | query nd=>
  obtain ⟨hw,hd⟩:=hs
  have hQ:=(hM nd).2.2.2.2 hw k cb (cb+1) lo hi tv v (.pointer none) ⟨0,0,false⟩ [] w ⟨hc,ht,rfl,hkl,E4,by omega,by omega⟩ (by simp;omega) hV
  rcases uH hV hw with ⟨b,rfl⟩ | ⟨b,rfl⟩
  ·refine Od (P:=λw'=>CB cb tv (check T (.query nd)).1 w'/\nM w' (check T (.query nd)).2 lo hi (.iface 278 (.pointer (some ⟨b,0,none⟩)))/\Fc cb lo hi w w') (hQ.mono ?_)
   rintro r w' ⟨v',rfl,_,_,h,r,f⟩
   exact ⟨v',rfl,h,r,f⟩
  ·refine Lz (P:=λw'=>CB cb tv (check T (.query nd)).1 w'/\nM w' (check T (.query nd)).2 lo hi (.iface 280 (.pointer (some ⟨b,0,none⟩)))/\Fc cb lo hi w w') (hQ.mono ?_)
   rintro r w' ⟨v',rfl,_,_,h,r,f⟩
   exact ⟨v',rfl,h,r,f⟩
theorem zU {w:World} {s:wB} {lo hi:Nat} {v:Value} (hs:okS 90000 s) (h:nM w s lo hi v):∃ t a,v = .iface t (.pointer a):=by
 cases s with
 | create t cols=>obtain ⟨p,rfl,q,sl,rfl,_⟩:=h;exact ⟨_,_,rfl⟩
 | drop t=>obtain ⟨q,rfl,_⟩:=h;exact ⟨_,_,rfl⟩
 | dH a t rows=>obtain ⟨p,rfl,q,sl,rfl,_⟩:=h;exact ⟨_,_,rfl⟩
 | eO a t nd=>obtain ⟨p,rfl,q,sl,rfl,_⟩:=h;exact ⟨_,_,rfl⟩
 | delete t wh=>obtain ⟨q,pv,rfl,_⟩:=h;exact ⟨_,_,rfl⟩
 | update t sets wh=>obtain ⟨p,rfl,q,sl,pv,mid,rfl,_⟩:=h;exact ⟨_,_,rfl⟩
 | trans z=>obtain ⟨q,rfl,_⟩:=h;exact ⟨_,_,rfl⟩
 | query nd=>rcases uH h hs.1 with ⟨b,rfl⟩ | ⟨b,rfl⟩ <;> exact ⟨_,_,rfl⟩
theorem CB.new {k:Nat} {T:List Sp.Tb} (w:World) {tv:Value} (_ht:sF k w T tv):CB w.heap.size tv ⟨0,0,false⟩ (w.alloc (.cells #[tv, .int .i64 0, .int .i64 0, .bool false] 182)):=
 ⟨by simp,by simp,by simp,by simp,by simp,λo=>by simp⟩
theorem check_any {T:List Sp.Tb} {k lo hi:Nat} {tv v:Value} {s:wB} {w:World} (hs:okS 90000 s) (hnt:∀ z,s ≠ .trans z) (ht:sF k w T tv) (hkl:k<=lo) (hh:hi<=w.heap.size) (hV:nM w s lo hi v) :
  Calls Tryz.prog 51 #[tv,v] w λr w'=>r = .returned (.tuple #[.int .i64 ((check T s).1.out.1:Nat), .int .i64 ((check T s).1.out.2:Nat)])/\nM w' (check T s).2 lo hi v/\Fc w.heap.size lo hi w w':=by
 have GX:=hid ((Gr.refl w).alloc (.cells #[tv, .int .i64 0, .int .i64 0, .bool false] 182))
 have hz:=GX.out.size
 have HC:=hid (GQ hs hnt (CB.new w ht) (ht.low (Low.dZ GX.out)) hkl hh (nM.frame hz hV (by obtain ⟨t,a,e⟩:=zU hs hV;exact .inr ⟨_,_,e⟩) (λu u1 u2=>GX.out.below.block u (by omega))))
 obtain ⟨vt,va,rfl⟩:=zU hs hV
 obtain ⟨ta,tn,tc,rfl⟩:∃ a n c,tv = .slice a n c:=by
  rcases ht.2.2 with ⟨rfl,rfl⟩ | ⟨b,off,c,V,rfl,_⟩
  ·exact ⟨_,_,_,rfl⟩
  ·exact ⟨_,_,_,rfl⟩
 clear ht hV
 generalize check T s=CH at *
 obtain ⟨⟨ce,ca,cm⟩,s'⟩:=CH
 simp only [] at HC ⊢
 go_enter Tryz.func51,Tryz.ntmps51
 go_wp2_with fail
 refine HC.out.mono ?_
 rintro e w1 ⟨rfl,h1,v1,f1⟩
 obtain ⟨lt,c0,c1,c2,c3,_⟩:=h1
 simp only [] at c1 c2 c3
 have HV:=hid v1
 have HF:Hid (Fc w.heap.size lo hi w w1):=(Fc.gr GX.out).trans f1
 have V6:Hid (nM w1.drew s' lo hi (.iface vt (.pointer va))):=hid (nM.frame (w:=w1) (w':=w1.drew) (aF _) v1 (.inr ⟨_,_,rfl⟩) (λu _ _=>rfl))
 have Nb:Hid (Fc w.heap.size lo hi w w1.drew):=HF.out.trans (Fc.gr (Gr.refl w1).drew)
 clear v1 f1 HC
 by_cases hce:ce=0
 ·subst hce
  have c1' : w1.cell? ⟨w.heap.size,1,none⟩=some (.int .i64 0):=c1
  clear c1
  cases cm
  ·go_wp2_with fail
   go_region
   all_goals
    go_wp2_with fail
    go_ret2
    exact ⟨rfl,V6.out,Nb.out⟩
  ·go_wp2_with fail
   go_ret2
   exact ⟨rfl,HV.out,HF.out⟩
 ·have hne:((ce:Int) == 0)=false:=by simpa using hce
  go_wp2_with fail
  go_region
  all_goals
   go_wp2_with fail
   go_ret2
   refine ⟨?_,V6.out,Nb.out⟩
   simp [CS.out,hce]
end Go.Proofs.YtgnncnhkgmhngaaGreatDoor
