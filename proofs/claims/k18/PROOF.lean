import PyProof.Rows.All
import Wide.All
import OpenK.AllK
import Wide.FinOn
import KE.KStateDown
import HandS.Head0
import HandS.Head1
import HandS.Head2
import KE.KDictDisplayH
import HandS.ForMost
import HandS.ForExc
import HandS.IsInst
import HandS.CallSlots
import HandS.Lambda
import HandS.Flow
import HandS.Style
import HandS.TupAny
import HandS.TupLe
import HandS.Deep
import HandS.TupMul
import HandS.Zip
import HandS.Rev
import HandS.Conv
import HandS.Wide
import HandS.ExcInit
import HandS.ExcField
import KE.KExcIs
import HandS.TryMany
import HandS.Text
import HandS.SetKeys
import HandS.Strs
import PyProof.ListStr
import HandS.More
import HandS.NoneIn
import HandS.Defaults
import KE.KExcInit
import HandS.HeadHook2
import HandS.EndTab
import HandS.DictComp
import HandS.Flt
import HandS.SetFor
import HandS.SortInts
import HandS.Remove
import KE.GoesEnumKw
import PyProof.DefCall
import KE.KSortTupG
import HandS.DictTup
import KE.KDictPairs
import HandS.RaiseMore
import PySem.Challenge.RW_boxeffects_k18_whole_powers_alike
set_option Elab.async false
set_option linter.all false
set_option maxRecDepth 100000
set_option maxHeartbeats 4100000
/-! E1 -/
/-! the module's top run by big steps: an evaluator of trees over the heap as a tree, sound for wp -/
noncomputable section
namespace TB
open PySem PySem.W PySem.Calls PyProof.Rows

/-- what changes while the top runs -/
abbrev St : Type := BT × Nat × Nat
abbrev Ans (α : Type) : Type := Option (Except Value α × Pos × St)
abbrev AnsC : Type := Option (Result × St)
/-- what stays -/
structure Fx where
  life : Life
  drawn : Drawn
  os : OsState
def Fx.st (f : Fx) (s : St) : Shared := ⟨absHeap s.1 s.2.1 f.life, #[], f.drawn, s.2.2, f.os⟩
def nat {α : Sort _} (n : Nat) (k : Nat → α) : α := match n with
  | 0 => k 0
  | m + 1 => k (m + 1)
theorem nat_eq {α : Sort _} (n : Nat) (k : Nat → α) : nat n k = k n := by cases n <;> rfl
/-- the object at an address -/
def seeT (T : BT) (n a : Nat) : Option (Option Obj) := match Nat.blt a n with
  | true => (match T.get a with
    | some o => some (alive o)
    | none => none)
  | false => some none
def Rec : Type := Ctx → Pos → St → AnsC
section
variable (ok : Addr → Bool) (prog : Program) (w : World) (rc : Rec) (Γ : Ctx)
def ev {α : Type} (t : Sem α) : Pos → St → Ans α :=
  Sem.rec (motive := fun _ => Pos → St → Ans α)
    (pure := fun a p s => some (.ok a, p, s))
    (raise := fun e p s => some (.error e, p, s))
    (unsupported := fun _ _ _ => none)
    (finish := fun _ _ _ => none)
    (rule := fun _ _ ih p s => ih () p s)
    («at» := fun q _ ih _ s => ih () q s)
    (load := fun a _ _ ih p s => match s with
      | (T, n, k) => match seeT T n a with
        | some (some o) => ih o p (T, n, k)
        | _ => none)
    (update := fun a _ f _ ih p s => match s with
      | (T, n, k) => match ok a, seeT T n a with
        | true, some (some _) => ih () p (T.set a f, n, k)
        | _, _ => none)
    (alloc := fun o _ ih p s => match s with
      | (T, n, k) => match ((T.ins n o).get n).isSome with
        | true => nat (n + 1) fun m => ih n p (T.ins n o, m, k)
        | false => none)
    (loadIfAlive := fun a _ ih p s => match s with
      | (T, n, k) => match seeT T n a with
        | some o => ih o p (T, n, k)
        | none => none)
    (point := fun _ _ ih p s => ih () p s)
    (register := fun _ _ _ _ _ => none)
    (fresh := fun _ ih p s => match s with
      | (T, n, k) => nat (k + 1) fun m => ih k p (T, n, m))
    (ask := fun _ ih p s => ih ⟨prog, w.params⟩ p s)
    (choose := fun _ _ _ _ _ _ => none)
    (os := fun _ _ _ _ _ _ => none)
    (call := fun c h _ _ _ ih p s => match rc (Γ.enter c h p) p s with
      | some (r, s') => ih r p s'
      | none => none)
    (handled := fun own _ ih p s => ih (if own then Γ.own else Γ.handled) p s)
    (newGen := fun _ _ _ _ _ => none)
    (genState := fun _ _ _ _ _ => none)
    (resume := fun _ _ _ _ _ _ _ => none)
    (yield := fun _ _ _ _ _ _ _ => none)
    (stack := fun _ ih p s => ih ((Γ.code, p) :: Γ.below) p s)
    (fork := fun _ _ _ _ _ => none)
    (thread := fun _ ih p s => ih 0 p s)
    (await := fun _ _ _ _ _ _ _ _ => none) t
end
/-- codes, to a depth -/
def rcN (ok : Addr → Bool) (den : Code → Sem Fin) (prog : Program) (w : World) (n : Nat) : Rec :=
  Nat.rec (motive := fun _ => Rec) (fun _ _ _ => none)
    (fun _ ih Γ p s => match ev ok prog w ih Γ (den Γ.code) p s with
      | some (.ok (.done f), _, s') => some (.ok f, s')
      | some (.ok (.again c), q, s') => match c.quiet with
        | true => ih (Γ.goto c) q s'
        | false => none
      | some (.error e, _, s') => some (.error e, s')
      | none => none) n

/-! ### what it says -/
section
variable {ok : Addr → Bool} {prog : Program} {w : World} {rc : Rec} {f : Fx}
/-- what is not to be written stays -/
def Fr (f : Fx) (ok : Addr → Bool) (s s' : St) : Prop := s.2.1 ≤ s'.2.1 ∧ ∀ b o, ok b = false → (f.st s).heap.get? b = some o → (f.st s').heap.get? b = some o
theorem Fr.refl (s : St) : Fr f ok s s := ⟨Nat.le_refl _, fun _ _ _ h => h⟩
theorem Fr.trans {a b c : St} (h : Fr f ok a b) (k : Fr f ok b c) : Fr f ok a c := ⟨Nat.le_trans h.1 k.1, fun x o hx e => k.2 x o hx (h.2 x o hx e)⟩
def Good (M : Model) (f : Fx) (ok : Addr → Bool) (rc : Rec) : Prop := ∀ Γ p s r s', rc Γ p s = some (r, s') → Fr f ok s s' ∧ ∀ R : Result → Shared → Prop, R r (f.st s') → wpCode M Γ R p (f.st s)
theorem see_some {T : BT} {n a : Nat} {o : Obj} (h : seeT T n a = some (some o)) (life : Life) : (absHeap T n life).get? a = some o ∧ a < n ∧ ∃ o', T.get a = some o' := by
  unfold seeT at h
  cases e : Nat.blt a n with
  | false => rw [e] at h; cases h
  | true =>
    have lt : a < n := Nat.le_of_ble_eq_true e
    rw [e] at h
    cases g : T.get a with
    | none => rw [g] at h; cases h
    | some o' =>
      rw [g] at h
      exact ⟨(abs_get lt g).trans (Option.some.inj h), lt, _, rfl⟩
theorem see_any {T : BT} {n a : Nat} {o : Option Obj} (h : seeT T n a = some o) (life : Life) : (absHeap T n life).get? a = o := by
  unfold seeT at h
  cases e : Nat.blt a n with
  | false =>
    rw [e] at h
    have lt : ¬ a < n := fun q => by
      rw [show Nat.blt a n = true from Nat.ble_eq_true_of_le q] at e
      cases e
    exact (abs_get_none lt).trans (Option.some.inj h)
  | true =>
    have lt : a < n := Nat.le_of_ble_eq_true e
    rw [e] at h
    cases g : T.get a with
    | none => rw [g] at h; cases h
    | some o' =>
      rw [g] at h
      exact (abs_get lt g).trans (Option.some.inj h)
/-- how an answer is used -/
def Tells {α : Type} (Q : α → Pos → Shared → Prop) (E : Value → Pos → Shared → Prop) (f : Fx) : Except Value α × Pos × St → Prop
  | (.ok a, p, s) => Q a p (f.st s)
  | (.error e, p, s) => E e p (f.st s)
theorem ev_ok {den : Code → Sem Fin} (g : Good ⟨den, prog, w⟩ f ok rc) {Γ : Ctx} {α : Type} (t : Sem α) : ∀ (p : Pos) (s : St) (z : Except Value α × Pos × St), ev ok prog w rc Γ t p s = some z →
    Fr f ok s z.2.2 ∧ ∀ Q E, Tells Q E f z → Sem.wp ⟨den, prog, w⟩ Γ t Q E p (f.st s) := by
  induction t with
  | pure a => intro p s z h; cases h; exact ⟨.refl _, fun Q E q => q⟩
  | raise e => intro p s z h; cases h; exact ⟨.refl _, fun Q E q => q⟩
  | unsupported | finish | register | choose | os | newGen | genState | resume | yield | fork | await => intro p s z h; cases h
  | rule _ k ih => exact fun p s z h => ih () p s z h
  | «at» q k ih => exact fun p s z h => ih () q s z h
  | point _ k ih => exact fun p s z h => ih () p s z h
  | ask k ih => exact fun p s z h => ih _ p s z h
  | handled own k ih => exact fun p s z h => ih _ p s z h
  | stack k ih => exact fun p s z h => ih _ p s z h
  | thread k ih => exact fun p s z h => ih _ p s z h
  | load a part k ih =>
    rintro p ⟨T, n, m⟩ z h
    have h1 : (match seeT T n a with
        | some (some o) => ev ok prog w rc Γ (k o) p (T, n, m)
        | _ => none) = some z := h
    cases e : seeT T n a with
    | none => rw [e] at h1; cases h1
    | some x =>
      cases x with
      | none => rw [e] at h1; cases h1
      | some o =>
        rw [e] at h1
        obtain ⟨q1, q2⟩ := ih o p (T, n, m) z h1
        exact ⟨q1, fun Q E q => ⟨o, (see_some e f.life).1, q2 Q E q⟩⟩
  | loadIfAlive a k ih =>
    rintro p ⟨T, n, m⟩ z h
    have h1 : (match seeT T n a with
        | some o => ev ok prog w rc Γ (k o) p (T, n, m)
        | none => none) = some z := h
    cases e : seeT T n a with
    | none => rw [e] at h1; cases h1
    | some x =>
      rw [e] at h1
      obtain ⟨q1, q2⟩ := ih x p (T, n, m) z h1
      refine ⟨q1, fun Q E q => ?_⟩
      show Sem.wp _ Γ (k ((absHeap T n f.life).get? a)) Q E p _
      rw [see_any e]
      exact q2 Q E q
  | update a part g k ih =>
    rintro p ⟨T, n, m⟩ z h
    have h1 : (match ok a, seeT T n a with
        | true, some (some _) => ev ok prog w rc Γ (k ()) p (T.set a g, n, m)
        | _, _ => none) = some z := h
    cases eo : ok a with
    | false => rw [eo] at h1; cases h1
    | true =>
      cases e : seeT T n a with
      | none => rw [eo, e] at h1; cases h1
      | some x =>
        cases x with
        | none => rw [eo, e] at h1; cases h1
        | some o =>
          rw [eo, e] at h1
          obtain ⟨q1, q2⟩ := ih () p (T.set a g, n, m) z h1
          obtain ⟨s1, s2, o', s3⟩ := see_some e f.life
          have hh : absHeap (T.set a g) n f.life = (absHeap T n f.life).update a g := absHeap_set s3
          refine ⟨Fr.trans (b := (T.set a g, n, m)) ⟨Nat.le_refl _, fun b o2 hb e2 => ?_⟩ q1, fun Q E q => ⟨?_, ?_⟩⟩
          · show (absHeap (T.set a g) n f.life).get? b = some o2
            rw [hh]
            have hne : b ≠ a := by
              rintro rfl
              rw [eo] at hb
              cases hb
            rw [Heap.get?_update_ne _ _ _ _ hne]
            exact e2
          · show ((absHeap T n f.life).get? a).isSome = true
            rw [s1]
            rfl
          · have q3 := q2 Q E q
            unfold Fx.st at q3 ⊢
            rw [hh] at q3
            exact q3
  | alloc o k ih =>
    rintro p ⟨T, n, m⟩ z h
    have h1 : (match ((T.ins n o).get n).isSome with
        | true => nat (n + 1) fun m' => ev ok prog w rc Γ (k n) p (T.ins n o, m', m)
        | false => none) = some z := h
    cases e : ((T.ins n o).get n).isSome with
    | false => rw [e] at h1; cases h1
    | true =>
      rw [e] at h1
      dsimp only at h1
      rw [nat_eq] at h1
      obtain ⟨q1, q2⟩ := ih n p (T.ins n o, n + 1, m) z h1
      have hh : absHeap (T.ins n o) (n + 1) f.life = (absHeap T n f.life).push o := absHeap_ins e
      refine ⟨Fr.trans (b := (T.ins n o, n + 1, m)) ⟨Nat.le_succ _, fun b o2 hb e2 => ?_⟩ q1, fun Q E q => ?_⟩
      · show (absHeap (T.ins n o) (n + 1) f.life).get? b = some o2
        rw [hh]
        exact Heap.get?_push_of_some o e2
      · have q3 := q2 Q E q
        unfold Fx.st at q3 ⊢
        rw [hh] at q3
        show Sem.wp _ Γ (k (absHeap T n f.life).objs.size) Q E p _
        rw [absHeap_size]
        exact q3
  | fresh k ih =>
    rintro p ⟨T, n, m⟩ z h
    have h1 : (nat (m + 1) fun m' => ev ok prog w rc Γ (k m) p (T, n, m')) = some z := h
    rw [nat_eq] at h1
    obtain ⟨q1, q2⟩ := ih m p (T, n, m + 1) z h1
    exact ⟨q1, fun Q E q => q2 Q E q⟩
  | call c hd gd l k ih =>
    intro p s z h
    have h1 : (match rc (Γ.enter c hd p) p s with
        | some (r, s') => ev ok prog w rc Γ (k r) p s'
        | none => none) = some z := h
    cases e : rc (Γ.enter c hd p) p s with
    | none => rw [e] at h1; cases h1
    | some x =>
      obtain ⟨r, s'⟩ := x
      rw [e] at h1
      obtain ⟨q1, q2⟩ := ih r p s' z h1
      obtain ⟨g1, g2⟩ := g _ _ _ _ _ e
      exact ⟨g1.trans q1, fun Q E q => g2 _ (q2 Q E q)⟩
theorem rcN_good (f : Fx) (ok : Addr → Bool) (den : Code → Sem Fin) (prog : Program) (w : World) : ∀ n : Nat, Good ⟨den, prog, w⟩ f ok (rcN ok den prog w n)
  | 0 => fun _ _ _ _ _ h => nomatch h
  | n + 1 => fun Γ p s r s' h => by
    have g := rcN_good f ok den prog w n
    have h1 : (match ev ok prog w (rcN ok den prog w n) Γ (den Γ.code) p s with
      | some (.ok (.done f), _, s') => some ((.ok f : Result), s')
      | some (.ok (.again c), q, s') => match c.quiet with
        | true => rcN ok den prog w n (Γ.goto c) q s'
        | false => none
      | some (.error e, _, s') => some (.error e, s')
      | none => none) = some (r, s') := h
    cases e : ev ok prog w (rcN ok den prog w n) Γ (den Γ.code) p s with
    | none => rw [e] at h1; cases h1
    | some z =>
      obtain ⟨q1, q2⟩ := ev_ok g (den Γ.code) p s z e
      rw [e] at h1
      obtain ⟨r', p', s2⟩ := z
      cases r' with
      | error x =>
        cases h1
        exact ⟨q1, fun R hR => (wpCode_iff_wp _ _ _ _ _).mpr (q2 _ _ hR)⟩
      | ok fin =>
        cases fin with
        | done fl =>
          cases h1
          exact ⟨q1, fun R hR => (wpCode_iff_wp _ _ _ _ _).mpr (q2 _ _ hR)⟩
        | again c =>
          cases hq : c.quiet with
          | false => simp only [hq] at h1; cases h1
          | true =>
            simp only [hq] at h1
            obtain ⟨g1, g2⟩ := g _ _ _ _ _ h1
            exact ⟨q1.trans g1, fun R hR => (wpCode_iff_wp _ _ _ _ _).mpr (q2 _ _ ⟨hq, g2 R hR⟩)⟩
end
end TB
/-! E2 -/
/-! a written table with keys that are tuples of texts, of more than 17 rows: its display, told to the last token -/
noncomputable section
namespace TB
open PySem PySem.W PySem.Calls PyProof.Rows HandSHeadRun
open Sem (wp)

theorem gather_on (f : (Option (Sem Value) × Sem Value) → (Option Addr × List (Sem Value × Sem Value)) → Sem (ForInStep (Option Addr × List (Sem Value × Sem Value)))) (rest : List (Option (Sem Value) × Sem Value))
    (hf : ∀ (p : Sem Value × Sem Value) (got : List (Sem Value × Sem Value)), got.length < 16 → f (some p.1, p.2) (none, got) = pure (.yield (none, got ++ [p]))) :
    ∀ (l got : List (Sem Value × Sem Value)), got.length + l.length ≤ 16 → forIn (l.map (fun p => (some p.1, p.2)) ++ rest) ((none : Option Addr), got) f = forIn rest (none, got ++ l) f
  | [], got, _ => by simp
  | p :: l, got, h => by
    have h1 : got.length + (l.length + 1) ≤ 16 := h
    rw [List.map_cons, List.cons_append, List.forIn_cons, hf p got (by omega), pure_bind]
    have q := gather_on f rest hf l (got ++ [p]) (by rw [List.length_append]; show got.length + 1 + l.length ≤ 16; omega)
    rw [List.append_assoc] at q
    exact q
theorem display_18 (ps : List (Sem Value × Sem Value)) (p1 p2 : Sem Value × Sem Value) (h : ps.length = 16) :
    dictDisplay ((ps ++ [p1, p2]).map fun p => (some p.1, p.2)) = (do
      let d ← subDict (ps ++ [p1])
      let sub ← holding [.ref d] (subDict [p2])
      (holding [.ref d, .ref sub] (mergeMapping d (.ref sub) false)).onRaise fun x => do let _ ← holding [.ref d, x] (runValue (.builtin "proto.let_go" {}))
      pure (.ref d)) := by
  unfold dictDisplay
  dsimp only
  rw [List.map_append]
  rw [gather_on _ _ (fun p run h => by
    have hne : ((run ++ [(p.1, p.2)]).length == 17) = false := by simp; omega
    simp only [hne, Bool.false_eq_true, if_false]) ps [] (by simp; omega)]
  simp [h]
end TB
/-! E3 -/
noncomputable section
namespace TB
open PySem PySem.W PySem.Calls PyProof.Rows HandSHeadRun
open Sem (wp)

abbrev SK (p : Program) (w : World) : HeapKind p w (List Str) := tupleKind (strKind p w)
abbrev Row : Type := List Str × Addr × Value
def strsOf : List Value → Option (List Str)
  | [] => some []
  | .str x _ :: r => (match strsOf r with
    | some xs => some (x :: xs)
    | none => none)
  | _ => none
def keyOf (T : BT) (n a : Nat) : Option (List Str) := match seeT T n a with
  | some (some ⟨.type c, _, .seq items _, _⟩) => (match decide (c = "tuple") with
    | true => strsOf items.toList
    | false => none)
  | _ => none
def putRow (h : Int) (a : Addr) (v : Value) : Array DictEntry → Array DictEntry := fun es => es.push ⟨h, .ref a, v⟩
/-- one row is stored, its key being new -/
def putT (p : Program) (w : World) (d : Addr) (key v : Value) (xs : List Row) (paid : Bool) (s : St) : Option (List Row × St) := match s with
  | (T, n, k) => (match key with
    | .ref a => (match keyOf T n a with
      | some ks => (match T.get d, Nat.blt d n, decide (ks ∈ xs.map (·.1)), Nat.blt xs.length 1000 with
        | some _, true, false, true => nat (if paid then k else k + (ks.length + 1)) fun k' => some (xs ++ [(ks, a, v)], (T.set d (Obj.mapDictKeys (putRow ((SK p w).hash ks) a v)), n, k'))
        | _, _, _, _ => none)
      | none => none)
    | _ => none)
section
variable {p : Program} {w : World} {f : Fx} {Γ : Ctx} {A : Around}
theorem strsOf_ok : ∀ {vs : List Value} {ks : List Str}, strsOf vs = some ks → ItemsAre (strKind p w) ks vs
  | [], ks, h => by cases h; exact .nil
  | v :: r, ks, h => by
    cases v with
    | str x t =>
      have h1 : (match strsOf r with
        | some xs => some (x :: xs)
        | none => none) = some ks := h
      cases e : strsOf r with
      | none => rw [e] at h1; cases h1
      | some xs =>
        rw [e] at h1
        cases h1
        exact .cons (show Value.isStrOf x (.str x t) = true by simp [Value.isStrOf]) (strsOf_ok e)
    | _ => cases h
theorem keyOf_ok {T : BT} {n k a : Nat} {ks : List Str} (h : keyOf T n a = some ks) : (SK p w).is (f.st (T, n, k)).heap ks a := by
  unfold keyOf at h
  cases e : seeT T n a with
  | none => (rw [e] at h; cases h)
  | some x =>
    cases x with
    | none => (rw [e] at h; cases h)
    | some o =>
      rw [e] at h
      obtain ⟨oc, od, dt, sl⟩ := o
      cases oc with
      | type c =>
        cases dt with
        | seq items m =>
          have h1 : (match decide (c = "tuple") with
            | true => strsOf items.toList
            | false => none) = some ks := h
          cases ec : decide (c = "tuple") with
          | false => rw [ec] at h1; cases h1
          | true =>
            rw [ec] at h1
            exact ⟨_, items, m, (see_some e f.life).1, congrArg Value.type (of_decide_eq_true ec), rfl, strsOf_ok h1⟩
        | _ => cases h
      | _ => cases h
/-- at d stands a table with these rows, nothing else -/
def Inv (p : Program) (w : World) (f : Fx) (s : St) (d : Addr) (xs : List Row) : Prop :=
  ∃ es ep, (f.st s).heap.get? d = some ⟨.type "dict", none, .dict es ep, #[]⟩ ∧ es.toList = xs.map (entryOfKey (SK p w)) ∧ (∀ x ∈ xs, (SK p w).is (f.st s).heap x.1 x.2.1) ∧ (xs.map (·.1)).Nodup
/-- all objects stay -/
def Kp (f : Fx) (s s' : St) : Prop := s.2.1 ≤ s'.2.1 ∧ ∀ b o, (f.st s).heap.get? b = some o → (f.st s').heap.get? b = some o
theorem Kp.refl (s : St) : Kp f s s := ⟨Nat.le_refl _, fun _ _ h => h⟩
theorem Kp.trans {a b c : St} (h : Kp f a b) (k : Kp f b c) : Kp f a c := ⟨Nat.le_trans h.1 k.1, fun x o e => k.2 x o (h.2 x o e)⟩
theorem Kp.of {s s' : St} (h : Fr f (fun a => Nat.ble s.2.1 a) s s') : Kp f s s' := ⟨h.1, fun b o e => h.2 b o (by
  have z : (f.st s).heap.objs.size = s.2.1 := absHeap_size _ _ _
  have lt : b < s.2.1 := z ▸ Heap.lt_size e
  show Nat.ble s.2.1 b = false
  cases q : Nat.ble s.2.1 b with
  | false => rfl
  | true => exact absurd (Nat.le_of_ble_eq_true q) (Nat.not_le_of_lt lt)) e⟩
theorem Inv.keep {s s' : St} {d : Addr} {xs : List Row} (h : Inv p w f s d xs) (k : Kp f s s') : Inv p w f s' d xs := by
  obtain ⟨es, ep, h1, h2, h3, h4⟩ := h
  refine ⟨es, ep, k.2 _ _ h1, h2, fun x hx => ?_, h4⟩
  obtain ⟨o, items, n, ho, hc, hd, hi⟩ := h3 x hx
  exact ⟨o, items, n, k.2 _ _ ho, hc, hd, hi⟩
/-- what a row's storing changes: the table alone -/
def But (f : Fx) (d : Addr) (s s' : St) : Prop := s.2.1 ≤ s'.2.1 ∧ ∀ b o, b ≠ d → (f.st s).heap.get? b = some o → (f.st s').heap.get? b = some o
theorem But.refl {d : Addr} (s : St) : But f d s s := ⟨Nat.le_refl _, fun _ _ _ h => h⟩
theorem But.trans {d : Addr} {a b c : St} (h : But f d a b) (k : But f d b c) : But f d a c := ⟨Nat.le_trans h.1 k.1, fun x o hx e => k.2 x o hx (h.2 x o hx e)⟩
theorem Kp.but {d : Addr} {a b : St} (h : Kp f a b) : But f d a b := ⟨h.1, fun x o _ e => h.2 x o e⟩
theorem Inv.but {s s' : St} {d e : Addr} {xs ys : List Row} (h : Inv p w f s d xs) (k : But f e s s') (y : Inv p w f s e ys) (ne : d ≠ e) : Inv p w f s' d xs := by
  obtain ⟨es, ep, h1, h2, h3, h4⟩ := h
  obtain ⟨_, _, y1, _⟩ := y
  refine ⟨es, ep, k.2 _ _ ne h1, h2, fun x hx => ?_, h4⟩
  obtain ⟨o, items, n, ho, hc, hd, hi⟩ := h3 x hx
  refine ⟨o, items, n, k.2 _ _ (fun q => ?_) ho, hc, hd, hi⟩
  rw [q, y1] at ho
  cases ho
  cases hd

theorem not_there {xs : List Row} {ks : List Str} (h : ks ∉ xs.map (·.1)) (j : Nat) (q : Addr × Value) : xs[j]? ≠ some (ks, q) := fun e => h (List.mem_map.mpr ⟨_, List.mem_of_getElem? e, rfl⟩)
theorem put_ok {d : Addr} {key v : Value} {xs xs' : List Row} {paid : Bool} {s s' : St} (h : putT p w d key v xs paid s = some (xs', s')) (I : Inv p w f s d xs) : ∃ a ks, key = .ref a ∧ xs' = xs ++ [(ks, a, v)] ∧ (SK p w).is (f.st s).heap ks a ∧ ks ∉ xs.map (·.1) ∧ xs.length < 1000 ∧
    But f d s s' ∧ Inv p w f s' d xs' ∧ f.st s' = { f.st s with heap := (f.st s).heap.update d (Obj.mapDictKeys (putRow ((SK p w).hash ks) a v)), toks := if paid then s.2.2 else s.2.2 + (ks.length + 1) } := by
  obtain ⟨T, n, k⟩ := s
  unfold putT at h
  dsimp only at h
  cases key with
  | ref a =>
    dsimp only at h
    cases ek : keyOf T n a with
    | none => rw [ek] at h; cases h
    | some ks =>
      rw [ek] at h
      dsimp only at h
      cases eg : T.get d with
      | none => rw [eg] at h; cases h
      | some o1 =>
        cases el : Nat.blt d n with
        | false => rw [eg, el] at h; cases h
        | true =>
          cases em : decide (ks ∈ xs.map (·.1)) with
          | true => rw [eg, el, em] at h; cases h
          | false =>
            cases ez : Nat.blt xs.length 1000 with
            | false => rw [eg, el, em, ez] at h; cases h
            | true =>
              rw [eg, el, em, ez] at h
              dsimp only at h
              rw [nat_eq] at h
              simp only [Option.some.injEq, Prod.mk.injEq] at h
              obtain ⟨rfl, rfl⟩ := h
              have hkey : (SK p w).is (f.st (T, n, k)).heap ks a := keyOf_ok ek
              have hm : ks ∉ xs.map (·.1) := of_decide_eq_false em
              have hlt : d < n := Nat.le_of_ble_eq_true el
              have hh : absHeap (T.set d (Obj.mapDictKeys (putRow ((SK p w).hash ks) a v))) n f.life = (absHeap T n f.life).update d (Obj.mapDictKeys (putRow ((SK p w).hash ks) a v)) := absHeap_set eg
              have est : f.st (T.set d (Obj.mapDictKeys (putRow ((SK p w).hash ks) a v)), n, if paid then k else k + (ks.length + 1)) = { f.st (T, n, k) with heap := (f.st (T, n, k)).heap.update d (Obj.mapDictKeys (putRow ((SK p w).hash ks) a v)), toks := if paid then k else k + (ks.length + 1) } := by
                unfold Fx.st
                dsimp only
                rw [hh]
              have bt : But f d (T, n, k) (T.set d (Obj.mapDictKeys (putRow ((SK p w).hash ks) a v)), n, if paid then k else k + (ks.length + 1)) := by
                refine ⟨Nat.le_refl _, fun b o hb e => ?_⟩
                rw [est]
                exact (Heap.get?_update_ne _ _ _ _ hb).trans e
              refine ⟨a, ks, rfl, rfl, hkey, hm, Nat.le_of_ble_eq_true ez, bt, ?_, est⟩
              obtain ⟨es, ep, h1, h2, h3, h4⟩ := I
              have keep : ∀ (x : List Str) (b : Addr), (SK p w).is (f.st (T, n, k)).heap x b → (SK p w).is (f.st (T.set d (Obj.mapDictKeys (putRow ((SK p w).hash ks) a v)), n, if paid then k else k + (ks.length + 1))).heap x b := by
                intro x b hx
                obtain ⟨o, items, m, ho, hc, hd, hi⟩ := hx
                refine ⟨o, items, m, bt.2 _ _ (fun q => ?_) ho, hc, hd, hi⟩
                rw [q, h1] at ho
                cases ho
                cases hd
              refine ⟨es.push ⟨(SK p w).hash ks, .ref a, v⟩, ep + 1, ?_, ?_, ?_, ?_⟩
              · rw [est]
                exact Heap.get?_update_self _ h1 rfl
              · rw [Array.toList_push, h2, List.map_append]
                rfl
              · intro x hx
                rcases List.mem_append.mp hx with q | q
                · exact keep _ _ (h3 x q)
                · cases List.mem_singleton.mp q
                  exact keep _ _ hkey
              · rw [List.map_append, List.nodup_append]
                refine ⟨h4, by simp, fun x hx y hy => ?_⟩
                have e : y = ks := by simpa using hy
                subst e
                exact fun q => hm (q ▸ hx)
  | _ => cases h
theorem dictSet_ok {d : Addr} {key v : Value} {xs xs' : List Row} {s s' : St} (hΓ : Γ.In A) (hu : A.units < cLine) (h : putT p w d key v xs false s = some (xs', s')) (I : Inv p w f s d xs) {Q : Unit → Pos → Shared → Prop} {E : Value → Pos → Shared → Prop} {q : Pos} (hq : ∀ q', Q () q' (f.st s')) :
    wp (model p w) Γ (dictSet d key v) Q E q (f.st s) := by
  obtain ⟨a, ks, rfl, rfl, hkey, hm, hz, bt, I', est⟩ := put_ok h I
  obtain ⟨es, ep, h1, h2, h3, h4⟩ := I
  have big : es.size ≤ sizeLine := by
    have e := size_of_entries h2
    rw [sizeLine_eq]
    omega
  refine Sem.wp_mono _ _ _ (fun _ q' s2 (z : s2 = f.st s') => z ▸ hq q') (fun _ _ _ z => z.elim) q _ ((?_ : wpAny (model p w) A (dictSet d (.ref a) v) (fun _ s2 => s2 = f.st s') (fun _ _ => False) (f.st s)) Γ q hΓ)
  unfold dictSet
  refine wpAny_holding ?_
  refine wpAny_bind ((SK p w).pyHash hu hkey ?_)
  unfold dictSetHashed
  refine wpAny_holding ?_
  refine wpAny_bind (wpAny_dictFind_heap (knd := SK p w) (s := { f.st s with toks := (f.st s).toks + (SK p w).draws ks }) hu hkey h1 rfl h2 h3 h4 (fun _ => ?_) fun j q e => absurd e (not_there hm j q))
  refine wpAny_bind (wpAny_rule (wpAny_updateDictKeys (hz := big) (s := { f.st s with toks := (f.st s).toks + (SK p w).draws ks }) h1 rfl ?_))
  rw [est]
  rfl
end
end TB
/-! E4 -/
noncomputable section
namespace TB
open PySem PySem.W PySem.Calls PyProof.Rows HandSHeadRun
open Sem (wp)

def evO (ok : Addr → Bool) (p : Program) (w : World) (Γ : Ctx) {α : Type} (t : Sem α) (q : Pos) (s : St) : Ans α := ev ok p w (rcN ok (denQ tabQ) p w 40) Γ t q s
def evK (p : Program) (w : World) (Γ : Ctx) {α : Type} (t : Sem α) (q : Pos) (s : St) : Ans α := evO (fun a => Nat.ble s.2.1 a) p w Γ t q s
/-- a tree that first tells where it stands -/
def stands {α : Type} : Sem α → Bool
  | .at _ _ => true
  | _ => false
/-- rows of a display, one behind the other -/
def rows (p : Program) (w : World) (Γ : Ctx) (d : Addr) : List (Sem Value × Sem Value) → List Row → St → Option (List Row × St)
  | [], xs, s => some (xs, s)
  | (k, v) :: r, xs, s => match stands k, evK p w Γ k default s with
    | true, some (.ok kv, q1, s1) => (match evK p w Γ v q1 s1 with
      | some (.ok vv, _, s2) => (match putT p w d kv vv xs false s2 with
        | some (xs', s3) => rows p w Γ d r xs' s3
        | none => none)
      | _ => none)
    | _, _ => none
def newD : Obj := { cls := .type "dict", data := .dict #[] }
def pushT (o : Obj) (s : St) : Option (Addr × St) := match s with
  | (T, n, k) => match ((T.ins n o).get n).isSome with
    | true => nat (n + 1) fun m => some (n, T.ins n o, m, k)
    | false => none
/-- a display of 17 rows and one -/
def display (p : Program) (w : World) (Γ : Ctx) (ps : List (Sem Value × Sem Value)) (l : Sem Value × Sem Value) (s : St) : Option (Addr × List Row × St) :=
  match pushT newD s with
  | some (d, s1) => (match rows p w Γ d ps [] s1 with
    | some (xs, s2) => (match pushT newD s2 with
      | some (e, s3) => (match e == sysModules, stands l.1, evK p w Γ l.1 default s3 with
        | false, true, some (.ok kv, q1, s4) => (match evK p w Γ l.2 q1 s4 with
          | some (.ok vv, _, s5) => (match putT p w e kv vv [] false s5 with
            | some (_, s6) => (match putT p w d kv vv xs true s6 with
              | some (ys, s7) => some (d, ys, s7)
              | none => none)
            | none => none)
          | _ => none)
        | _, _, _ => none)
      | none => none)
    | none => none)
  | none => none
section
variable {p : Program} {w : World} {f : Fx} {Γ : Ctx} {A : Around} {E : Value → Pos → Shared → Prop}
theorem den_eq : denQ tabQ = denote table := by
  rw [table_eq_tree, ← denQ_eq, ← tabQ_eq]
theorem evO_ok {ok : Addr → Bool} {α : Type} {t : Sem α} {q : Pos} {s : St} {z : Except Value α × Pos × St} (h : evO ok p w Γ t q s = some z) : Fr f ok s z.2.2 ∧ ∀ Q E, Tells Q E f z → wp (model p w) Γ t Q E q (f.st s) := by
  unfold evO at h
  rw [den_eq] at h
  exact ev_ok (rcN_good f ok (denote table) p w 40) t q s z h
theorem evK_ok {α : Type} {t : Sem α} {q : Pos} {s : St} {z : Except Value α × Pos × St} (h : evK p w Γ t q s = some z) : Kp f s z.2.2 ∧ ∀ Q E, Tells Q E f z → wp (model p w) Γ t Q E q (f.st s) :=
  ⟨.of (evO_ok (f := f) h).1, (evO_ok h).2⟩
theorem stands_ok {α : Type} {t : Sem α} (h : stands t = true) (q : Pos) (s : St) : evK p w Γ t q s = evK p w Γ t default s := by
  cases t with
  | «at» => rfl
  | _ => cases h
theorem rows_ok (hΓ : Γ.In A) (hu : A.units < cLine) {d : Addr} {xs' : List Row} {s' : St} : ∀ (ps : List (Sem Value × Sem Value)) (xs : List Row) (s : St), rows p w Γ d ps xs s = some (xs', s') → Inv p w f s d xs →
    (But f d s s' ∧ Inv p w f s' d xs' ∧ xs'.length = xs.length + ps.length) ∧ ∀ (Q : PUnit → Pos → Shared → Prop) (q : Pos), (∀ q', Q PUnit.unit q' (f.st s')) →
      wp (model p w) Γ (forIn ps PUnit.unit fun (x : Sem Value × Sem Value) (_ : PUnit) => (do let kv ← x.1; let vv ← holding [kv] x.2; holding [kv, vv] (dictSet d kv vv); pure (ForInStep.yield PUnit.unit) : Sem (ForInStep PUnit))) Q E q (f.st s)
  | [], xs, s, h, I => by
    unfold rows at h
    cases h
    exact ⟨⟨.refl _, I, rfl⟩, fun Q q hq => hq q⟩
  | (k, v) :: r, xs, s, h, I => by
    unfold rows at h
    cases e0 : stands k with
    | false => rw [e0] at h; cases h
    | true =>
      rw [e0] at h
      cases e1 : evK p w Γ k default s with
      | none => rw [e1] at h; cases h
      | some z =>
        obtain ⟨a, q1, s1⟩ := z
        cases a with
        | error _ => rw [e1] at h; cases h
        | ok kv =>
          rw [e1] at h
          dsimp only at h
          cases e2 : evK p w Γ v q1 s1 with
          | none => rw [e2] at h; cases h
          | some z =>
            obtain ⟨a, q2, s2⟩ := z
            cases a with
            | error _ => rw [e2] at h; cases h
            | ok vv =>
              rw [e2] at h
              dsimp only at h
              cases e3 : putT p w d kv vv xs false s2 with
              | none => rw [e3] at h; cases h
              | some z =>
                obtain ⟨xs2, s3⟩ := z
                rw [e3] at h
                dsimp only at h
                obtain ⟨k1, _⟩ := evK_ok (f := f) e1
                obtain ⟨k2, w2⟩ := evK_ok (f := f) e2
                have I2 : Inv p w f s2 d xs := (I.keep k1).keep k2
                obtain ⟨_, _, _, ex, _, _, _, b3, I3, _⟩ := put_ok e3 I2
                obtain ⟨⟨b4, I4, l4⟩, w4⟩ := rows_ok hΓ hu r xs2 s3 h I3
                refine ⟨⟨(k1.but.trans k2.but).trans (b3.trans b4), I4, ?_⟩, fun Q q hq => ?_⟩
                · rw [l4, ex, List.length_append, List.length_cons]
                  show xs.length + 1 + r.length = xs.length + (r.length + 1)
                  omega
                · rw [← stands_ok e0 q] at e1
                  obtain ⟨_, w1⟩ := evK_ok (f := f) e1
                  rw [List.forIn_cons]
                  simp only [Sem.wp_bind', Sem.wp_holding]
                  exact w1 _ _ (w2 _ _ (dictSet_ok hΓ hu e3 I2 fun q' => w4 Q q' hq))
end
end TB
/-! E5 -/
noncomputable section
namespace TB
open PySem PySem.W PySem.Calls PyProof.Rows HandSHeadRun
open Sem (wp)
section
variable {p : Program} {w : World} {f : Fx} {Γ : Ctx} {A : Around} {E : Value → Pos → Shared → Prop}
theorem merge_ok (hu : A.units < cLine) {d e a : Addr} {v : Value} {ks : List Str} {xs xs' : List Row} {s s' : St} (Id : Inv p w f s d xs) (Ie : Inv p w f s e [(ks, a, v)]) (ne : d ≠ e) (he : (e == sysModules) = false) (hx : xs ≠ []) (h : putT p w d (.ref a) v xs true s = some (xs', s')) :
    wpAny (model p w) A (mergeMapping d (.ref e) false) (fun _ s2 => s2 = f.st s') (fun _ _ => False) (f.st s) := by
  obtain ⟨a', ks', ea, rfl, hkey, hm, hz, bt, I', est⟩ := put_ok h Id
  cases ea
  obtain ⟨es, ep, h1, h2, h3, h4⟩ := Id
  obtain ⟨es2, ep2, g1, g2, g3, g4⟩ := Ie
  have hk2 : (SK p w).is (f.st s).heap ks a := g3 (ks, a, v) (List.mem_singleton.mpr rfl)
  have eks : ks = ks' := (SK p w).inj hk2 hkey
  subst eks
  have ees : es2 = #[⟨(SK p w).hash ks, .ref a, v⟩] := by
    have : es2.toList = [⟨(SK p w).hash ks, .ref a, v⟩] := g2
    calc es2 = es2.toList.toArray := by simp
      _ = _ := by rw [this]
  subst ees
  have big : es.size ≤ sizeLine := by
    have e := size_of_entries h2
    rw [sizeLine_eq]
    omega
  have hT : (f.st s).TypeIs (.ref e) "dict" := ⟨_, g1, rfl⟩
  have hes : es.isEmpty = false := by
    have e := size_of_entries h2
    have : 0 < xs.length := List.length_pos_iff.mpr hx
    rw [Array.isEmpty_eq_false_iff]
    intro q
    rw [q] at e
    simp at e
    omega
  unfold mergeMapping
  refine wpAny_bind (wpAny_isInstance (U := "dict") (b := true) hT (by rw [isSubtype_type]; kernel_rfl) ?_)
  show wpAny _ _ (if true = true then _ else _) _ _ _
  rw [if_pos rfl]
  refine wpAny_bind (wpAny_specialOf hT F.slot_dict_iter.lookup (wpAny_bind (wpAny_pure ?_)))
  have hb : ((some (Value.builtin "dict.__iter__") : Option Value) == some (Value.builtin "dict.__iter__")) = true := by kernel_rfl
  rw [hb]
  show wpAny _ _ (if (e == sysModules) = true then _ else _) _ _ _
  rw [if_neg (by rw [he]; exact Bool.false_ne_true)]
  refine wpAny_bind (wpAny_dictEntries h1 rfl ?_)
  dsimp only
  rw [if_neg (by rw [hes]; exact Bool.false_ne_true)]
  refine wpAny_bind (wpAny_dictEntries g1 rfl ?_)
  refine wpAny_bind (wpAny_dictEpoch g1 rfl ?_)
  show wpAny _ _ (forIn [0] PUnit.unit _ >>= _) _ _ _
  rw [List.forIn_cons]
  refine wpAny_bind (wpAny_bind (wpAny_bind (wpAny_dictEntries g1 rfl ?_)))
  show wpAny _ _ (holding _ _ >>= _) _ _ _
  refine wpAny_bind (wpAny_holding ?_)
  rw [if_neg Bool.false_ne_true]
  have k1 : (f.st s').heap.get? e = some ⟨.type "dict", none, .dict #[⟨(SK p w).hash ks, .ref a, v⟩] ep2, #[]⟩ := bt.2 _ _ (fun q => ne q.symm) g1
  have fin : wpAny (model p w) A (do
      let z ← dictEpoch e
      if (z != ep2) = true then do
        unsupported "dict.changed-during-merge"
        pure (ForInStep.yield PUnit.unit)
      else pure (ForInStep.yield PUnit.unit) : Sem (ForInStep PUnit)) (fun r s2 => r = .yield PUnit.unit ∧ s2 = f.st s') (fun _ _ => False) (f.st s') := by
    refine wpAny_bind (wpAny_dictEpoch k1 rfl ?_)
    rw [if_neg (by simp)]
    exact wpAny_pure ⟨rfl, rfl⟩
  unfold dictPut
  refine wpAny_bind (wpAny_dictFind_heap (knd := SK p w) hu hkey h1 rfl h2 h3 h4 (fun _ => ?_) fun j q e => absurd e (not_there hm j q))
  refine wpAny_updateDictKeys (hz := big) h1 rfl ?_
  have est2 : ({ f.st s with heap := (f.st s).heap.update d (Obj.mapDictKeys fun es => es.push ⟨(SK p w).hash ks, .ref a, v⟩) } : Shared) = f.st s' := by
    rw [est]
    rfl
  show wpAny _ _ _ _ _ ({ f.st s with heap := (f.st s).heap.update d (Obj.mapDictKeys fun es => es.push ⟨(SK p w).hash ks, .ref a, v⟩) } : Shared)
  rw [est2]
  refine wpAny_mono fin (fun r s2 z => ?_) fun _ _ z => z
  obtain ⟨rfl, rfl⟩ := z
  exact wpAny_pure (wpAny_pure rfl)
theorem newD_inv {s s' : St} {d : Addr} (h : pushT newD s = some (d, s')) : d = s.2.1 ∧ Kp f s s' ∧ Inv p w f s' d [] ∧ f.st s' = { f.st s with heap := (f.st s).heap.push newD } ∧ (f.st s).heap.objs.size = d := by
  obtain ⟨T, n, k⟩ := s
  unfold pushT at h
  dsimp only at h
  cases e : ((T.ins n newD).get n).isSome with
  | false => rw [e] at h; cases h
  | true =>
    rw [e] at h
    dsimp only at h
    rw [nat_eq] at h
    simp only [Option.some.injEq, Prod.mk.injEq] at h
    obtain ⟨rfl, rfl⟩ := h
    have hh : absHeap (T.ins n newD) (n + 1) f.life = (absHeap T n f.life).push newD := absHeap_ins e
    have est : f.st (T.ins n newD, n + 1, k) = { f.st (T, n, k) with heap := (f.st (T, n, k)).heap.push newD } := by
      unfold Fx.st
      dsimp only
      rw [hh]
    refine ⟨rfl, ⟨Nat.le_succ _, fun b o e => ?_⟩, ⟨#[], 0, ?_, rfl, fun _ z => (nomatch z), List.nodup_nil⟩, est, absHeap_size _ _ _⟩
    · rw [est]
      exact Heap.get?_push_of_some _ e
    · rw [est]
      have z : (f.st (T, n, k)).heap.objs.size = n := absHeap_size _ _ _
      have q : ((f.st (T, n, k)).heap.push newD).get? (f.st (T, n, k)).heap.objs.size = some newD := Heap.get?_push_size _ rfl
      rw [z] at q
      exact q
theorem sub_long (hΓ : Γ.In A) (hu : A.units < cLine) {ps : List (Sem Value × Sem Value)} (hl : ¬ ps.length ≤ 15) {d : Addr} {s s1 s2 : St} {xs : List Row} (e1 : pushT newD s = some (d, s1)) (e2 : rows p w Γ d ps [] s1 = some (xs, s2)) {Q : Addr → Pos → Shared → Prop} {q : Pos} (hq : ∀ q', Q d q' (f.st s2)) :
    wp (model p w) Γ (subDict ps) Q E q (f.st s) := by
  obtain ⟨ed, k1, I1, t1, z1⟩ := newD_inv (f := f) (p := p) (w := w) e1
  obtain ⟨_, w2⟩ := rows_ok (E := E) hΓ hu _ _ _ e2 I1
  unfold subDict
  rw [Sem.wp_bind']
  show wp (model p w) Γ _ _ E q { f.st s with heap := (f.st s).heap.push newD }
  rw [← t1, z1]
  show wp (model p w) Γ (holding _ (if ps.length ≤ 15 then _ else _) >>= _) _ E q _
  rw [if_neg hl, Sem.wp_bind', Sem.wp_holding, Sem.wp_bind']
  show wp (model p w) Γ (_ >>= _) _ E q _
  rw [Sem.wp_bind']
  refine w2 _ _ fun q' => ?_
  exact hq q'
theorem sub_one (hΓ : Γ.In A) (hu : A.units < cLine) {l : Sem Value × Sem Value} {e : Addr} {kv vv : Value} {q1 q2 : Pos} {s s3 s4 s5 s6 : St} {ys : List Row} (e3 : pushT newD s = some (e, s3)) (e0 : stands l.1 = true) (e5 : evK p w Γ l.1 default s3 = some (.ok kv, q1, s4)) (e6 : evK p w Γ l.2 q1 s4 = some (.ok vv, q2, s5))
    (e7 : putT p w e kv vv [] false s5 = some (ys, s6)) {Q : Addr → Pos → Shared → Prop} {q : Pos} (hq : ∀ q', Q e q' (f.st s6)) :
    wp (model p w) Γ (subDict [l]) Q E q (f.st s) := by
  obtain ⟨ed, k1, I1, t1, z1⟩ := newD_inv (f := f) (p := p) (w := w) e3
  obtain ⟨k5, _⟩ := evK_ok (f := f) e5
  obtain ⟨k6, w6⟩ := evK_ok (f := f) e6
  have I5 : Inv p w f s5 e [] := (I1.keep k5).keep k6
  rw [← stands_ok e0 q] at e5
  obtain ⟨_, w5⟩ := evK_ok (f := f) e5
  unfold subDict
  rw [Sem.wp_bind']
  show wp (model p w) Γ _ _ E q { f.st s with heap := (f.st s).heap.push newD }
  rw [← t1, z1]
  show wp (model p w) Γ (holding _ (if 1 ≤ 15 then _ else _) >>= _) _ E q _
  rw [if_pos (by decide)]
  simp only [evalPairs, Sem.wp_bind', Sem.wp_holding]
  refine w5 _ _ (w6 _ _ ?_)
  show wp (model p w) Γ (forIn [(kv, vv)] PUnit.unit _) _ E _ _
  rw [List.forIn_cons, Sem.wp_bind']
  simp only [Sem.wp_bind']
  exact dictSet_ok hΓ hu e7 I5 fun q' => hq q'
/-- the display -/
theorem display_ok (hΓ : Γ.In A) (hu : A.units < cLine) {ps : List (Sem Value × Sem Value)} {p1 l : Sem Value × Sem Value} (h16 : ps.length = 16) {s s' : St} {d : Addr} {xs : List Row} (h : display p w Γ (ps ++ [p1]) l s = some (d, xs, s')) :
    Kp f s s' ∧ Inv p w f s' d xs ∧ ∀ (Q : Value → Pos → Shared → Prop) (q : Pos), (∀ q', Q (.ref d) q' (f.st s')) → wp (model p w) Γ (dictDisplay ((ps ++ [p1, l]).map fun p => (some p.1, p.2))) Q E q (f.st s) := by
  unfold display at h
  cases e1 : pushT newD s with
  | none => rw [e1] at h; cases h
  | some r1 =>
    obtain ⟨d1, s1⟩ := r1
    rw [e1] at h
    dsimp only at h
    cases e2 : rows p w Γ d1 (ps ++ [p1]) [] s1 with
    | none => rw [e2] at h; cases h
    | some r2 =>
      obtain ⟨xs2, s2⟩ := r2
      rw [e2] at h
      dsimp only at h
      cases e3 : pushT newD s2 with
      | none => rw [e3] at h; cases h
      | some r3 =>
        obtain ⟨e, s3⟩ := r3
        rw [e3] at h
        dsimp only at h
        cases e4 : (e == sysModules) with
        | true => rw [e4] at h; cases h
        | false =>
          rw [e4] at h
          cases e0 : stands l.1 with
          | false => rw [e0] at h; cases h
          | true =>
            rw [e0] at h
            cases e5 : evK p w Γ l.1 default s3 with
            | none => rw [e5] at h; cases h
            | some r5 =>
              obtain ⟨a5, q1, s4⟩ := r5
              cases a5 with
              | error _ => rw [e5] at h; cases h
              | ok kv =>
                rw [e5] at h
                dsimp only at h
                cases e6 : evK p w Γ l.2 q1 s4 with
                | none => rw [e6] at h; cases h
                | some r6 =>
                  obtain ⟨a6, q2, s5⟩ := r6
                  cases a6 with
                  | error _ => rw [e6] at h; cases h
                  | ok vv =>
                    rw [e6] at h
                    dsimp only at h
                    cases e7 : putT p w e kv vv [] false s5 with
                    | none => rw [e7] at h; cases h
                    | some r7 =>
                      obtain ⟨ys, s6⟩ := r7
                      rw [e7] at h
                      dsimp only at h
                      cases e8 : putT p w d1 kv vv xs2 true s6 with
                      | none => rw [e8] at h; cases h
                      | some r8 =>
                        obtain ⟨zs, s7⟩ := r8
                        rw [e8] at h
                        simp only [Option.some.injEq, Prod.mk.injEq] at h
                        obtain ⟨rfl, rfl, rfl⟩ := h
                        obtain ⟨ed, k1, I1, t1, z1⟩ := newD_inv (f := f) (p := p) (w := w) e1
                        obtain ⟨⟨b2, I2, l2⟩, w2⟩ := rows_ok (E := E) hΓ hu _ _ _ e2 I1
                        obtain ⟨ee, k3, I3, t3, z3⟩ := newD_inv (f := f) (p := p) (w := w) e3
                        obtain ⟨k5, _⟩ := evK_ok (f := f) e5
                        obtain ⟨k6, w6⟩ := evK_ok (f := f) e6
                        have J3 : Inv p w f s3 d1 xs2 := I2.keep k3
                        have ne : d1 ≠ e := by
                          intro q
                          obtain ⟨_, _, y, _⟩ := I2
                          have lt := Heap.lt_size y
                          rw [z3, ← q] at lt
                          exact Nat.lt_irrefl _ lt
                        have J5 : Inv p w f s5 d1 xs2 := (J3.keep k5).keep k6
                        have I5 : Inv p w f s5 e [] := (I3.keep k5).keep k6
                        obtain ⟨a, ks, ekv, eys, _, _, _, b7, I7, _⟩ := put_ok e7 I5
                        have J6 : Inv p w f s6 d1 xs2 := J5.but b7 I5 ne
                        subst ekv eys
                        obtain ⟨_, _, _, _, _, _, _, b8, I8, _⟩ := put_ok e8 J6
                        refine ⟨⟨?_, fun b o hb => ?_⟩, I8, fun Q q hq => ?_⟩
                        · exact Nat.le_trans k1.1 (Nat.le_trans b2.1 (Nat.le_trans k3.1 (Nat.le_trans k5.1 (Nat.le_trans k6.1 (Nat.le_trans b7.1 b8.1)))))
                        · have lt := Heap.lt_size hb
                          have h1 := k1.2 _ _ hb
                          have n1 : b ≠ d1 := by
                            intro q
                            rw [z1, ← q] at lt
                            exact Nat.lt_irrefl _ lt
                          have h2 := b2.2 _ _ n1 h1
                          have n2 : b ≠ e := by
                            intro q
                            have lt2 := Heap.lt_size h2
                            rw [z3, ← q] at lt2
                            exact Nat.lt_irrefl _ lt2
                          exact b8.2 _ _ n1 (b7.2 _ _ n2 (k6.2 _ _ (k5.2 _ _ (k3.2 _ _ h2))))
                        · rw [display_18 ps p1 l h16]
                          have long : ¬ (ps ++ [p1]).length ≤ 15 := by
                            rw [List.length_append, h16]
                            exact (by decide : ¬ (16 + 1 ≤ 15))
                          have some_ : xs2 ≠ [] := by
                            intro z
                            rw [z, List.length_append, h16] at l2
                            have l3 : 0 = 0 + (16 + 1) := l2
                            exact absurd l3 (by decide)
                          rw [Sem.wp_bind']
                          refine sub_long hΓ hu long e1 e2 fun q' => ?_
                          rw [Sem.wp_bind', Sem.wp_holding]
                          refine sub_one hΓ hu e3 e0 e5 e6 e7 fun q2 => ?_
                          rw [Sem.wp_bind', Sem.wp_onRaise, Sem.wp_holding]
                          refine Sem.wp_mono _ _ _ (fun _ q' s2 z => ?_) (fun _ _ _ z => z.elim) _ _ (merge_ok hu J6 I7 ne e4 some_ e8 Γ q2 hΓ)
                          rw [z]
                          exact hq q'
end
end TB
/-! E6 -/
/-! the whole top: what stands ahead of the table, the table, what stands behind it -/
noncomputable section
namespace TB
open PySem PySem.W PySem.Calls PyProof.Rows HandSHeadRun
open Sem (wp)

def callerΓ : Ctx := ⟨.builtin "claim.caller" {}, none, none, [], none⟩
def okT (n0 : Nat) : Addr → Bool := fun a => Nat.ble n0 a || Nat.beq a mainNs || Nat.beq a cStatics
def envOf (p : Program) (code : Value) (frame : Addr) : Env := { scope := p.main.scope, locals := mainNs, globals := mainNs, cells := [], code, frame := some frame }
def codeOf (p : Program) (code : Value) (frame : Addr) : Code := .body (behindTheImports p) (envOf p code frame)
def start1 (p : Program) : Sem (Value × Addr) := do
  let code ← moduleCode p.main
  let frame ← newBodyFrame code mainNs mainNs
  pure (code, frame)
/-- a display's rows, as its tree has them -/
def pairsE (keys : List (Option PySem.Expr)) (values : List PySem.Expr) (env : Env) (pos : Pos) : List (Option (Sem Value) × Sem Value) := (evalEachOpt keys env).zip ((evalEach values env).map fun v => do let x ← v; standAt pos; pure x)
def wholes : List (Option (Sem Value) × Sem Value) → Option (List (Sem Value × Sem Value))
  | [] => some []
  | (some k, v) :: r => (match wholes r with
    | some ps => some ((k, v) :: ps)
    | none => none)
  | (none, _) :: _ => none
theorem wholes_ok : ∀ {l : List (Option (Sem Value) × Sem Value)} {ps : List (Sem Value × Sem Value)}, wholes l = some ps → l = ps.map fun p => (some p.1, p.2)
  | [], ps, h => by cases h; rfl
  | (some k, v) :: r, ps, h => by
    have h1 : (match wholes r with
      | some ps => some ((k, v) :: ps)
      | none => none) = some ps := h
    cases e : wholes r with
    | none => rw [e] at h1; cases h1
    | some qs =>
      rw [e] at h1
      cases h1
      rw [wholes_ok e]
      rfl
  | (none, _) :: _, _, h => by cases h
/-- 16 rows, one, and a last one -/
def cut18 (ps : List (Sem Value × Sem Value)) : Option (List (Sem Value × Sem Value) × (Sem Value × Sem Value) × (Sem Value × Sem Value)) := match ps.drop 16 with
  | [a, b] => some (ps.take 16, a, b)
  | _ => none
theorem cut18_ok {ps qs : List (Sem Value × Sem Value)} {a b : Sem Value × Sem Value} (h : cut18 ps = some (qs, a, b)) : ps = qs ++ [a, b] ∧ qs.length = 16 := by
  unfold cut18 at h
  cases e : ps.drop 16 with
  | nil => rw [e] at h; cases h
  | cons x r =>
    cases r with
    | nil => rw [e] at h; cases h
    | cons y r =>
      cases r with
      | cons z r => rw [e] at h; cases h
      | nil =>
        rw [e] at h
        cases h
        have l : (ps.drop 16).length = 2 := by rw [e]; rfl
        rw [List.length_drop] at l
        refine ⟨?_, by rw [List.length_take]; omega⟩
        rw [← e, List.take_append_drop]
/-- the table's statement, from where its value is due -/
def table (p : Program) (w : World) (Γ : Ctx) (env : Env) (keys : List (Option PySem.Expr)) (values : List PySem.Expr) (pos : Pos) (s : St) : Option (Addr × List Row × St) := match wholes (pairsE keys values env pos) with
  | some ps => (match cut18 ps with
    | some (qs, a, b) => display p w Γ (qs ++ [a]) b s
    | none => none)
  | none => none
def behind (targets : List PySem.Expr) (value : PySem.Expr) (env : Env) (rest : List Stmt) (d : Addr) : Sem Flow := do
  match ← (do assignStores env (.ref d) (← swappedStores targets value env) ((assignEach targets env).map (·.2)) : Sem Flow) with
  | .next => execs rest env
  | f => pure f
def isDone : Flow → Bool
  | .next => true
  | _ => false
/-- the whole; m: the place of the table's statement, q5: where one stands behind the table -/
def topB (p : Program) (w : World) (n0 m : Nat) (q5 : Pos) (s0 : St) : Option St := match evO (okT n0) p w callerΓ (start1 p) default s0 with
  | some (.ok (code, frame), q, s1) => (match evO (okT n0) p w (callerΓ.enter (codeOf p code frame) none q) (blockStart (behindTheImports p) (envOf p code frame)) q s1 with
    | some (.ok (), q1, s2) => (match evO (okT n0) p w (callerΓ.enter (codeOf p code frame) none q) (execs ((behindTheImports p).take m) (envOf p code frame)) q1 s2, (behindTheImports p).drop m with
      | some (.ok .next, q2, s3), .Assign targets (.Dict keys values dpos) pos :: rest => (match evO (okT n0) p w (callerΓ.enter (codeOf p code frame) none q) (do standAt pos; swapsWithSole targets (.Dict keys values dpos) pos.line (envOf p code frame)) q2 s3 with
        | some (.ok false, _, s4) => (match Nat.blt (callerΓ.enter (codeOf p code frame) none q).units cLine, table p w (callerΓ.enter (codeOf p code frame) none q) (envOf p code frame) keys values dpos s4 with
          | true, some (d, _, s5) => (match evO (okT n0) p w (callerΓ.enter (codeOf p code frame) none q) (behind targets (.Dict keys values dpos) (envOf p code frame) rest d) q5 s5 with
            | some (.ok .next, _, s6) => some s6
            | _ => none)
          | _, _ => none)
        | _ => none)
      | _, _ => none)
    | _ => none)
  | _ => none
section
variable {p : Program} {w : World} {f : Fx}
theorem wp_execs_app {M : Model} {Γ : Ctx} {env : Env} {E : Value → Pos → Shared → Prop} {Q : Flow → Pos → Shared → Prop} (rest : List Stmt) : ∀ (l : List Stmt) (q : Pos) (s : Shared),
    wp M Γ (execs l env) (fun fl q s => match fl with
      | .next => wp M Γ (execs rest env) Q E q s
      | fl => Q fl q s) E q s → wp M Γ (execs (l ++ rest) env) Q E q s
  | [], q, s, h => h
  | a :: l, q, s, h => by
    have h1 : wp M Γ (do match ← exec a env with
      | .next => execs l env
      | f => pure f : Sem Flow) (fun fl q s => match fl with
      | .next => wp M Γ (execs rest env) Q E q s
      | fl => Q fl q s) E q s := h
    show wp M Γ (do match ← exec a env with
      | .next => execs (l ++ rest) env
      | f => pure f : Sem Flow) Q E q s
    rw [Sem.wp_bind'] at h1 ⊢
    refine Sem.wp_mono _ _ _ (fun fl q' s' z => ?_) (fun _ _ _ z => z) _ _ h1
    cases fl with
    | next => exact wp_execs_app rest l q' s' z
    | _ => exact z
theorem Fr.of_kp {ok : Addr → Bool} {s s' : St} (k : Kp f s s') : Fr f ok s s' := ⟨k.1, fun b o _ e => k.2 b o e⟩
theorem in_self (Γ : Ctx) : Γ.In { handled := Γ.handled, depth := frameCount Γ.below + Γ.code.weight, frames := none, guards := none, units := Γ.units } :=
  ⟨rfl, Nat.le_refl _, fun _ z => (nomatch z), fun _ z => (nomatch z), Nat.le_refl _⟩
/-- the body, from there on where the table's statement is due -/
theorem table_ok {Γ : Ctx} (hu : Γ.units < cLine) {ok : Addr → Bool} {env : Env} {targets : List PySem.Expr} {keys : List (Option PySem.Expr)} {values : List PySem.Expr} {dpos pos : Pos} {rest : List Stmt} {q2 q3 : Pos} {s3 s4 s5 : St} {d : Addr} {xs : List Row}
    (e4 : evO ok p w Γ (do standAt pos; swapsWithSole targets (.Dict keys values dpos) pos.line env) q2 s3 = some (.ok false, q3, s4)) (e5 : table p w Γ env keys values dpos s4 = some (d, xs, s5)) :
    Fr f ok s3 s5 ∧ ∀ (Q : Flow → Pos → Shared → Prop) (E : Value → Pos → Shared → Prop), (∀ q', wp (model p w) Γ (behind targets (.Dict keys values dpos) env rest d) Q E q' (f.st s5)) → wp (model p w) Γ (execs (.Assign targets (.Dict keys values dpos) pos :: rest) env) Q E q2 (f.st s3) := by
  obtain ⟨f4, w4⟩ := evO_ok (f := f) e4
  unfold table at e5
  cases ew : wholes (pairsE keys values env dpos) with
  | none => rw [ew] at e5; cases e5
  | some ps =>
    rw [ew] at e5
    dsimp only at e5
    cases ec : cut18 ps with
    | none => rw [ec] at e5; cases e5
    | some z =>
      obtain ⟨qs, a, b⟩ := z
      rw [ec] at e5
      dsimp only at e5
      obtain ⟨c1, c2⟩ := cut18_ok ec
      obtain ⟨k5, _, _⟩ := display_ok (f := f) (E := fun _ _ _ => False) (in_self Γ) hu c2 e5
      refine ⟨f4.trans (.of_kp k5), fun Q E hq => ?_⟩
      obtain ⟨_, _, w5⟩ := display_ok (f := f) (E := E) (in_self Γ) hu c2 e5
      show wp (model p w) Γ (do match ← exec (.Assign targets (.Dict keys values dpos) pos) env with
        | .next => execs rest env
        | f => pure f : Sem Flow) Q E q2 (f.st s3)
      have arm : exec (.Assign targets (.Dict keys values dpos) pos) env = (do
        standAt pos
        if ← swapsWithSole targets (.Dict keys values dpos) pos.line env then do
          evalThenUse (.Dict keys values dpos) env fun v => assignAll v ((assignEach targets env).map (·.2))
          pure .next
        else do
          let v ← eval (.Dict keys values dpos) env
          assignStores env v (← swappedStores targets (.Dict keys values dpos) env) ((assignEach targets env).map (·.2))) := rfl
      rw [arm]
      have split : ∀ (k : Bool → Sem Flow) (K : Flow → Sem Flow), ((do standAt pos; (swapsWithSole targets (.Dict keys values dpos) pos.line env >>= k) : Sem Flow) >>= K) = ((do standAt pos; swapsWithSole targets (.Dict keys values dpos) pos.line env : Sem Bool) >>= fun b => k b >>= K) := by
        intro k K
        simp only [bind_assoc]
      rw [split, Sem.wp_bind']
      refine w4 _ _ ?_
      show wp (model p w) Γ ((if false = true then _ else _ : Sem Flow) >>= _) Q E q3 (f.st s4)
      rw [if_neg Bool.false_ne_true, bind_assoc, Sem.wp_bind', arm_eval_Dict, Sem.wp_bind']
      show wp (model p w) Γ (dictDisplay (pairsE keys values env dpos)) _ E dpos (f.st s4)
      rw [wholes_ok ew, c1]
      exact w5 _ dpos fun q' => hq q'
theorem topB_ok {n0 m : Nat} {s0 : St} (h : ∀ q5, (topB p w n0 m q5 s0).isSome = true) :
    wp (model p w) callerΓ (topStub p).cur (fun fin _ s' => fin = .done (.ret .none) ∧ ∃ q5 S, topB p w n0 m q5 s0 = some S ∧ s' = f.st S ∧ Fr f (okT n0) s0 S) (fun _ _ _ => False) default (f.st s0) := by
  show wp (model p w) callerΓ (do
      let code ← moduleCode p.main
      let frame ← newBodyFrame code mainNs mainNs
      let _ ← run (codeOf p code frame)
      ret .none) _ _ _ _
  have split : (do
      let code ← moduleCode p.main
      let frame ← newBodyFrame code mainNs mainNs
      let _ ← run (codeOf p code frame)
      ret .none : Sem Fin) = (start1 p >>= fun c => (do let _ ← run (codeOf p c.1 c.2); ret .none : Sem Fin)) := by
    unfold start1
    simp only [bind_assoc, pure_bind]
  rw [split, Sem.wp_bind']
  have all := h
  have h0 := h default
  unfold topB at h0
  cases e1 : evO (okT n0) p w callerΓ (start1 p) default s0 with
  | none => rw [e1] at h0; cases h0
  | some z =>
    obtain ⟨a, q, s1⟩ := z
    cases a with
    | error _ => rw [e1] at h0; cases h0
    | ok cf =>
      obtain ⟨code, frame⟩ := cf
      rw [e1] at h0
      dsimp only at h0
      obtain ⟨f1, w1⟩ := evO_ok (f := f) e1
      refine w1 _ _ ?_
      show wp (model p w) callerΓ (run (codeOf p code frame) >>= _) _ _ q (f.st s1)
      rw [Sem.wp_bind']
      unfold run
      rw [Sem.wp_call]
      rw [wpCode_iff_wp]
      show wp (model p w) (callerΓ.enter (codeOf p code frame) none q) (denote PySem.table (codeOf p code frame)) _ _ q (f.st s1)
      cases e2 : evO (okT n0) p w (callerΓ.enter (codeOf p code frame) none q) (blockStart (behindTheImports p) (envOf p code frame)) q s1 with
      | none => rw [e2] at h0; cases h0
      | some z =>
        obtain ⟨a, q1, s2⟩ := z
        cases a with
        | error _ => rw [e2] at h0; cases h0
        | ok u =>
          rw [e2] at h0
          dsimp only at h0
          obtain ⟨f2, w2⟩ := evO_ok (f := f) e2
          show wp (model p w) (callerΓ.enter (codeOf p code frame) none q) (do
            blockStart (behindTheImports p) (envOf p code frame)
            let fl ← (execs (behindTheImports p) (envOf p code frame)).onRaise (leaving (envOf p code frame))
            pure (Fin.done fl) : Sem Fin) _ _ q (f.st s1)
          rw [Sem.wp_bind']
          refine w2 _ _ ?_
          show wp (model p w) _ (_ >>= _) _ _ q1 (f.st s2)
          rw [Sem.wp_bind', Sem.wp_onRaise]
          cases e3 : evO (okT n0) p w (callerΓ.enter (codeOf p code frame) none q) (execs ((behindTheImports p).take m) (envOf p code frame)) q1 s2 with
          | none => rw [e3] at h0; cases h0
          | some z =>
            obtain ⟨a, q2, s3⟩ := z
            cases a with
            | error _ => rw [e3] at h0; cases h0
            | ok fl =>
              cases fl with
              | next =>
                rw [e3] at h0
                obtain ⟨f3, w3⟩ := evO_ok (f := f) e3
                cases ed : (behindTheImports p).drop m with
                | nil => rw [ed] at h0; cases h0
                | cons st rest =>
                  rw [ed] at h0
                  cases st with
                  | Assign targets value pos =>
                    cases value with
                    | Dict keys values dpos =>
                      dsimp only at h0
                      cases e4 : evO (okT n0) p w (callerΓ.enter (codeOf p code frame) none q) (do standAt pos; swapsWithSole targets (.Dict keys values dpos) pos.line (envOf p code frame)) q2 s3 with
                      | none => rw [e4] at h0; cases h0
                      | some z =>
                        obtain ⟨a, q3, s4⟩ := z
                        cases a with
                        | error _ => rw [e4] at h0; cases h0
                        | ok bb =>
                          cases bb with
                          | true => rw [e4] at h0; cases h0
                          | false =>
                            rw [e4] at h0
                            dsimp only at h0
                            cases eu : Nat.blt (callerΓ.enter (codeOf p code frame) none q).units cLine with
                            | false => rw [eu] at h0; cases h0
                            | true =>
                              rw [eu] at h0
                              cases e5 : TB.table p w (callerΓ.enter (codeOf p code frame) none q) (envOf p code frame) keys values dpos s4 with
                              | none => rw [e5] at h0; cases h0
                              | some z =>
                                obtain ⟨d, xs, s5⟩ := z
                                obtain ⟨f5, w5⟩ := table_ok (f := f) (rest := rest) (Nat.le_of_ble_eq_true eu) e4 e5
                                have eb : behindTheImports p = (behindTheImports p).take m ++ (.Assign targets (.Dict keys values dpos) pos :: rest) := by
                                  rw [← ed, List.take_append_drop]
                                have go : ∀ (Q : Flow → Pos → Shared → Prop) (E : Value → Pos → Shared → Prop), (∀ q', wp (model p w) (callerΓ.enter (codeOf p code frame) none q) (behind targets (.Dict keys values dpos) (envOf p code frame) rest d) Q E q' (f.st s5)) → wp (model p w) (callerΓ.enter (codeOf p code frame) none q) (execs (behindTheImports p) (envOf p code frame)) Q E q1 (f.st s2) := by
                                  intro Q E z
                                  rw [eb]
                                  exact wp_execs_app _ _ _ _ (w3 _ _ (w5 Q E z))
                                refine go _ _ fun q5 => ?_
                                have h5 := all q5
                                unfold topB at h5
                                rw [e1] at h5
                                dsimp only at h5
                                rw [e2] at h5
                                dsimp only at h5
                                rw [e3, ed] at h5
                                dsimp only at h5
                                rw [e4] at h5
                                dsimp only at h5
                                rw [eu, e5] at h5
                                dsimp only at h5
                                cases e6 : evO (okT n0) p w (callerΓ.enter (codeOf p code frame) none q) (behind targets (.Dict keys values dpos) (envOf p code frame) rest d) q5 s5 with
                                | none => rw [e6] at h5; cases h5
                                | some z =>
                                  obtain ⟨a, q6, s6⟩ := z
                                  cases a with
                                  | error _ => rw [e6] at h5; cases h5
                                  | ok fl =>
                                    cases fl with
                                    | next =>
                                      obtain ⟨f6, w6⟩ := evO_ok (f := f) e6
                                      refine w6 _ _ ?_
                                      refine ⟨rfl, q5, s6, ?_, rfl, ?_⟩
                                      · unfold topB
                                        rw [e1]
                                        dsimp only
                                        rw [e2]
                                        dsimp only
                                        rw [e3, ed]
                                        dsimp only
                                        rw [e4]
                                        dsimp only
                                        rw [eu, e5]
                                        dsimp only
                                        rw [e6]
                                      · exact f1.trans (f2.trans (f3.trans (f5.trans f6)))
                                    | _ => rw [e6] at h5; cases h5
                    | _ => cases h0
                  | _ => cases h0
              | _ => rw [e3] at h0; cases h0
end
end TB
/-! E7 -/
/-! what the top has left: from the big steps to the machine's own run, and the claim's grounds -/
noncomputable section
namespace TB
open PySem PySem.W PySem.Calls PyProof.Rows HandSHeadRun
open Sem (wp)
section
variable {p : Program} {w : World} {den : Code → Sem Fin}
theorem ni_nk : ∀ (n : Nat) (s : Shared) (t : Thread) (s' : Shared) (t' : Thread), runNI den p w n s t = .running s' t' → runNK den p w n s t = .running s' t'
  | 0, _, _, _, _, h => h
  | n + 1, s, t, s', t', h => by
    unfold runNI at h
    unfold runNK
    cases hl : t.loud with
    | true => rw [stepI_loud den p w hl] at h; cases h
    | false =>
      rw [stepI_quiet den p w hl] at h
      cases e : stepK den p w s t with
      | halt o x => rw [e] at h; cases h
      | go x y => rw [e] at h; exact ni_nk n x y s' t' h
theorem n_snoc : ∀ (n : Nat) (s : Shared) (t : Thread) (s' : Shared) (t' : Thread), PySem.runN den p w n s t = .running s' t' → PySem.runN den p w (n + 1) s t = match step den p w s' t' with
    | .go a b => .running a b
    | .halt o a => .halted o a
  | 0, s, t, s', t', h => by
    cases h
    show (match step den p w s t with
      | .go a b => PySem.runN den p w 0 a b
      | .halt o a => .halted o a) = _
    cases step den p w s t <;> rfl
  | n + 1, s, t, s', t', h => by
    have h1 : (match step den p w s t with
      | .go a b => PySem.runN den p w n a b
      | .halt o a => .halted o a) = .running s' t' := h
    show (match step den p w s t with
      | .go a b => PySem.runN den p w (n + 1) a b
      | .halt o a => .halted o a) = _
    cases e : step den p w s t with
    | halt o a => rw [e] at h1; cases h1
    | go a b => rw [e] at h1; exact n_snoc n a b s' t' h1
theorem run_of {t : Sem Fin} {c : Code} {q : Pos} {s : Shared} (hz : s.asleep) {R : Shared → Prop} (h : wp (model p w) ⟨c, none, none, [], none⟩ t (fun fin _ s' => fin = .done (.ret .none) ∧ R s' ∧ s'.gens = #[]) (fun _ _ _ => False) q s) :
    ∃ s1, R s1 ∧ ∃ n t1, schedN (denote PySem.table) p w n (.single s ⟨t, c, q, []⟩) = .running (.single s1 t1) ∧ through t1 = true := by
  obtain ⟨r, s1, hr, er, hR, hg⟩ := (Sem.wp_iff_runs (model p w) ⟨c, none, none, [], none⟩ t (fun r s' => r = .ok (.ret .none) ∧ R s' ∧ s'.gens = #[]) q s).mp
    (Sem.wp_mono _ _ _ (fun fin _ s' z => by
      obtain ⟨rfl, z⟩ := z
      exact ⟨rfl, z⟩) (fun _ _ _ z => z.elim) _ _ h)
  subst er
  obtain ⟨n, t', c', p', pre', hn, et, ep⟩ := (runs_iff_reach (base := []).mp hr).runN
  subst et ep
  refine ⟨s1, hR, n, ?_⟩
  have lw : leftWithCleanup s1.gens = false := by
    rw [hg]
    simp [leftWithCleanup]
  have hn : (model p w).runN n s ⟨t, c, q, []⟩ = .running s1 ⟨leafOf (.ok (.ret .none)), c', p', []⟩ := hn
  have hfin : finish (outcomeOf (.ok (.ret .none))) s1 = .halt (outcomeOf (.ok (.ret .none))) s1 := by
    unfold finish
    rw [if_neg (by rw [lw]; exact Bool.false_ne_true)]
  have hh : (model p w).runN (n + 1) s ⟨t, c, q, []⟩ = .halted (outcomeOf (.ok (.ret .none))) s1 := by
    rw [runN_snoc hn, step_leaf_nil, hfin]
  obtain ⟨s2, h2, hf2, calm⟩ := runNI_real (denote PySem.table) p w hh rfl
  have same := runNK_same (denote PySem.table) p w n (s₁ := s) (s₂ := s) (t₁ := ⟨t, c, q, []⟩) (t₂ := ⟨t, c, q, []⟩) rfl rfl
  have hk : runNK (denote PySem.table) p w n s ⟨t, c, q, []⟩ = .running s1 ⟨leafOf (.ok (.ret .none)), c', p', []⟩ := ni_nk n _ _ _ _ hn
  rw [hk] at same
  cases e : PySem.runN (denote PySem.table) p w n s ⟨t, c, q, []⟩ with
  | halted o a => rw [e] at same; cases same
  | running a b =>
    rw [e] at same
    simp only [Run.forget, Run.running.injEq] at same
    obtain ⟨sa, sb⟩ := same
    have ea : a = s1 := Shared.eq_of_forget_eq sa.symm hg
    subst ea
    refine ⟨b, ?_, ?_⟩
    · have pre := schedN_prefix (denote PySem.table) p w n s ⟨t, c, q, []⟩ hz (fun k s' t' hk hrun => ⟨calm k s' t' hrun, fun z => by
        have q := n_snoc k _ _ _ _ hrun
        rw [z] at q
        have m := runN_mono (denote PySem.table) p w (k + 1) (n - (k + 1)) _ _ _ _ q
        rw [show k + 1 + (n - (k + 1)) = n by omega, e] at m
        cases m⟩)
      rw [pre, e]
      rfl
    · obtain ⟨bc, bco, bp, bs⟩ := b
      simp only [Thread.forget, Thread.mk.injEq] at sb
      obtain ⟨h1, _, _, h4⟩ := sb
      cases bs with
      | nil =>
        subst h1
        rfl
      | cons x r => cases h4
end
end TB
/-! E8 -/
/-! the grounds of a law's call, from one equation of the kernel's -/
noncomputable section
namespace TB
open PySem PySem.W PySem.Calls PyProof.Rows HandSHeadRun
open Sem (wp)
def fx (w : World) (os : OsState) : Fx := ⟨(boot_heap w.params).life, boot_drawn, os⟩
def toT (f : Fx) (s : St) : SharedT := ⟨s.1, s.2.1, f.life, #[], f.drawn, s.2.2, f.os⟩
theorem toT_abs (f : Fx) (s : St) : (toT f s).abs = f.st s := rfl
/-- from the boot on -/
def topAll (p : Program) (w : World) (m : Nat) (q5 : Pos) : Option St := match putAll (boot_heap w.params).objs.toList .nil 0 with
  | some (t, n) => nat n fun n => nat boot_toks fun k => topB p w n m q5 (t, n, k)
  | none => none
/-- what the kernel is asked -/
def RunB (p q : Program) (loose : List PySem.Str) (H : Hook) (ob : SharedT → H.α) (m : Nat) (w : World) : Prop :=
  ∀ (os : OsState) (q5 : Pos), (topAll p w m q5).map (fun s => (looksF p (boot_heap w.params) ((fx w os).st s), seenQ q loose (importedModules p.main.body) (fun s => xlAt q [] s) ((fx w os).st s), ob (toT (fx w os) s))) = some (true, openGood q loose, H.val w)
/-- what the rest leans on -/
def Grounds (p q : Program) (loose : List PySem.Str) (Y : World → Heap → Prop) (w : World) : Prop :=
  (∃ s, AfterRun (opening p) w s) ∧ ∀ s, AfterRun (opening p) w s → ∃ s0, fenceModules? p s = some s0 ∧ s0.gens = #[] ∧ ∃ s1, TopRan p w s0 s1 ∧ s1.asleep ∧ s1.gens = #[] ∧ s1.heap.isNs mainGlobals = true ∧
    Ground q loose [] (XL q []) w s1 (s1.heap.nsMap mainGlobals) (s1.heap.nsMap builtinsNs) s1.heap ∧ Y w s1.heap
theorem grounds {p q : Program} {loose : List PySem.Str} {H : Hook} {ob : SharedT → H.α} {m : Nat} (ho : ∀ s : SharedT, ob s = H.obs s.abs) (e : opening p = plainProg p.main.scope.names) (ff : ∀ s, fenceModules? p s = some s) (hch : chainsOk q = true) {w : World} (run : RunB p q loose H ob m w) : Grounds p q loose H.says w := by
  obtain ⟨s0, a0, a1⟩ := Option.map_eq_some_iff.mp (boot_open (N := 600) e rfl ff w)
  obtain ⟨sb, b0, b1⟩ := Option.bind_eq_some_iff.mp a0
  rw [← table_eq_tree] at b0
  have AI := AfterImport.of_importEnds b0
  have es : sb = s0 := Option.some.inj ((ff sb).symm.trans b1)
  subst es
  refine ⟨⟨sb, AI⟩, fun s hs => ?_⟩
  obtain rfl : s = sb := AfterImport.unique hs AI
  obtain ⟨bh, bg, bd, bt, bo⟩ := s
  simp only [Prod.mk.injEq] at a1
  obtain ⟨rfl, rfl, rfl, rfl⟩ := a1
  have hz : (⟨boot_heap w.params, #[], boot_drawn, boot_toks, bo⟩ : Shared).asleep := AI.life
  refine ⟨_, b1, rfl, ?_⟩
  -- the boot's heap as a tree
  cases ep : putAll (boot_heap w.params).objs.toList .nil 0 with
  | none =>
    have z := run bo default
    unfold topAll at z
    rw [ep] at z
    cases z
  | some r =>
    obtain ⟨T, n⟩ := r
    have eh := putAll_heap ep
    have en : (boot_heap w.params).objs.size = n := by
      rw [← eh]
      exact absHeap_size T n _
    have est : (fx w bo).st (T, n, boot_toks) = ⟨boot_heap w.params, #[], boot_drawn, boot_toks, bo⟩ := by
      show (⟨absHeap T n (boot_heap w.params).life, #[], boot_drawn, boot_toks, bo⟩ : Shared) = _
      rw [eh]
    have all : ∀ q5, ∃ S, topB p w n m q5 (T, n, boot_toks) = some S ∧ (looksF p (boot_heap w.params) ((fx w bo).st S), seenQ q loose (importedModules p.main.body) (fun s => xlAt q [] s) ((fx w bo).st S), ob (toT (fx w bo) S)) = (true, openGood q loose, H.val w) := by
      intro q5
      have z := run bo q5
      unfold topAll at z
      rw [ep] at z
      dsimp only at z
      rw [nat_eq, nat_eq] at z
      exact Option.map_eq_some_iff.mp z
    have w0 := topB_ok (f := fx w bo) (p := p) (w := w) (n0 := n) (m := m) (s0 := (T, n, boot_toks)) fun q5 => by
      obtain ⟨S, h, _⟩ := all q5
      rw [h]
      rfl
    rw [est] at w0
    obtain ⟨s1, ⟨q5, S, hS, e1, fr⟩, nn, t1, hrun, hthr⟩ := run_of (p := p) (w := w) hz (R := fun s1 => ∃ q5 S, topB p w n m q5 (T, n, boot_toks) = some S ∧ s1 = (fx w bo).st S ∧ Fr (fx w bo) (okT n) (T, n, boot_toks) S)
      (Sem.wp_mono _ _ _ (fun fin _ s' z => by
        obtain ⟨z1, q5, S, z2, z3, z4⟩ := z
        exact ⟨z1, ⟨q5, S, z2, z3, z4⟩, by rw [z3]; rfl⟩) (fun _ _ _ z => z) _ _ w0)
    obtain ⟨S', hS', looks⟩ := all q5
    obtain rfl : S' = S := Option.some.inj (hS'.symm.trans hS)
    simp only [Prod.mk.injEq] at looks
    obtain ⟨l1, l2, l3⟩ := looks
    rw [← seenQ_eq] at l2
    rw [ho, toT_abs] at l3
    rw [← e1] at l1 l2 l3
    have hlife : s1.heap.life = (boot_heap w.params).life := by
      rw [e1]
      rfl
    have hg : s1.gens = #[] := by
      rw [e1]
      rfl
    unfold looksF at l1
    simp only [Bool.and_eq_true] at l1
    obtain ⟨⟨⟨c1, c2⟩, c3⟩, c4⟩ := l1
    obtain ⟨G, _, g1, g2, g3, g4, g5⟩ := ground_of_open (w := w) (XP := XL q []) (fun s z => xl_of s z) hch l2
    refine ⟨s1, ⟨⟨nn, t1, hrun, hthr⟩, hlife, Shared.rest_eq (by rw [e1]; rfl), fun b o hb hn => ?_, g2, statics_of_ok c1, g3, g4, g5, gens_of_done c3, names_of_bound c2, laid_of_kept c4⟩, Shared.asleep_of_life hlife hz, hg, g1, G, H.of w s1 l3⟩
    rw [e1]
    refine fr.2 b o ?_ (by rw [est]; exact hb)
    have lt : b < n := by
      rw [← en]
      exact Heap.lt_size hb
    unfold okT
    have h1 : Nat.ble n b = false := by
      cases q : Nat.ble n b with
      | false => rfl
      | true => exact absurd (Nat.le_of_ble_eq_true q) (Nat.not_le_of_lt lt)
    have h2 : Nat.beq b mainNs = false := by
      cases q : Nat.beq b mainNs with
      | false => rfl
      | true => exact absurd (.inl (Nat.eq_of_beq_eq_true q)) hn
    have h3 : Nat.beq b cStatics = false := by
      cases q : Nat.beq b cStatics with
      | false => rfl
      | true => exact absurd (.inr (.inl (Nat.eq_of_beq_eq_true q))) hn
    rw [h1, h2, h3]
    rfl
end TB
/-! E9 -/
/-! a law's row holds: grounds and the law's own call -/
noncomputable section
namespace TB
open PySem PySem.W PySem.Calls PyProof.Rows HandSHeadRun
/-- the caller's tree -/
def askLaw (name : PySem.Str) (vs : List Value) : Sem Fin := do
  match ← nsGet mainNs name with
  | some f => do ret (← PySem.call f vs)
  | none => unsupported "claim.caller:no-such-global"
theorem holds_of {r : OpenRow} {q : Program} {loose : List PySem.Str} {Y : World → Heap → Prop} {d : DefRec} {kwd : List (PySem.Str × PySem.Expr)} (hg : ∀ w, Grounds r.prog q loose Y w) (hY : ∀ w h h', Y w h → (∀ b o, h.get? b = some o → h'.get? b = some o) → Y w h')
    (hd : defOf q r.name = some (d, kwd)) (hp : r.prog.theDef r.name = some (d.params, d.body, d.scope)) (hk : kwWritten? d.params.kwonlyargs d.params.kw_defaults = some kwd) (hR : r.records = []) (said : r.wellSaid = true)
    (hop : opensWell r.prog = true) (hf : frees r.toRowW = true) (hwi : r.within = []) (hb : r.prog.bare) (hw : r.toRowW.promised) (law : WalkO q loose (XL q []) Y r.toRowW d kwd fun f vs => PySem.call f vs) : r.Holds := by
  obtain ⟨f1, f2, f3, f4, f5⟩ := frees_parts hf
  have same : r.toRowW.claim.same = none := f1
  have some1 : r.toRowW.claim.within = [] := hwi
  have ids := ident_freeW f2 f3 f4
  have empty : (!r.writes || r.toRowW.claim.records.isEmpty) = true := by
    have e : r.toRowW.claim.records = [] := hR
    rw [e]
    cases r.writes <;> rfl
  have noMakers : r.toRowW.claim.makers = [] := by
    show r.makers.map _ = []
    rw [f5]
    rfl
  refine ⟨said, hw, ⟨hb, hop, noMakers⟩, hw.witness, fun w => ?_⟩
  obtain ⟨there, each⟩ := hg w
  refine ⟨there, fun s hs => ?_⟩
  obtain ⟨s0, fence, calm0, s1, ran, sleep, calm1, ns, G, y⟩ := each s hs
  refine ⟨s0, fence, calm0, s1, ran, fun x hx => ?pin, fun x hx => ?recs, fun x hx => ?once, ?call⟩
  case pin =>
    have ex : x = r.name := by
      cases hpin : r.pinned with
      | true =>
        rw [hpin] at hx
        exact List.mem_singleton.mp hx
      | false =>
        rw [hpin] at hx
        cases hx
    rw [ex]
    exact pinned_of_view ns G hd hp hk
  case recs =>
    have e : r.toRowW.claim.records = [] := hR
    rw [e] at hx
    cases hx
  case once =>
    have e : r.toRowW.claim.records = [] := hR
    rw [e] at hx
    cases hx
  case call =>
    have G2 : Ground q loose r.records (XL q []) w s1 (s1.heap.nsMap mainGlobals) (s1.heap.nsMap builtinsNs) s1.heap := by
      rw [hR]
      exact G
    refine ClaimW.callFrom_of_specG (c := r.claim) (tree := askLaw r.name) sleep calm1 fun args pre lay ord perm => ?_
    cases hl : layAllW r.claim.records (classAt s1.heap) w.params ord args s1 with
    | none =>
      have z := layAllW_isSome (P := w.params) (ord := ord) G2.has args r.args s1 (pre_splitW pre).1
      have hl2 : layAllW r.records (classAt s1.heap) w.params ord args s1 = none := hl
      rw [hl2] at z
      cases z
    | some out =>
      obtain ⟨vs, s2⟩ := out
      have stays := layAllW_keeps _ _ _ hl
      have rest := layAllW_rest _ _ _ hl
      obtain ⟨as, rd, inn, held⟩ := reads_layAllW perm _ _ _ hl lay s2.heap fun _ _ z => z
      have L : Laid r.records w s1 s2 args vs as := { laid := ⟨ord, perm, hl⟩, reads := rd, within := inn, old := held, keeps := stays, gens := rest.1.trans calm1, os := rest.2.2.1 }
      have G3 := G2.keeps (fun mg h h2 x k => XL.keeps mg h h2 x k) stays
      obtain ⟨a, o, pm, cd, doc, dV, kV, g1, g2, g3, g4, g5⟩ := G3.fn hd
      have nm : s1.heap.nsMap mainGlobals r.name = some (.ref a) := g1
      have done := law w s1 s2 _ _ G3 (hY w _ _ y stays) a o pm cd doc dV kV g2 g3 g4 g5 (defOf_name hd ▸ g1) L.gens args vs as pre lay L.reads L.well (L.low G2.low)
      refine ⟨vs, s2, rfl, ?_⟩
      unfold askLaw
      refine wpAny_bind (wpAny_nsGet G3.T.g ?_)
      rw [nm]
      refine wpAny_bind (wpAny_mono done (fun v s3 good => wpAny_pure ⟨_, rfl, ?_⟩) fun e s3 good => ?_)
      all_goals
        obtain ⟨z1, z2, z3⟩ := good.laid (c := r.claim) same some1 ids L
        exact ⟨z1, z2, z3, fun wr => ⟨namesKept_of ran ns r.keeps stays good.2.1.old, noTable empty wr⟩⟩
end TB
/-! D1 -/
namespace BX
open PySem PySem.Spec L2

/-! ### what a value is, as data: read off a heap that is never written again -/
def keyD : Key → PyData
  | .inl i => .int i
  | .inr x => .str x
/-- a tuple kept as it is, without attributes of its own: frozen, or an object of the module -/
def SqD (K : PySem.W.Frag) (F : Hp) (a : Addr) (xs : List V) : Prop :=
  (∃ o, F a = some (.frz o (.tup xs)) ∧ o.dict = none) ∨
    ∃ (o : Obj) (us : Array Value) (k : Nat), K.lookup a = some o ∧ o.dict = none ∧ o.cls = .type "tuple" ∧ o.data = .seq us k ∧ us.size ≤ sizeLine ∧ Vals xs us.toList
theorem SqD.sqT {K : PySem.W.Frag} {F : Hp} {a : Addr} {xs : List V} (h : SqD K F a xs) : SqT K F a xs := by
  rcases h with ⟨o, h, _⟩ | ⟨o, us, k, h1, _, h2, h3, h4, h5⟩
  · exact .inl (.inr ⟨o, h⟩)
  · exact .inr ⟨o, us, k, h1, h2, h3, h4, h5⟩
theorem SqD.of {K : PySem.W.Frag} {F : Hp} {a : Addr} {xs : List V} {o : Obj} (ho : o.dict = none) (h : F a = some (.frz o (.tup xs))) : SqD K F a xs := .inl ⟨o, h, ho⟩
mutual
inductive Rp (K : PySem.W.Frag) (F : Hp) : V → PyData → Prop
  | non : Rp K F .non .none
  | bl (b : Bool) : Rp K F (.bl b) (.bool b)
  | int (i : Int) : Rp K F (.int i) (.int i)
  | str (x : Str) : Rp K F (.str x) (.str x)
  | lst {a : Addr} {xs : List V} {ds : List PyData} : F a = some (.lst xs) → RpAll K F xs ds → Rp K F (.ref a) (.list ds)
  | tup {a : Addr} {xs : List V} {ds : List PyData} : SqD K F a xs → RpAll K F xs ds → Rp K F (.ref a) (.tuple ds)
  | dct {a : Addr} {o : Obj} {kvs : List (Key × V)} {ks : List (PyData × PyData)} : F a = some (.frz o (.dK kvs)) → RpKV K F kvs ks → Rp K F (.ref a) (.dict ks)
inductive RpAll (K : PySem.W.Frag) (F : Hp) : List V → List PyData → Prop
  | nil : RpAll K F [] []
  | cons {v : V} {vs : List V} {d : PyData} {ds : List PyData} : Rp K F v d → RpAll K F vs ds → RpAll K F (v :: vs) (d :: ds)
inductive RpKV (K : PySem.W.Frag) (F : Hp) : List (Key × V) → List (PyData × PyData) → Prop
  | nil : RpKV K F [] []
  | cons {k : Key} {v : V} {kvs : List (Key × V)} {d : PyData} {ks : List (PyData × PyData)} : Rp K F v d → RpKV K F kvs ks → RpKV K F ((k, v) :: kvs) ((keyD k, d) :: ks)
end
/-- one heap holds all of another -/
def Le (F G : Hp) : Prop := ∀ b o, F b = some o → G b = some o
theorem Le.refl (F : Hp) : Le F F := fun _ _ h => h
theorem Le.trans {F G H : Hp} (a : Le F G) (b : Le G H) : Le F H := fun c o h => b c o (a c o h)
theorem Le.free {F G : Hp} (h : Le F G) {a : Addr} (e : G a = none) : F a = none := by
  cases q : F a with
  | none => rfl
  | some o => rw [h a o q] at e; cases e
theorem Le.rd {F G : Hp} (h : Le F G) {a : Addr} {u : HO} (r : Rd F a u) : Rd G a u := by
  rcases r with r | ⟨o, r⟩
  · exact .inl (h _ _ r)
  · exact .inr ⟨o, h _ _ r⟩
theorem Le.sqL {K : PySem.W.Frag} {F G : Hp} (h : Le F G) {a : Addr} {xs : List V} (r : SqL K F a xs) : SqL K G a xs := by
  rcases r with r | r
  · exact .inl (h.rd r)
  · exact .inr r
theorem Le.sqD {K : PySem.W.Frag} {F G : Hp} (h : Le F G) {a : Addr} {xs : List V} (r : SqD K F a xs) : SqD K G a xs := by
  rcases r with ⟨o, r, e⟩ | r
  · exact .inl ⟨o, h _ _ r, e⟩
  · exact .inr r
theorem Le.sqT {K : PySem.W.Frag} {F G : Hp} (h : Le F G) {a : Addr} {xs : List V} (r : SqD K F a xs) : SqT K G a xs := (h.sqD r).sqT
theorem Le.sqTT {K : PySem.W.Frag} {F G : Hp} (h : Le F G) {a : Addr} {xs : List V} (r : SqT K F a xs) : SqT K G a xs := by
  rcases r with r | r
  · exact .inl (h.rd r)
  · exact .inr r
theorem Le.up {F : Hp} {a : Addr} {o : HO} (h : F a = none) : Le F (upd F a o) := fun b u e => by
  rw [upd_ne (ne_of_none e h)]; exact e
section
variable {K : PySem.W.Frag} {F G : Hp}
mutual
theorem Rp.le (h : Le F G) : ∀ {d : PyData} {v : V}, Rp K F v d → Rp K G v d
  | _, _, .non => .non
  | _, _, .bl b => .bl b
  | _, _, .int i => .int i
  | _, _, .str x => .str x
  | _, _, .lst s a => .lst (h _ _ s) (RpAll.le h a)
  | _, _, .tup s a => .tup (h.sqD s) (RpAll.le h a)
  | _, _, .dct s a => .dct (h _ _ s) (RpKV.le h a)
theorem RpAll.le (h : Le F G) : ∀ {ds : List PyData} {vs : List V}, RpAll K F vs ds → RpAll K G vs ds
  | _, _, .nil => .nil
  | _, _, .cons a b => .cons (Rp.le h a) (RpAll.le h b)
theorem RpKV.le (h : Le F G) : ∀ {ds : List (PyData × PyData)} {vs : List (Key × V)}, RpKV K F vs ds → RpKV K G vs ds
  | _, _, .nil => .nil
  | _, _, .cons a b => .cons (Rp.le h a) (RpKV.le h b)
end
theorem RpAll.length : ∀ {vs : List V} {ds : List PyData}, RpAll K F vs ds → vs.length = ds.length
  | _, _, .nil => rfl
  | _, _, .cons _ b => congrArg (· + 1) (RpAll.length b)
theorem RpAll.get : ∀ {vs : List V} {ds : List PyData} {i : Nat} {d : PyData}, RpAll K F vs ds → ds[i]? = some d → ∃ v, vs[i]? = some v ∧ Rp K F v d
  | _, _, _, _, .nil, e => absurd e (by simp)
  | _, _, 0, _, .cons a _, e => by simp at e; subst e; exact ⟨_, rfl, a⟩
  | _, _, i + 1, _, .cons _ b, e => by
    obtain ⟨v, h1, h2⟩ := RpAll.get (i := i) b (by simpa using e)
    exact ⟨v, by simpa using h1, h2⟩
theorem RpAll.append : ∀ {vs ws : List V} {ds es : List PyData}, RpAll K F vs ds → RpAll K F ws es → RpAll K F (vs ++ ws) (ds ++ es)
  | _, _, _, _, .nil, s => s
  | _, _, _, _, .cons r t, s => .cons r (RpAll.append t s)
theorem RpAll.take : ∀ {vs : List V} {ds : List PyData} (n : Nat), RpAll K F vs ds → RpAll K F (vs.take n) (ds.take n)
  | _, _, 0, _ => .nil
  | _, _, _ + 1, .nil => .nil
  | _, _, n + 1, .cons r t => .cons r (RpAll.take n t)
theorem RpAll.drop : ∀ {vs : List V} {ds : List PyData} (n : Nat), RpAll K F vs ds → RpAll K F (vs.drop n) (ds.drop n)
  | _, _, 0, r => r
  | _, _, _ + 1, .nil => .nil
  | _, _, n + 1, .cons _ t => RpAll.drop n t
theorem RpAll.set {v : V} {d : PyData} (r : Rp K F v d) : ∀ {vs : List V} {ds : List PyData} (i : Nat), RpAll K F vs ds → RpAll K F (vs.set i v) (ds.set i d)
  | _, _, _, .nil => .nil
  | _, _, 0, .cons _ more => .cons r more
  | _, _, i + 1, .cons q t => .cons q (RpAll.set r i t)
theorem RpAll.one {v : V} {d : PyData} (r : Rp K F v d) : RpAll K F [v] [d] := .cons r .nil
theorem RpAll.dropLast : ∀ {vs : List V} {ds : List PyData}, RpAll K F vs ds → RpAll K F vs.dropLast ds.dropLast := fun {vs ds} r => by
  rw [List.dropLast_eq_take, List.dropLast_eq_take, r.length]
  exact r.take _
theorem RpAll.eraseIdx : ∀ {vs : List V} {ds : List PyData} (i : Nat), RpAll K F vs ds → RpAll K F (vs.eraseIdx i) (ds.eraseIdx i)
  | _, _, _, .nil => .nil
  | _, _, 0, .cons _ t => t
  | _, _, i + 1, .cons q t => .cons q (RpAll.eraseIdx i t)
theorem RpAll.reverse : ∀ {vs : List V} {ds : List PyData}, RpAll K F vs ds → RpAll K F vs.reverse ds.reverse
  | _, _, .nil => .nil
  | _, _, .cons q t => by
    rw [List.reverse_cons]; rw [List.reverse_cons]
    exact (RpAll.reverse t).append (.one q)
theorem RpAll.replicate {v : V} {d : PyData} (r : Rp K F v d) : ∀ n, RpAll K F (List.replicate n v) (List.replicate n d)
  | 0 => .nil
  | n + 1 => .cons r (RpAll.replicate r n)
mutual
theorem Rp.dp : ∀ {d : PyData} {v : V}, d.canLay0 = true → Rp K F v d → Dp K F v d
  | _, _, _, .non => .non
  | _, _, _, .bl b => .bl b
  | _, _, _, .int i => .int i
  | _, _, _, .str x => .str x
  | .list ds, _, h, .lst s a => .lst (SqL.of s) (RpAll.dp (by simpa [PyData.canLay0] using h) a)
  | .tuple ds, _, h, .tup s a => .tup s.sqT (RpAll.dp (by simpa [PyData.canLay0] using h) a)
  | .dict ks, _, h, .dct s a => by simp [PyData.canLay0] at h
theorem RpAll.dp : ∀ {ds : List PyData} {vs : List V}, PyData.canLayAll0 ds = true → RpAll K F vs ds → DpAll K F vs ds
  | _, _, _, .nil => .nil
  | d :: ds, _, h, .cons a b => by
    have h' : d.canLay0 = true ∧ PyData.canLayAll0 ds = true := by simpa [PyData.canLayAll0] using h
    exact .cons (Rp.dp h'.1 a) (RpAll.dp h'.2 b)
end
mutual
theorem _root_.L2.Dp.leB {K : PySem.W.Frag} {F G : Hp} (h : Le F G) : ∀ {d : PyData} {v : V}, Dp K F v d → Dp K G v d
  | _, _, .non => .non
  | _, _, .bl b => .bl b
  | _, _, .int i => .int i
  | _, _, .str x => .str x
  | _, _, .lst s a => .lst (h.sqL s) (L2.DpAll.leB h a)
  | _, _, .tup s a => .tup (h.sqTT s) (L2.DpAll.leB h a)
theorem _root_.L2.DpAll.leB {K : PySem.W.Frag} {F G : Hp} (h : Le F G) : ∀ {ds : List PyData} {vs : List V}, DpAll K F vs ds → DpAll K G vs ds
  | _, _, .nil => .nil
  | _, _, .cons a b => .cons (L2.Dp.leB h a) (L2.DpAll.leB h b)
end
end

/-! ### slots -/
structure Ex where
  cls : Str
  fs : List (Str × PyData)
def XD (K : PySem.W.Frag) (F : Hp) (d : Addr) (ex : Ex) : Prop := ∃ fs, F d = some (.xd fs) ∧ Paired (fun (p : Str × V) (q : Str × PyData) => p.1 = q.1 ∧ Rp K F p.2 q.2) fs ex.fs
theorem XD.le {K : PySem.W.Frag} {F G : Hp} {d : Addr} {ex : Ex} (h : XD K F d ex) (l : Le F G) : XD K G d ex := by
  obtain ⟨fs, h1, h2⟩ := h
  refine ⟨fs, l _ _ h1, ?_⟩
  clear h1
  generalize ex.fs = gs at h2
  induction h2 with
  | nil => exact .nil
  | cons a _ ih => exact .cons ⟨a.1, a.2.le l⟩ ih
/-- another object that is only looked at: its place, and what stands there for good -/
structure XO where
  a : Addr
  G : PySem.W.Frag → Hp → Prop
  mono : ∀ {K : PySem.W.Frag} {F F' : Hp}, Le F F' → G K F → G K F'
/-- a caught error: its place, its dict's, what it tells -/
structure EO where
  a : Addr
  d : Addr
  ex : Ex
def EO.x (o : EO) : XO := ⟨o.a, fun K F => XD K F o.d o.ex, fun l h => h.le l⟩
inductive Sl where
  | e
  | v (d : PyData)
  | o (d : PyData)
  | io (d : PyData)
  | ro (ds : List PyData)
  | x (o : XO)
abbrev Ev := List Sl
/-- the content of an owned slot -/
def ow (env : Ev) (i : Nat) : Option PyData := match env[i]? with
  | some (.o d) => some d
  | some (.io d) => some d
  | _ => none
def putO (env : Ev) (i : Nat) (d : PyData) : Ev := match env[i]? with
  | some (.o _) => env.set i (.o d)
  | some (.io _) => env.set i (.io d)
  | _ => env
/-- what stands at an owned address -/
inductive Ow (K : PySem.W.Frag) (F H : Hp) (a : Addr) : PyData → Prop
  | lst {xs : List V} {ds : List PyData} : H a = some (.lst xs) → RpAll K F xs ds → Ow K F H a (.list ds)
  | dct {kvs : List (Key × V)} {ks : List (PyData × PyData)} : H a = some (.dK kvs) → RpKV K F kvs ks → Ow K F H a (.dict ks)
theorem Ow.ob {K : PySem.W.Frag} {F H : Hp} {a : Addr} {d : PyData} (h : Ow K F H a d) : ∃ o, H a = some o := by
  cases h with
  | lst h _ => exact ⟨_, h⟩
  | dct h _ => exact ⟨_, h⟩
theorem Ow.le {K : PySem.W.Frag} {F F' H H' : Hp} {a : Addr} {d : PyData} (h : Ow K F H a d) (l : Le F F') (e : H' a = H a) : Ow K F' H' a d := by
  cases h with
  | lst h r => exact .lst (by rw [e]; exact h) (r.le l)
  | dct h r => exact .dct (by rw [e]; exact h) (r.le l)

/-! ### tables of code objects: the defs that make lambdas -/
/-- the defs of the laws that make lambdas -/
def lamNames : List Str := ["law", "_law_refusals", "_law_letters_right", "_law_power_right", "_law_refused_right", "_law_great_right", "_law_odd_right", "_law_all_heard", "_law_tape_holds", "_law_value_holds", "_law_forms_refused", "_law_many_refused", "_law_row_right"]
/-- the table of the def's code object -/
def tabAt (K : PySem.W.Frag) (x : Str) : Option (Addr × Addr × Str) := match PySem.W.nsIn K mainGlobals x with
  | some (some (.ref f)) => (match K.lookup f with
    | some ⟨_, _, .func fd, _⟩ => (match fd.code with
      | .ref c => (match K.lookup c with
        | some ⟨_, _, .fields vs, _⟩ => (match (vs[11]? : Option Value) with
          | some (Value.ref P) => some (c, P, fd.qualname ++ ".<locals>." ++ "<lambda>")
          | _ => none)
        | _ => none)
      | _ => none)
    | _ => none)
  | _ => none
def tabsC (K : PySem.W.Frag) : List (Addr × Addr × Str) := lamNames.filterMap (tabAt K)
def tabsK (K : PySem.W.Frag) : List (Addr × Str) := (tabsC K).map (·.2)
/-- a function object that F tells: its code object is told by H -/
def FnM (F H : Hp) : Prop := ∀ (f : Addr) (ob : Obj) (fd : FuncData) (c : Addr), ob.data = .func fd → F f = some (.frz ob (.own c)) → H c = some (LamX.CodeO c fd.qualname)
theorem FnM.le {F H H' : Hp} (h : FnM F H) (l : Le H H') : FnM F H' := fun f ob fd c e q => l _ _ (h f ob fd c e q)
theorem FnM.up {F H : Hp} (h : FnM F H) {p : Addr} {o : HO} (ho : ∀ ob c, o ≠ .frz ob (.own c)) : FnM (upd F p o) H := fun f ob fd c e q => by
  by_cases hf : f = p
  · rw [hf, upd_same] at q
    exact absurd (Option.some.inj q) (ho ob c)
  · rw [upd_ne hf] at q
    exact h f ob fd c e q
theorem FnM.write {F H : Hp} (h : FnM F H) {a : Addr} {o u : HO} (ha : H a = some u) (hu : ∀ φ, u ≠ .ext φ) : FnM F (upd H a o) := fun f ob fd c e q => by
  have k := h f ob fd c e q
  have n : c ≠ a := fun z => by rw [z, ha] at k; exact hu _ (Option.some.inj k)
  rw [upd_ne n]
  exact k
structure TbOk (K : PySem.W.Frag) (fr F H : Hp) : Prop where
  tab : LamX.Tabs (tabsK K) H
  nt : ∀ b ps, F b ≠ some (.tbl ps)
  ft : ∀ b ps, fr b ≠ some (.tbl ps)
  fn : FnM F H
theorem Tabs.new {T : List (Addr × Str)} {H : Hp} (h : LamX.Tabs T H) {p : Addr} {o : HO} (hp : H p = none) : LamX.Tabs T (upd H p o) := h.ext fun b u e => by rw [upd_ne (ne_of_none e hp)]; exact e
/-- what is no table and no code object is written -/
theorem Tabs.write {T : List (Addr × Str)} {H : Hp} (h : LamX.Tabs T H) {a : Addr} {o u : HO} (ha : H a = some u) (h1 : ∀ ps, u ≠ .tbl ps) (h2 : ∀ φ, u ≠ .ext φ) : LamX.Tabs T (upd H a o) := fun p hp => by
  obtain ⟨ps, e1, e2, e3⟩ := h p hp
  have n1 : p.1 ≠ a := fun z => by rw [z, ha] at e1; exact h1 ps (Option.some.inj e1)
  refine ⟨ps, by rw [upd_ne n1]; exact e1, e2, fun pos cv hc => ?_⟩
  obtain ⟨c, q1, q2⟩ := e3 pos cv hc
  have n2 : c ≠ a := fun z => by rw [z, ha] at q2; exact h2 _ (Option.some.inj q2)
  exact ⟨c, q1, by rw [upd_ne n2]; exact q2⟩
theorem upd_nt {F : Hp} {p : Addr} {o : HO} (h : ∀ b ps, F b ≠ some (.tbl ps)) (ho : ∀ ps, o ≠ .tbl ps) : ∀ b ps, upd F p o b ≠ some (.tbl ps) := fun b ps e => by
  by_cases hb : b = p
  · subst hb; rw [upd_same] at e; exact ho ps (Option.some.inj e)
  · rw [upd_ne hb] at e; exact h b ps e
section
variable {K : PySem.W.Frag} {fr F H : Hp}
theorem TbOk.newD (t : TbOk K fr F H) {p : Addr} {o : HO} (hp : H p = none) (ho : ∀ ps, o ≠ .tbl ps) (ho2 : ∀ ob c, o ≠ .frz ob (.own c)) : TbOk K fr (upd F p o) (upd H p o) := ⟨Tabs.new t.tab hp, upd_nt t.nt ho, t.ft, (t.fn.up ho2).le (Le.up hp)⟩
theorem TbOk.newO (t : TbOk K fr F H) {p : Addr} {o : HO} (hp : H p = none) : TbOk K fr F (upd H p o) := ⟨Tabs.new t.tab hp, t.nt, t.ft, t.fn.le (Le.up hp)⟩
end
theorem Ow.nt {K : PySem.W.Frag} {F H : Hp} {a : Addr} {d : PyData} (h : Ow K F H a d) : ∃ u, H a = some u ∧ (∀ ps, u ≠ .tbl ps) ∧ ∀ φ, u ≠ .ext φ := by
  cases h with
  | lst h _ => exact ⟨_, h, fun _ z => (nomatch z), fun _ z => (nomatch z)⟩
  | dct h _ => exact ⟨_, h, fun _ z => (nomatch z), fun _ z => (nomatch z)⟩

structure Base where
  F : Hp
  fr : Hp
  ro : Hp
  io : Nat → Option Addr

/-- the state: slots σ over the heap H, of which F is never written again; env tells them as data -/
structure Ly (K : PySem.W.Frag) (B : Base) (σ : St) (H F : Hp) (env : Ev) : Prop where
  len : σ.length = env.length
  sub : Le F H
  ext : Le B.F F
  new : ∀ b o, F b = some o → B.fr b = none ∨ B.F b = some o
  keep : Le B.fr H
  tb : TbOk K B.fr F H
  val : ∀ (i : Nat) (d : PyData), env[i]? = some (.v d) → ∃ x, σ[i]? = some (some x) ∧ Rp K F x d
  rd : ∀ (i : Nat) (ds : List PyData), env[i]? = some (.ro ds) → ∃ a xs, σ[i]? = some (some (.ref a)) ∧ SqL K B.ro a xs ∧ RpAll K F xs ds
  rol : Le B.ro B.fr
  xs : ∀ (i : Nat) (o : XO), env[i]? = some (.x o) → σ[i]? = some (some (.ref o.a)) ∧ o.G K F
  iof : ∀ (i : Nat) (d : PyData), env[i]? = some (.io d) → ∃ a, B.io i = some a ∧ σ[i]? = some (some (.ref a))
  own : ∀ (i : Nat) (d : PyData), ow env i = some d → ∃ a, σ[i]? = some (some (.ref a)) ∧ F a = none ∧ B.fr a = none ∧ Ow K F H a d
  apart : ∀ (i j : Nat) (a : Addr) (d d' : PyData), ow env i = some d → ow env j = some d' → σ[i]? = some (some (.ref a)) → σ[j]? = some (some (.ref a)) → i = j
section
variable {K : PySem.W.Frag} {B : Base} {σ : St} {H F : Hp} {env : Ev}
/-- a new object, to be data from now on -/
theorem Ly.newD (L : Ly K B σ H F env) {p : Addr} {o : HO} (hp : H p = none) (ho : ∀ ps, o ≠ .tbl ps := by intro _ z; cases z) (ho2 : ∀ ob c, o ≠ .frz ob (.own c) := by intro _ _ z; cases z) : Ly K B σ (upd H p o) (upd F p o) env where
  len := L.len
  tb := L.tb.newD hp ho ho2
  sub := fun b u e => by
    by_cases hb : b = p
    · subst hb; rw [upd_same] at e ⊢; exact e
    · rw [upd_ne hb] at e ⊢; exact L.sub b u e
  ext := fun b u e => by rw [upd_ne (ne_of_none (L.sub _ _ (L.ext b u e)) hp)]; exact L.ext b u e
  new := fun b u e => by
    by_cases hb : b = p
    · subst hb
      exact .inl (L.keep.free hp)
    · rw [upd_ne hb] at e; exact L.new b u e
  keep := fun b u e => by rw [upd_ne (ne_of_none (L.keep b u e) hp)]; exact L.keep b u e
  val := fun i d e => by
    obtain ⟨x, h1, h2⟩ := L.val i d e
    exact ⟨x, h1, h2.le (Le.up (L.sub.free hp))⟩
  rd := fun i ds e => by
    obtain ⟨a, xs, h1, h2, h3⟩ := L.rd i ds e
    exact ⟨a, xs, h1, h2, h3.le (Le.up (L.sub.free hp))⟩
  rol := L.rol
  xs := fun i o e => ⟨(L.xs i o e).1, o.mono (Le.up (L.sub.free hp)) (L.xs i o e).2⟩
  iof := L.iof
  own := fun i d e => by
    obtain ⟨a, h1, h2, h3, h4⟩ := L.own i d e
    obtain ⟨o', h5⟩ := h4.ob
    have ha : a ≠ p := ne_of_none h5 hp
    exact ⟨a, h1, by rw [upd_ne ha]; exact h2, h3, h4.le (Le.up (L.sub.free hp)) (by rw [upd_ne ha])⟩
  apart := L.apart
/-- a new object, not yet of the data -/
theorem Ly.newO (L : Ly K B σ H F env) {p : Addr} {o : HO} (hp : H p = none) : Ly K B σ (upd H p o) F env where
  len := L.len
  tb := L.tb.newO hp
  sub := fun b u e => by rw [upd_ne (ne_of_none (L.sub b u e) hp)]; exact L.sub b u e
  ext := L.ext
  new := L.new
  keep := fun b u e => by rw [upd_ne (ne_of_none (L.keep b u e) hp)]; exact L.keep b u e
  val := L.val
  rd := L.rd
  rol := L.rol
  xs := L.xs
  iof := L.iof
  own := fun i d e => by
    obtain ⟨a, h1, h2, h3, h4⟩ := L.own i d e
    obtain ⟨o', h5⟩ := h4.ob
    have ha : a ≠ p := ne_of_none h5 hp
    exact ⟨a, h1, h2, h3, h4.le (Le.refl _) (by rw [upd_ne ha])⟩
  apart := L.apart
theorem ow_lt {env : Ev} {i : Nat} {d : PyData} (h : ow env i = some d) : i < env.length := by
  unfold ow at h
  split at h <;> first | exact (List.getElem?_eq_some_iff.mp (by assumption)).1 | cases h
/-- a slot is stored as data -/
theorem Ly.setV (L : Ly K B σ H F env) {i : Nat} {x : V} {d : PyData} (r : Rp K F x d) : Ly K B (σ.set i (some x)) H F (env.set i (.v d)) where
  len := by rw [List.length_set, List.length_set]; exact L.len
  tb := L.tb
  sub := L.sub
  ext := L.ext
  new := L.new
  keep := L.keep
  val := fun j d' e => by
    by_cases hj : i = j
    · subst hj
      by_cases hl : i < env.length
      · rw [List.getElem?_set_self hl] at e; cases e
        exact ⟨x, by rw [List.getElem?_set_self (by rw [L.len]; exact hl)], r⟩
      · rw [List.getElem?_eq_none (by simpa using hl)] at e; cases e
    · rw [List.getElem?_set_ne hj] at e ⊢
      exact L.val j d' e
  rd := fun j ds e => by
    by_cases hj : i = j
    · subst hj
      by_cases hl : i < env.length
      · rw [List.getElem?_set_self hl] at e; cases e
      · rw [List.getElem?_eq_none (by simpa using hl)] at e; cases e
    · rw [List.getElem?_set_ne hj] at e ⊢
      exact L.rd j ds e
  rol := L.rol
  xs := fun j c e => by
    by_cases hj : i = j
    · subst hj
      by_cases hl : i < env.length
      · rw [List.getElem?_set_self hl] at e; cases e
      · rw [List.getElem?_eq_none (by simpa using hl)] at e; cases e
    · rw [List.getElem?_set_ne hj] at e ⊢
      exact L.xs j c e
  iof := fun j d' e => by
    by_cases hj : i = j
    · subst hj
      by_cases hl : i < env.length
      · rw [List.getElem?_set_self hl] at e; cases e
      · rw [List.getElem?_eq_none (by simpa using hl)] at e; cases e
    · rw [List.getElem?_set_ne hj] at e ⊢
      exact L.iof j d' e
  own := fun j d' e => by
    by_cases hj : i = j
    · subst hj
      have hl := ow_lt e
      rw [List.length_set] at hl
      unfold ow at e
      rw [List.getElem?_set_self hl] at e; cases e
    · have e' : ow env j = some d' := by unfold ow at e ⊢; rw [List.getElem?_set_ne hj] at e; exact e
      rw [List.getElem?_set_ne hj]
      exact L.own j d' e'
  apart := fun j k a d1 d2 e1 e2 s1 s2 => by
    have nj : ∀ m d', ow (env.set i (.v d)) m = some d' → i ≠ m ∧ ow env m = some d' := fun m d' e => by
      by_cases hj : i = m
      · subst hj
        have hl := ow_lt e
        rw [List.length_set] at hl
        unfold ow at e
        rw [List.getElem?_set_self hl] at e; cases e
      · exact ⟨hj, by unfold ow at e ⊢; rw [List.getElem?_set_ne hj] at e; exact e⟩
    obtain ⟨h1, h2⟩ := nj j d1 e1
    obtain ⟨h3, h4⟩ := nj k d2 e2
    rw [List.getElem?_set_ne h1] at s1
    rw [List.getElem?_set_ne h3] at s2
    exact L.apart j k a d1 d2 h2 h4 s1 s2
/-- a slot is stored as a new object of the def's own -/
theorem Ly.setO (L : Ly K B σ H F env) {i : Nat} {p : Addr} {d : PyData} (hF : F p = none) (hfr : B.fr p = none) (r : Ow K F H p d) (nw : ∀ j d', ow env j = some d' → j ≠ i → σ[j]? ≠ some (some (.ref p))) :
    Ly K B (σ.set i (some (.ref p))) H F (env.set i (.o d)) where
  len := by rw [List.length_set, List.length_set]; exact L.len
  tb := L.tb
  sub := L.sub
  ext := L.ext
  new := L.new
  keep := L.keep
  val := fun j d' e => by
    by_cases hj : i = j
    · subst hj
      by_cases hl : i < env.length
      · rw [List.getElem?_set_self hl] at e; cases e
      · rw [List.getElem?_eq_none (by simpa using hl)] at e; cases e
    · rw [List.getElem?_set_ne hj] at e ⊢
      exact L.val j d' e
  rd := fun j ds e => by
    by_cases hj : i = j
    · subst hj
      by_cases hl : i < env.length
      · rw [List.getElem?_set_self hl] at e; cases e
      · rw [List.getElem?_eq_none (by simpa using hl)] at e; cases e
    · rw [List.getElem?_set_ne hj] at e ⊢
      exact L.rd j ds e
  rol := L.rol
  xs := fun j c e => by
    by_cases hj : i = j
    · subst hj
      by_cases hl : i < env.length
      · rw [List.getElem?_set_self hl] at e; cases e
      · rw [List.getElem?_eq_none (by simpa using hl)] at e; cases e
    · rw [List.getElem?_set_ne hj] at e ⊢
      exact L.xs j c e
  iof := fun j d' e => by
    by_cases hj : i = j
    · subst hj
      by_cases hl : i < env.length
      · rw [List.getElem?_set_self hl] at e; cases e
      · rw [List.getElem?_eq_none (by simpa using hl)] at e; cases e
    · rw [List.getElem?_set_ne hj] at e ⊢
      exact L.iof j d' e
  own := fun j d' e => by
    by_cases hj : i = j
    · subst hj
      have hl := ow_lt e
      rw [List.length_set] at hl
      unfold ow at e
      rw [List.getElem?_set_self hl] at e
      cases e
      exact ⟨p, by rw [List.getElem?_set_self (by rw [L.len]; exact hl)], hF, hfr, r⟩
    · have e' : ow env j = some d' := by unfold ow at e ⊢; rw [List.getElem?_set_ne hj] at e; exact e
      rw [List.getElem?_set_ne hj]
      exact L.own j d' e'
  apart := fun j k a d1 d2 e1 e2 s1 s2 => by
    by_cases h1 : i = j
    · by_cases h2 : i = k
      · rw [← h1, ← h2]
      · subst h1
        have hl := ow_lt e1
        rw [List.length_set] at hl
        rw [List.getElem?_set_self (by rw [L.len]; exact hl)] at s1
        cases s1
        rw [List.getElem?_set_ne h2] at s2
        have e' : ow env k = some d2 := by unfold ow at e2 ⊢; rw [List.getElem?_set_ne h2] at e2; exact e2
        exact absurd s2 (nw k d2 e' (Ne.symm h2))
    · have e1' : ow env j = some d1 := by unfold ow at e1 ⊢; rw [List.getElem?_set_ne h1] at e1; exact e1
      rw [List.getElem?_set_ne h1] at s1
      by_cases h2 : i = k
      · subst h2
        have hl := ow_lt e2
        rw [List.length_set] at hl
        rw [List.getElem?_set_self (by rw [L.len]; exact hl)] at s2
        cases s2
        exact absurd s1 (nw j d1 e1' (Ne.symm h1))
      · have e2' : ow env k = some d2 := by unfold ow at e2 ⊢; rw [List.getElem?_set_ne h2] at e2; exact e2
        rw [List.getElem?_set_ne h2] at s2
        exact L.apart j k a d1 d2 e1' e2' s1 s2
theorem putO_length {env : Ev} {i : Nat} {d : PyData} : (putO env i d).length = env.length := by
  unfold putO
  split <;> simp
theorem putO_ne {env : Ev} {i j : Nat} {d : PyData} (h : i ≠ j) : (putO env i d)[j]? = env[j]? := by
  unfold putO
  split <;> simp [h]
theorem ow_putO {env : Ev} {i : Nat} {d d' : PyData} (h : ow env i = some d') : ow (putO env i d) i = some d := by
  have hl := ow_lt h
  unfold ow at h
  split at h
  · rename_i e
    unfold putO ow
    rw [e]
    simp [hl]
  · rename_i e
    unfold putO ow
    rw [e]
    simp [hl]
  · cases h
theorem ow_putO_ne {env : Ev} {i j : Nat} {d : PyData} (h : i ≠ j) : ow (putO env i d) j = ow env j := by
  unfold ow
  rw [putO_ne h]
theorem val_putO {env : Ev} {i j : Nat} {d d' : PyData} (h : (putO env i d)[j]? = some (.v d')) : env[j]? = some (.v d') := by
  by_cases hij : i = j
  · subst hij
    unfold putO at h
    split at h
    · rename_i e
      have hl := (List.getElem?_eq_some_iff.mp e).1
      rw [List.getElem?_set_self hl] at h; cases h
    · rename_i e
      have hl := (List.getElem?_eq_some_iff.mp e).1
      rw [List.getElem?_set_self hl] at h; cases h
    · exact h
  · rw [putO_ne hij] at h; exact h
theorem io_putO {env : Ev} {i j : Nat} {d d' : PyData} (h : (putO env i d)[j]? = some (.io d')) : ∃ d2, env[j]? = some (.io d2) := by
  by_cases hij : i = j
  · subst hij
    unfold putO at h
    split at h
    · rename_i e
      have hl := (List.getElem?_eq_some_iff.mp e).1
      rw [List.getElem?_set_self hl] at h; cases h
    · rename_i e
      exact ⟨_, e⟩
    · exact ⟨_, h⟩
  · rw [putO_ne hij] at h; exact ⟨_, h⟩
theorem x_putO {env : Ev} {i j : Nat} {d : PyData} {a : XO} (h : (putO env i d)[j]? = some (.x a)) : env[j]? = some (.x a) := by
  by_cases hij : i = j
  · subst hij
    unfold putO at h
    split at h
    · rename_i e
      have hl := (List.getElem?_eq_some_iff.mp e).1
      rw [List.getElem?_set_self hl] at h; cases h
    · rename_i e
      have hl := (List.getElem?_eq_some_iff.mp e).1
      rw [List.getElem?_set_self hl] at h; cases h
    · exact h
  · rw [putO_ne hij] at h; exact h
theorem ro_putO {env : Ev} {i j : Nat} {d : PyData} {ds : List PyData} (h : (putO env i d)[j]? = some (.ro ds)) : env[j]? = some (.ro ds) := by
  by_cases hij : i = j
  · subst hij
    unfold putO at h
    split at h
    · rename_i e
      have hl := (List.getElem?_eq_some_iff.mp e).1
      rw [List.getElem?_set_self hl] at h; cases h
    · rename_i e
      have hl := (List.getElem?_eq_some_iff.mp e).1
      rw [List.getElem?_set_self hl] at h; cases h
    · exact h
  · rw [putO_ne hij] at h; exact h
/-- an owned object is written -/
theorem Ly.write (L : Ly K B σ H F env) {i : Nat} {a : Addr} {o : HO} {d d' : PyData} (h : ow env i = some d) (hs : σ[i]? = some (some (.ref a))) (r : Ow K F (upd H a o) a d') : Ly K B σ (upd H a o) F (putO env i d') := by
  obtain ⟨a', h1, h2, h3, h4⟩ := L.own i d h
  rw [hs] at h1
  cases h1
  exact {
    len := by rw [putO_length]; exact L.len
    tb := let ⟨u, q1, q2, q3⟩ := h4.nt; ⟨Tabs.write L.tb.tab q1 q2 q3, L.tb.nt, L.tb.ft, L.tb.fn.write q1 q3⟩
    sub := fun b u e => by rw [upd_ne (ne_of_none e h2)]; exact L.sub b u e
    ext := L.ext
    new := L.new
    keep := fun b u e => by rw [upd_ne (ne_of_none e h3)]; exact L.keep b u e
    val := fun j d1 e => L.val j d1 (val_putO e)
    rd := fun j ds e => L.rd j ds (ro_putO e)
    rol := L.rol
    xs := fun j c e => L.xs j c (x_putO e)
    iof := fun j d1 e => by
      obtain ⟨d2, e2⟩ := io_putO e
      exact L.iof j d2 e2
    own := fun j d1 e => by
      by_cases hj : i = j
      · subst hj
        rw [ow_putO h] at e
        cases e
        exact ⟨a, hs, h2, h3, r⟩
      · rw [ow_putO_ne hj] at e
        obtain ⟨c, q1, q2, q3, q4⟩ := L.own j d1 e
        have hc : c ≠ a := fun z => hj (L.apart i j a d d1 h e hs (z ▸ q1))
        exact ⟨c, q1, q2, q3, q4.le (Le.refl _) (by rw [upd_ne hc])⟩
    apart := fun j k c d1 d2 e1 e2 s1 s2 => by
      have oo : ∀ m x, ow (putO env i d') m = some x → ∃ y, ow env m = some y := fun m x e => by
        by_cases hm : i = m
        · subst hm; exact ⟨d, h⟩
        · rw [ow_putO_ne hm] at e; exact ⟨x, e⟩
      obtain ⟨y1, f1⟩ := oo j d1 e1
      obtain ⟨y2, f2⟩ := oo k d2 e2
      exact L.apart j k c y1 y2 f1 f2 s1 s2 }
/-- what an object is once it is data: a dict is frozen -/
def Cold (K : PySem.W.Frag) (v : V) (H H' : Hp) : Prop := (∃ a kvs o, v = .ref a ∧ K.lookup a = none ∧ H a = some (.dK kvs) ∧ H' = upd H a (.frz o (.dK kvs))) ∨ (H' = H ∧ ∀ a kvs, v = .ref a → H a ≠ some (.dK kvs))
theorem upd_self {H : Hp} {a : Addr} {o : HO} (h : H a = some o) : upd H a o = H := by
  funext b
  by_cases e : b = a
  · subst e; rw [upd_same, h]
  · rw [upd_ne e]
/-- an object of nobody's becomes data -/
theorem Ly.cold1 (L : Ly K B σ H F env) {a : Addr} {u : HO} (hF : F a = none) (hfr : B.fr a = none) (hH : ∃ u0, H a = some u0 ∧ (∀ ps, u0 ≠ .tbl ps) ∧ ∀ φ, u0 ≠ .ext φ) (hs : ∀ (j : Nat) d', ow env j = some d' → σ[j]? ≠ some (some (.ref a))) (hu : (∀ ps, u ≠ .tbl ps) ∧ ∀ ob c, u ≠ .frz ob (.own c)) : Ly K B σ (upd H a u) (upd F a u) env := by
  obtain ⟨u0, h0, h1, h2⟩ := hH
  have le : Le F (upd F a u) := Le.up hF
  exact {
    len := L.len
    tb := ⟨Tabs.write L.tb.tab h0 h1 h2, upd_nt L.tb.nt hu.1, L.tb.ft, (L.tb.fn.up hu.2).write h0 h2⟩
    sub := fun b u e => by
      by_cases hb : b = a
      · subst hb; rw [upd_same] at e ⊢; exact e
      · rw [upd_ne hb] at e ⊢; exact L.sub b u e
    ext := L.ext.trans le
    new := fun b u e => by
      by_cases hb : b = a
      · subst hb; exact .inl hfr
      · rw [upd_ne hb] at e; exact L.new b u e
    keep := fun b u e => by rw [upd_ne (ne_of_none e hfr)]; exact L.keep b u e
    val := fun i d e => by obtain ⟨x, q1, q2⟩ := L.val i d e; exact ⟨x, q1, q2.le le⟩
    rd := fun i d e => by obtain ⟨c, xs, q1, q2, q3⟩ := L.rd i d e; exact ⟨c, xs, q1, q2, q3.le le⟩
    rol := L.rol
    xs := fun i o e => ⟨(L.xs i o e).1, o.mono le (L.xs i o e).2⟩
    iof := L.iof
    own := fun i d e => by
      obtain ⟨c, q1, q2, q3, q4⟩ := L.own i d e
      have hc : c ≠ a := fun z => hs i d e (z ▸ q1)
      exact ⟨c, q1, by rw [upd_ne hc]; exact q2, q3, q4.le le (by rw [upd_ne hc])⟩
    apart := L.apart }
theorem Ow.cold {a : Addr} {d : PyData} {H' : Hp} (h : Ow K F H a d) (hF : F a = none) (c : Cold K (.ref a) H H') : ∃ u, H' = upd H a u ∧ ((∀ ps, u ≠ .tbl ps) ∧ ∀ ob c, u ≠ .frz ob (.own c)) ∧ Rp K (upd F a u) (.ref a) d := by
  cases h with
  | lst e r =>
    rcases c with ⟨b, kvs, o, e1, _, e2, _⟩ | ⟨e1, _⟩
    · cases e1; rw [e] at e2; cases e2
    · exact ⟨_, by rw [upd_self e]; exact e1, ⟨(fun _ z => by cases z), (fun _ _ z => by cases z)⟩, .lst upd_same (r.le (Le.up hF))⟩
  | dct e r =>
    rcases c with ⟨b, kvs, o, e1, _, e2, e3⟩ | ⟨_, e1⟩
    · cases e1
      rw [e] at e2
      cases e2
      exact ⟨_, e3, ⟨(fun _ z => by cases z), (fun _ _ z => by cases z)⟩, .dct upd_same (r.le (Le.up hF))⟩
    · exact absurd e (e1 _ _ rfl)
theorem set_sameL {α : Type} {l : List α} {i : Nat} {x : α} (h : l[i]? = some x) : l.set i x = l := by
  obtain ⟨hi, e⟩ := List.getElem?_eq_some_iff.mp h
  subst e
  exact List.set_getElem_self hi
/-- an owned object of the def's own becomes data -/
theorem Ly.freeze (L : Ly K B σ H F env) {i : Nat} {d : PyData} (h : env[i]? = some (.o d)) : ∃ a, σ[i]? = some (some (.ref a)) ∧ ∀ H', Cold K (.ref a) H H' → ∃ F', Le F F' ∧ Rp K F' (.ref a) d ∧ Ly K B σ H' F' (env.set i (.v d)) := by
  have ho : ow env i = some d := by unfold ow; rw [h]
  obtain ⟨a, h1, h2, h3, h4⟩ := L.own i d ho
  refine ⟨a, h1, fun H' c => ?_⟩
  obtain ⟨u, e1, e2, e3⟩ := h4.cold h2 c
  have il := ow_lt ho
  have sl : i < σ.length := by rw [L.len]; exact il
  have L1 := L.setV (i := i) (x := .non) (d := .none) .non
  have L2 := L1.cold1 (u := u) h2 h3 h4.nt (fun j d' e z => by
    have hj : i ≠ j := by
      rintro rfl
      unfold ow at e
      rw [List.getElem?_set_self il] at e; cases e
    rw [List.getElem?_set_ne hj] at z
    exact hj (L.apart i j a d d' ho (by unfold ow at e ⊢; rw [List.getElem?_set_ne hj] at e; exact e) h1 z)) e2
  have L3 := L2.setV (i := i) e3
  rw [List.set_set, List.set_set, set_sameL h1, ← e1] at L3
  exact ⟨_, Le.up h2, e3, L3⟩
end
end BX
/-! DZ -/
/-! new tuples, as objects that are known whole -/
namespace BX
open PySem PySem.Spec L2 PyProof.Rows
/-- a new tuple of these, at a place that was free -/
def NewT (H : Hp) (Q : VK) (xs : List V) : Prop := ∀ (p : Addr) (o : Obj), H p = none → o.dict = none → Q (.ref p) (upd H p (.frz o (.tup xs)))
section
variable {X : Cx} {pins : List (Addr × Obj)} {σ : L2.St} {H : Hp} {s : Shared} {h' : Heap}
theorem laidZ {a : Addr} {o : Obj} {xs : List V} {us : List Value} {t' n : Nat} (I : Inv X pins σ H s) (k : ∀ b u, s.heap.get? b = some u → h'.get? b = some u) (hp : s.heap.objs.size ≤ a) (e : h'.get? a = some o) (z : xs.length ≤ sizeLine) (r : Vals xs us)
    (hc : o.cls = .type "tuple") (hd : o.data = .seq us.toArray n) : Inv X pins σ (upd H a (.frz o (.tup xs))) { s with heap := h', toks := t' } :=
  I.laid k hp ⟨e, z, us, r, o, e, hc, n, hd⟩
/-- .. just pushed -/
theorem pushZ {xs : List V} {us : List Value} {Q : VK} (I : Inv X pins σ H s) (z : xs.length ≤ sizeLine) (r : Vals xs us) (q : NewT H Q xs) : EP X pins σ Q (.ref s.heap.objs.size) { s with heap := s.heap.push { cls := .type "tuple", data := .seq us.toArray } } :=
  ⟨.ref s.heap.objs.size, _, laidZ (t' := s.toks) (n := 0) I (fun b u e => Heap.get?_push_of_some _ e) (Nat.le_refl _) (Heap.get?_push_size _ rfl) z r rfl rfl, rfl, q _ _ (I.hok.fresh (Nat.le_refl _)) rfl⟩
end
section
variable {X : Cx}
def tTupZ (t : TA) : TE := fun σ H Q => t σ H fun xs H1 => xs.length ≤ sizeLine ∧ NewT H1 Q xs
theorem pe_tupZ {es : List Expr} {t : TA} {k : Nat} {pos : Pos} (h : PA X es t) : PE X (.Tuple es k pos) (tTupZ t) :=
  ⟨fun pins s σ H Q I hq => wpAny_Tuple_spliced (thn (h.run pos pins s σ H _ I hq) fun us s1 ⟨xs, H1, I1, r, z, q⟩ => ⟨by rw [← r.length]; exact z, pushZ I1 z r q⟩)⟩
theorem call_tupleZ : CallR X (.type "tuple") (fun xs H Q => ∃ p ys, xs = [.ref p] ∧ ((SqL X.K H p ys ∧ NewT H Q ys) ∨ (SqT X.K H p ys ∧ Q (.ref p) H))) := by
  intro pins s σ H xs us Q I r ⟨p, ys, e, h⟩
  subst e
  obtain ⟨u, rfl, rx⟩ := vals1 r
  cases rx
  rcases h with ⟨hq, q⟩ | ⟨hq, q⟩
  · obtain ⟨its, r1, pl, z⟩ := I.list hq
    have len := r1.length
    exact call_tuple_list pl.isList (fun h1 kp => pushZ (s := { s with heap := h1 }) (I.kept (t' := s.toks) kp) z r1 q) (by rw [List.size_toArray]; omega)
  · obtain ⟨its, r1, pl, _⟩ := I.tuple hq
    exact call_tuple_same pl ⟨.ref p, H, I, rfl, q⟩
def rCatZ (K : PySem.W.Frag) : R2 := fun x y H Q => ∃ a b xs ys, x = .ref a ∧ y = .ref b ∧ SqT K H a xs ∧ SqT K H b ys ∧ xs.length + ys.length ≤ sizeLine ∧ (xs = [] → Q (.ref b) H) ∧ (xs ≠ [] → ys = [] → Q (.ref a) H) ∧ (xs ≠ [] → ys ≠ [] → NewT H Q (xs ++ ys))
theorem op_catZ : OpR X (binaryOp .Add) (rCatZ X.K) := by
  intro pins s σ H x y v u Q I rx ry ⟨a, b, xs, ys, e1, e2, sa, sb, z, q0, q1, q2⟩
  subst e1 e2
  cases rx
  cases ry
  obtain ⟨us, ra, pa, _⟩ := I.tuple sa
  obtain ⟨ws, rb, pb, _⟩ := I.tuple sb
  have la := ra.length
  have lb := rb.length
  by_cases e : xs = []
  · have e' : us = [] := List.eq_nil_of_length_eq_zero (by rw [← la, e]; rfl)
    subst e'
    exact cat_tup0 pa pb ⟨.ref b, H, I, rfl, q0 e⟩
  · have eu : us ≠ [] := fun w => e (List.eq_nil_of_length_eq_zero (by rw [la, w]; rfl))
    exact HT.cat_tup pa pb eu (fun w => ⟨.ref a, H, I, rfl, q1 e (List.eq_nil_of_length_eq_zero (by rw [lb, w]; rfl))⟩)
      (fun w => pushZ I (by rw [List.length_append]; exact z) (ra.append rb) (q2 e fun w2 => w (List.eq_nil_of_length_eq_zero (by rw [← lb, w2]; rfl)))) (by omega)
def rSlZ (K : PySem.W.Frag) : V → Option Int → Option Int → Hp → VK → Prop := fun x lo hi H Q => ∃ a xs, x = .ref a ∧ SqT K H a xs ∧
  (HT.sIx xs.length 0 lo = 0 ∧ HT.sIx xs.length xs.length hi = xs.length → Q (.ref a) H) ∧ (¬ (HT.sIx xs.length 0 lo = 0 ∧ HT.sIx xs.length xs.length hi = xs.length) → NewT H Q (cutV xs lo hi))
theorem sl_tupZ : SlR X (rSlZ X.K) := by
  intro pins s σ H x v vl vu lo hi sl Q I rx hs pl pu ⟨a, xs, e, sq, q1, q2⟩
  subst e
  cases rx
  obtain ⟨us, r, pt, z⟩ := I.tuple sq
  have len : us.toArray.size = xs.length := by rw [List.size_toArray]; exact r.length.symm
  refine ⟨"tuple", _, PyProof.Rows.slot_tuple_getitem.lookup, pt.typeIs, ?_⟩
  by_cases w : HT.sIx xs.length 0 lo = 0 ∧ HT.sIx xs.length xs.length hi = xs.length
  · exact getItem_tuple_whole pt hs pl pu (by rw [len]; exact w) ⟨.ref a, H, I, rfl, q1 w⟩
  · refine HT.getItem_tuple_cut pt hs pl pu (by rw [len]; exact w) ?_ (by rw [len]; exact z)
    rw [len]
    exact pushZ I (Nat.le_trans (cutV_length xs lo hi) z) ((r.drop _).take _) (q2 w)
/-- t * n, t not empty, 2 ≤ n -/
def rMulZ (K : PySem.W.Frag) : R2 := fun x y H Q => ∃ l k xs, x = .ref l ∧ y = .int k ∧ SqT K H l xs ∧ xs ≠ [] ∧ (2 ≤ k ∧ k ≤ 10000 ∧ k.toNat * xs.length ≤ 1000000) ∧ NewT H Q (List.replicate k.toNat xs).flatten
theorem op_mulZ : OpR X (binaryOp .Mult) (rMulZ X.K) := by
  (intro pins s σ H x y v u Q I rx ry h)
  obtain ⟨l, k, xs, rfl, rfl, sq, ne, ⟨k2, k3, lx⟩, q⟩ := h
  cases rx
  obtain ⟨t, rfl⟩ := ry
  obtain ⟨its, r, ⟨⟨cls, dd, data, sl⟩, ho, hc, n, hd⟩, _⟩ := I.tuple sq
  simp only at hc hd
  subst hc hd
  have len := r.length
  have sz : (1000001 : Nat) ≤ sizeLine := by decide
  have ie : its.toArray.isEmpty = false := by
    cases its with
    | nil => exact absurd (List.eq_nil_of_length_eq_zero len) ne
    | cons a b => rfl
  have tot : k.toNat * its.length ≤ 1000000 := by
    rw [← len]
    exact lx
  have asz : its.toArray.size = its.length := by simp
  have totI : ((its.toArray.size : Nat) : Int) * k ≤ 1000000 := by
    rw [asz]
    have e : k = ((k.toNat : Nat) : Int) := by omega
    rw [e, Int.mul_comm]
    rw [← Int.natCast_mul]
    exact Int.ofNat_le.mpr tot
  have fl : (List.foldl (fun x1 x2 => x1 ++ x2) #[] (List.replicate k.toNat its.toArray)).size ≤ sizeLine := by
    rw [L2.size_rep, List.size_toArray, PyProof.Rows.lm_len_rep_flat]
    omega
  have fb : (List.replicate k.toNat xs).flatten.length ≤ sizeLine := by
    rw [PyProof.Rows.lm_len_rep_flat, len]
    omega
  have z0 : (decide (k < -(2 ^ 63)) || decide (k ≥ 2 ^ 63)) = false := Bool.or_eq_false_iff.mpr ⟨decide_eq_false (by omega), decide_eq_false (by omega)⟩
  have z1 : (its.toArray.isEmpty || k == 1) = false := Bool.or_eq_false_iff.mpr ⟨ie, beq_eq_false_iff_ne.mpr (by omega)⟩
  have z2 : (decide (k ≤ 0) || its.toArray.isEmpty) = false := Bool.or_eq_false_iff.mpr ⟨decide_eq_false (by omega), ie⟩
  have z4 : Builtin.Tuple.tupleTooMany (((its.toArray.size : Nat) : Int) * k) = false := by
    unfold Builtin.Tuple.tupleTooMany
    exact decide_eq_false (by omega)
  refine wpAny_binaryOp_repeat_ref (T := "tuple") (U := "int") (by decide) ⟨_, ho, rfl⟩ (fun s' => typeIs_int s' k t) noFill_tuple_mul F.fills_int_mul F.slot_int_rmul repeat_tuple F.slot_int_index.lookup
    (call_meets F.slot_int_rmul (typeIs_int s k t) F.entry_int_rmul (F.args_int_rmul_2 _ _) (int_rmul_tuple k t l its.toArray n dd sl) ⟨ho, rfl, ⟨_, ho, rfl⟩, call_meets F.slot_tuple_mul ⟨_, ho, rfl⟩ F.entry_tuple_mul (F.args_tuple_mul_2 _ _) (tuple_mulW l its.toArray n dd sl k t z0 z1 z2 (by omega) z4 fl) ⟨ho, ?_⟩⟩)
  rw [L2.size_rep]
  exact pushZ I fb (r.rep k.toNat) q
def tTupRevZ (K : PySem.W.Frag) (te : TE) : TE := fun σ H Q => te σ H fun v H1 => ∃ (a : Addr) (xs : List V), v = .ref a ∧ SqL K H1 a xs ∧ NewT H1 Q xs.reverse
end
/-! ### zip, enumerate: the items -/
section
variable {P : Program} {w : World} {K : PySem.W.Frag} {elts : List Expr} {kk : Nat} {tpos : Pos}
/-- the same walk, its new pairs known whole -/
def ItzZ (K : PySem.W.Frag) (a b : Addr) : It := { Itz K a b with yld := fun i H v G => ∃ T o x y, v = .ref T ∧ H T = none ∧ o.dict = none ∧ G = upd H T (.frz o (.tup [x, y])) ∧ (∀ xs, SqL K H a xs → xs[i]? = some x) ∧ ∀ ys, SqL K H b ys → ys[i]? = some y }
def ItzTZ (K : PySem.W.Frag) (a b : Addr) : It := { RZ.ItzT K a b with yld := fun i H v G => ∃ T o x y, v = .ref T ∧ H T = none ∧ o.dict = none ∧ G = upd H T (.frz o (.tup [x, y])) ∧ (∀ xs, SqT K H a xs → xs[i]? = some x) ∧ ∀ ys, SqT K H b ys → ys[i]? = some y }
def IteZ (K : PySem.W.Frag) (a : Addr) : It := { Ite K a with yld := fun i H v G => ∃ T o x, v = .ref T ∧ H T = none ∧ o.dict = none ∧ G = upd H T (.frz o (.tup [.int (i : Nat), x])) ∧ ∀ xs, SqL K H a xs → xs[i]? = some x }
theorem five_lt {h : Heap} {z TI TO i1 i2 : Addr} {o1 o2 o3 o4 o5 : Obj} (g1 : h.get? z = some o1) (g2 : h.get? TI = some o2) (g3 : h.get? TO = some o3) (g4 : h.get? i1 = some o4) (g5 : h.get? i2 = some o5) {c : Addr} (m : c ∈ [z, TI, TO, i1, i2]) : c ≠ h.objs.size := by
  simp only [List.mem_cons, List.not_mem_nil, or_false] at m
  rcases m with rfl | rfl | rfl | rfl | rfl <;> exact Nat.ne_of_lt (Heap.lt_size (by assumption))
theorem turn_zipZ {a b z TI TO i1 i2 : Addr} (D : ZipApart z TI TO i1 i2 a b) :
    Turn P w K (.Tuple elts kk tpos) (ItzZ K a b) [z, TI, TO, i1, i2] z (fun i h => IsZip h z TI TO .none ∧ IsPair h TI (.ref i1) (.ref i2) ∧ (∃ x y, IsPair h TO x y) ∧ h.IsListIter i1 a i ∧ h.IsListIter i2 b i) := by
  have T0 := turn_zip (P := P) (w := w) (K := K) (elts := elts) (kk := kk) (tpos := tpos) D
  refine { mem := T0.mem, obj := T0.obj, keep := T0.keep, item := ?_, done := T0.done, self := T0.self }
  rintro X rfl rfl rfl hcalm i pins s σ H E I fp ⟨gz, gI, ⟨x0, y0, gO⟩, g1, g2⟩ ⟨xs, ys, x, y, sx, sy, hx, hy⟩
  obtain ⟨us, rx, px, _⟩ := I.list sx
  obtain ⟨ws, ry, py, _⟩ := I.list sy
  obtain ⟨u, hu, ru⟩ := rx.get hx
  obtain ⟨v, hv, rv⟩ := ry.get hy
  obtain ⟨o4, g4, _⟩ := id g1
  obtain ⟨o5, g5, _⟩ := id g2
  have out := fun c m => five_lt gz gI gO g4 g5 (c := c) m
  refine wpAny_pyNext_zip_item D gz gI gO g1 g2 px.isList py.isList (x := u) (y := v) (by simpa using hu) (by simpa using hv) fun h1 z1 t1 j1 j2 gT _ kp => ⟨_, rfl, wpAny_letOwnedTupleGo_zip (s := { s with heap := h1 }) z1 fun h2 z2 sb => ?_⟩
  have nz : s.heap.objs.size ≠ z := fun e => out z (List.mem_cons_self ..) e.symm
  have gT2 := (sb.2 _ nz).trans gT
  have I1 := I.turnedNew (t' := s.toks) (ch := [z, TI, TO, i1, i2]) (h' := h2) (ob := .frz _ (.tup [x, y])) (fun c o hb q => (sb.2 c fun e => hb (by rw [e]; simp)).trans (kp c o (fun e => hb (by rw [e]; simp)) (fun e => hb (by rw [e]; simp)) (fun e => hb (by rw [e]; simp)) (fun e => hb (by rw [e]; simp)) q)) fp (Nat.le_refl _)
    ⟨gT2, (by show 2 ≤ sizeLine; decide), [u, v], .cons ru (.cons rv .nil), _, gT2, rfl, _, rfl⟩
  refine ⟨.ref s.heap.objs.size, _, I1, rfl, ⟨_, _, x, y, rfl, I.hok.fresh (Nat.le_refl _), rfl, rfl, fun l hl => by rw [I.list_inj hl sx]; exact hx, fun l hl => by rw [I.list_inj hl sy]; exact hy⟩, ⟨z2, (sb.2 _ D.TIz).trans (kp _ _ D.TIz D.TITO D.TIi1 D.TIi2 gI), ⟨u, v, (sb.2 _ D.TOz).trans t1⟩, j1.at fun o q => (sb.2 _ D.i1z).trans q, j2.at fun o q => (sb.2 _ D.i2z).trans q⟩, fun c m => ?_⟩
  rw [upd_ne (out c m)]
  exact (fp c m).1
theorem turn_zipTZ {a b z TI TO i1 i2 : Addr} (D : ZipApart z TI TO i1 i2 a b) :
    Turn P w K (.Tuple elts kk tpos) (ItzTZ K a b) [z, TI, TO, i1, i2] z (fun i h => IsZip h z TI TO .none ∧ IsPair h TI (.ref i1) (.ref i2) ∧ (∃ x y, IsPair h TO x y) ∧ h.IsTupleIter i1 a i ∧ h.IsTupleIter i2 b i) := by
  have T0 := RZ.turn_zipT (P := P) (w := w) (K := K) (elts := elts) (kk := kk) (tpos := tpos) D
  refine { mem := T0.mem, obj := T0.obj, keep := T0.keep, item := ?_, done := T0.done, self := T0.self }
  rintro X rfl rfl rfl hcalm i pins s σ H E I fp ⟨gz, gI, ⟨x0, y0, gO⟩, g1, g2⟩ ⟨xs, ys, x, y, sx, sy, hx, hy⟩
  obtain ⟨us, rx, px, _⟩ := I.tuple sx
  obtain ⟨ws, ry, py, _⟩ := I.tuple sy
  obtain ⟨u, hu, ru⟩ := rx.get hx
  obtain ⟨v, hv, rv⟩ := ry.get hy
  obtain ⟨o4, g4, _⟩ := id g1
  obtain ⟨o5, g5, _⟩ := id g2
  have out := fun c m => five_lt gz gI gO g4 g5 (c := c) m
  refine RZ.pyNext_zipT_item D gz gI gO g1 g2 px py (x := u) (y := v) (by simpa using hu) (by simpa using hv) fun h1 z1 t1 j1 j2 gT _ kp => ⟨_, rfl, wpAny_letOwnedTupleGo_zip (s := { s with heap := h1 }) z1 fun h2 z2 sb => ?_⟩
  have nz : s.heap.objs.size ≠ z := fun e => out z (List.mem_cons_self ..) e.symm
  have gT2 := (sb.2 _ nz).trans gT
  have I1 := I.turnedNew (t' := s.toks) (ch := [z, TI, TO, i1, i2]) (h' := h2) (ob := .frz _ (.tup [x, y])) (fun c o hb q => (sb.2 c fun e => hb (by rw [e]; simp)).trans (kp c o (fun e => hb (by rw [e]; simp)) (fun e => hb (by rw [e]; simp)) (fun e => hb (by rw [e]; simp)) (fun e => hb (by rw [e]; simp)) q)) fp (Nat.le_refl _)
    ⟨gT2, (by show 2 ≤ sizeLine; decide), [u, v], .cons ru (.cons rv .nil), _, gT2, rfl, _, rfl⟩
  refine ⟨.ref s.heap.objs.size, _, I1, rfl, ⟨_, _, x, y, rfl, I.hok.fresh (Nat.le_refl _), rfl, rfl, fun l hl => by rw [I.tuple_inj hl sx]; exact hx, fun l hl => by rw [I.tuple_inj hl sy]; exact hy⟩, ⟨z2, (sb.2 _ D.TIz).trans (kp _ _ D.TIz D.TITO D.TIi1 D.TIi2 gI), ⟨u, v, (sb.2 _ D.TOz).trans t1⟩, j1.at fun o q => (sb.2 _ D.i1z).trans q, j2.at fun o q => (sb.2 _ D.i2z).trans q⟩, fun c m => ?_⟩
  rw [upd_ne (out c m)]
  exact (fp c m).1
end
section
variable {X : Cx} {elts : List Expr} {kk : Nat} {tpos : Pos}
def iZipZ (K : PySem.W.Frag) (ta : TA) : TI := fun σ H R => ta σ H fun vs H1 => ∃ a b xs ys, vs = [.ref a, .ref b] ∧ ((SqL K H1 a xs ∧ SqL K H1 b ys ∧ R (ItzZ K a b) H1) ∨ (SqT K H1 a xs ∧ SqT K H1 b ys ∧ R (ItzTZ K a b) H1))
theorem five_ge {n : Nat} {c : Addr} (m : c ∈ [n + 4, n + 2, n + 3, n, n + 1]) : n ≤ (c : Nat) := by
  simp only [List.mem_cons, List.not_mem_nil, or_false] at m
  rcases m with rfl | rfl | rfl | rfl | rfl <;> first | exact Nat.le_refl _ | exact Nat.le_add_right _ _
theorem pi_zipZ {e e2 : Expr} {ta : TA} {p pos : Pos} (hg : Gl X "zip") (hm : X.mg "zip" = none) (ha : PA X [e, e2] ta)
    (n1 : starEach [e, e2] X.env = (false, eval e X.env) :: starEach [e2] X.env := by rfl) (n2 : (backTo pos (starEach [e2] X.env)).any (·.1) = false := by rfl) :
    PI X (.Tuple elts kk tpos) (.Call (.Name "zip" p) [e, e2] [] pos) (iZipZ X.K ta) := by
  refine ⟨fun pins s σ H R I h => Call_ (ld_blt I hg hm PyProof.Rows.boot_zip (PyProof.Rows.callWith_type1 (thn (ha.run pos pins s σ H _ I h) fun us t ⟨vs, G, J, rel, a, b, xs, ys, ev, q⟩ => ?_) n1 n2))⟩
  subst ev
  obtain ⟨u, v, rfl, r1, r2⟩ := vals2 rel
  cases r1
  cases r2
  have fp : ∀ c, c ∈ [t.heap.objs.size + 4, t.heap.objs.size + 2, t.heap.objs.size + 3, t.heap.objs.size, t.heap.objs.size + 1] → FpOk X pins G c := fun c m => J.fpOk (five_ge m) (J.hok.fresh (five_ge m))
  rcases q with ⟨sx, sy, q⟩ | ⟨sx, sy, q⟩
  · obtain ⟨us, rx, px, _⟩ := J.list sx
    obtain ⟨ws, ry, py, _⟩ := J.list sy
    exact call_zip_2 px.isList py.isList fun h1 gz gI gO g1 g2 _ kp => wpAny_pyIter_zip gz ⟨_, _, _, _, G, rfl, J.kept (t' := t.toks) kp, turn_zipZ (PySem.W.ktu_apart t.heap.objs.size a b px.lt py.lt), ⟨gz, gI, ⟨_, _, gO⟩, g1, g2⟩, fp, q⟩
  · obtain ⟨us, rx, px, _⟩ := J.tuple sx
    obtain ⟨ws, ry, py, _⟩ := J.tuple sy
    obtain ⟨o1, g1, _⟩ := id px
    obtain ⟨o2, g2, _⟩ := id py
    exact RZ.call_zipT (show t.heap.IsTuple a us.toArray from px) (show t.heap.IsTuple b ws.toArray from py) fun h1 gz gI gO j1 j2 _ kp => wpAny_pyIter_zip gz ⟨_, _, _, _, G, rfl, J.kept (t' := t.toks) kp, turn_zipTZ (PySem.W.ktu_apart t.heap.objs.size a b (Heap.lt_size g1) (Heap.lt_size g2)), ⟨gz, gI, ⟨_, _, gO⟩, j1, j2⟩, fp, q⟩
def iEnumZ (K : PySem.W.Frag) (ta : TA) : TI := fun σ H R => ta σ H fun vs H1 => ∃ a xs, vs = [.ref a] ∧ SqL K H1 a xs ∧ R (IteZ K a) H1
end
end BX
/-! D2 -/
namespace BX
open PySem PySem.Spec L2

abbrev DE := Ev → (PyData → Ev → Prop) → (Ex → Ev → Prop) → Prop
abbrev DT := Ev → (Bool → Ev → Prop) → (Ex → Ev → Prop) → Prop

/-- an error, as data -/
def ExRep (K : PySem.W.Frag) (mg : Str → Option Value) (F H : Hp) (cls : Value) (d : Option Addr) (ex : Ex) : Prop :=
  mg ex.cls = some cls ∧ ∃ dd, d = some dd ∧ XD K F dd ex
def wish (K : PySem.W.Frag) (mg : Str → Option Value) (B : Base) (R : Ex → Ev → Prop) : WX := fun cls d σ H => ∃ F env ex, Ly K B σ H F env ∧ ExRep K mg F H cls d ex ∧ R ex env
/-- the state's wishes -/
structure At (X : Cx) (W : WX) (B : Base) (σ : L2.St) (H F : Hp) (env : Ev) (R : Ex → Ev → Prop) : Prop where
  ly : Ly X.K B σ H F env
  wi : ∀ cls d σ' H', wish X.K X.mg B R cls d σ' H' → W cls d σ' H'
/-- what is known behind an expression -/
structure Af (X : Cx) (B : Base) (σ : L2.St) (F : Hp) (v : V) (d : PyData) (H' F' : Hp) (env' : Ev) : Prop where
  ly : Ly X.K B σ H' F' env'
  le : Le F F'
  rp : Rp X.K F' v d
def tE (X : Cx) (W : WX) (t : DE) : TE := fun σ H Q => ∃ B F env Qd R, At X W B σ H F env R ∧ t env Qd R ∧ ∀ v d H' F' env', Af X B σ F v d H' F' env' → Qd d env' → Q v H'
def tT (X : Cx) (W : WX) (t : DT) : TT := fun σ H Q => ∃ B F env Qd R, At X W B σ H F env R ∧ t env Qd R ∧ ∀ b H' F' env', Ly X.K B σ H' F' env' → Le F F' → Qd b env' → Q b H'
/-- a new list or dict, not yet data -/
structure AfN (X : Cx) (B : Base) (σ : L2.St) (F : Hp) (v : V) (d : PyData) (H' F' : Hp) (env' : Ev) : Prop where
  ly : Ly X.K B σ H' F' env'
  le : Le F F'
  ow : ∃ p, v = .ref p ∧ F' p = none ∧ B.fr p = none ∧ Ow X.K F' H' p d ∧ ∀ (j : Nat) d', ow env' j = some d' → σ[j]? ≠ some (some (.ref p))
def tN (X : Cx) (W : WX) (t : DE) : TE := fun σ H Q => ∃ B F env Qd R, At X W B σ H F env R ∧ t env Qd R ∧ ∀ v d H' F' env', AfN X B σ F v d H' F' env' → Qd d env' → Q v H'

structure JE (X : Cx) (W : WX) (e : Expr) (t : DE) : Prop where
  pe : PE X e (tE X W t)
structure JN (X : Cx) (W : WX) (e : Expr) (t : DE) : Prop where
  pe : PE X e (tN X W t)
structure JT (X : Cx) (W : WX) (e : Expr) (t : DT) : Prop where
  pt : PT X e (tT X W t)
structure JW (X : Cx) (W : WX) (e : Expr) (t : DT) : Prop where
  pw : PW X e (tT X W t)

section
variable {X : Cx} {W : WX} {B : Base} {σ : L2.St} {H F : Hp} {env : Ev} {R : Ex → Ev → Prop}
theorem PE.imp {e : Expr} {t t' : TE} (h : PE X e t) (k : ∀ σ H Q, t' σ H Q → t σ H Q) : PE X e t' := ⟨fun pins s σ H Q I q => h.run pins s σ H Q I (k _ _ _ q)⟩
theorem PT.imp {e : Expr} {t t' : TT} (h : PT X e t) (k : ∀ σ H Q, t' σ H Q → t σ H Q) : PT X e t' := ⟨fun pins s σ H Q I q => h.run pins s σ H Q I (k _ _ _ q)⟩
theorem PW.imp {e : Expr} {t t' : TT} (h : PW X e t) (k : ∀ σ H Q, t' σ H Q → t σ H Q) : PW X e t' := ⟨fun wh pins s σ H Q I q => h.run wh pins s σ H Q I (k _ _ _ q)⟩
theorem At.go {Qd : PyData → Ev → Prop} {t : DE} (A : At X W B σ H F env R) (h : t env Qd R) {Q : VK} (k : ∀ v d H' F' env', Af X B σ F v d H' F' env' → At X W B σ H' F' env' R → Qd d env' → Q v H') : tE X W t σ H Q :=
  ⟨B, F, env, Qd, R, A, h, fun v d H' F' env' a q => k v d H' F' env' a ⟨a.ly, A.wi⟩ q⟩
theorem At.goT {Qd : Bool → Ev → Prop} {t : DT} (A : At X W B σ H F env R) (h : t env Qd R) {Q : Bool → Hp → Prop} (k : ∀ b H' F' env', Le F F' → At X W B σ H' F' env' R → Qd b env' → Q b H') : tT X W t σ H Q :=
  ⟨B, F, env, Qd, R, A, h, fun b H' F' env' a le q => k b H' F' env' le ⟨a, A.wi⟩ q⟩
theorem At.goN {Qd : PyData → Ev → Prop} {t : DE} (A : At X W B σ H F env R) (h : t env Qd R) {Q : VK} (k : ∀ v d H' F' env', AfN X B σ F v d H' F' env' → At X W B σ H' F' env' R → Qd d env' → Q v H') : tN X W t σ H Q :=
  ⟨B, F, env, Qd, R, A, h, fun v d H' F' env' a q => k v d H' F' env' a ⟨a.ly, A.wi⟩ q⟩
theorem At.af (A : At X W B σ H F env R) {v : V} {d : PyData} (r : Rp X.K F v d) : Af X B σ F v d H F env := ⟨A.ly, Le.refl _, r⟩
/-- the new object becomes data -/
theorem AfN.cool {v : V} {d : PyData} {H' H2 F' : Hp} {env' : Ev} (a : AfN X B σ F v d H' F' env') (c : Cold X.K v H' H2) : ∃ F'', Le F' F'' ∧ Af X B σ F v d H2 F'' env' := by
  obtain ⟨p, rfl, h1, h2, h3, h4⟩ := a.ow
  obtain ⟨u, e1, e2, e3⟩ := h3.cold h1 c
  refine ⟨_, Le.up h1, ?_, a.le.trans (Le.up h1), e3⟩
  rw [e1]
  exact a.ly.cold1 h1 h2 h3.nt h4 e2
theorem AfN.af {v : V} {d : PyData} {H' F' : Hp} {env' : Ev} (a : AfN X B σ F v d H' F' env') (hd : ∃ ds, d = .list ds := by exact ⟨_, rfl⟩) : ∃ F'', Le F' F'' ∧ Af X B σ F v d H' F'' env' := by
  obtain ⟨ds, rfl⟩ := hd
  refine a.cool (.inr ⟨rfl, fun b kvs e z => ?_⟩)
  obtain ⟨p, rfl, _, _, h3, _⟩ := a.ow
  cases e
  cases h3 with
  | lst e _ => rw [e] at z; cases z
def tCold (K : PySem.W.Frag) (t : TE) : TE := fun σ H Q => t σ H fun v H1 => ∀ H2, Cold K v H1 H2 → Q v H2
theorem pe_cold {e : Expr} {t : TE} (h : PE X e t) : PE X e (tCold X.K t) := by
  refine ⟨fun pins s σ H Q I q => thn (h.run pins s σ H _ I q) fun u s1 ⟨v, H1, I1, r, q1⟩ => ?_⟩
  by_cases c : ∃ a kvs, v = .ref a ∧ H1 a = some (.dK kvs)
  · obtain ⟨a, kvs, e, h1⟩ := c
    obtain ⟨_, _, vs, rel, o, es, ep, ho, _⟩ := dk_of I1.hok h1
    have hk : X.K.lookup a = none := by
      cases g : X.K.lookup a with
      | none => rfl
      | some o =>
        have z := (I1.bs a o (I1.mod.kin a o g)).2
        rw [h1] at z
        cases z
    have I2 : Inv X pins σ (upd H1 a (.frz o (.dK kvs))) s1 := I1.write (t' := s1.toks) (x := a) (e := a) (o := .frz o (.dK kvs)) (by rw [h1]; exact True.intro) (.inl rfl) (fun b u _ e => e) ⟨o, ho⟩ ⟨ho, I1.hok a _ h1⟩
    exact ⟨v, _, I2, r, q1 _ (.inl ⟨a, kvs, o, e, hk, h1, rfl⟩)⟩
  · exact ⟨v, H1, I1, r, q1 _ (.inr ⟨rfl, fun a kvs e z => c ⟨a, kvs, e, z⟩⟩)⟩
theorem JN.je {e : Expr} {t : DE} (h : JN X W e t) : JE X W e t := by
  refine ⟨PE.imp (pe_cold h.pe) fun σ H Q ⟨B, F, env, Qd, R, A, q, k⟩ => ⟨B, F, env, Qd, R, A, q, fun v d H' F' env' a z H2 hc => ?_⟩⟩
  obtain ⟨F'', _, a'⟩ := a.cool hc
  exact k v d H2 F'' env' a' z
/-- a new object that was just laid -/
theorem At.laid (A : At X W B σ H F env R) {p : Addr} {o : HO} {d : PyData} (hp : H p = none) (r : Ow X.K F (upd H p o) p d) : AfN X B σ F (.ref p) d (upd H p o) F env :=
  ⟨A.ly.newO hp, Le.refl _, p, rfl, A.ly.sub.free hp, A.ly.keep.free hp, r, fun j d' e z => by
    obtain ⟨c, q1, _, _, q4⟩ := A.ly.own j d' e
    obtain ⟨o, q5⟩ := q4.ob
    rw [z] at q1; cases q1
    rw [hp] at q5; cases q5⟩
theorem At.laidT (A : At X W B σ H F env R) {p : Addr} {o : Obj} {xs : List V} {ds : List PyData} (hp : H p = none) (ho : o.dict = none) (r : RpAll X.K F xs ds) : Af X B σ F (.ref p) (.tuple ds) (upd H p (.frz o (.tup xs))) (upd F p (.frz o (.tup xs))) env :=
  ⟨A.ly.newD hp, Le.up (A.ly.sub.free hp), .tup (SqD.of ho upd_same) (r.le (Le.up (A.ly.sub.free hp)))⟩

/-! ### names, constants -/
def dVar (i : Nat) : DE := fun env Q _ => match env[i]? with
  | some (.v d) => Q d env
  | some (.o d) => Q d (env.set i (.v d))
  | _ => False
def dC (d : PyData) : DE := fun env Q _ => Q d env
theorem j_var {e : Expr} (i : Nat) (h : PE X e (tVar i)) : JE X W e (dVar i) := by
  refine ⟨PE.imp (pe_cold h) fun σ H Q ⟨B, F, env, Qd, R, A, q, k⟩ => ?_⟩
  unfold dVar at q
  split at q
  · rename_i d e
    obtain ⟨x, h1, h2⟩ := A.ly.val i d e
    refine ⟨x, h1, fun H2 c => ?_⟩
    rcases c with ⟨a, kvs, o, e1, e0, e2, _⟩ | ⟨e1, _⟩
    · exfalso
      subst e1
      cases h2 with
      | lst s _ => rw [A.ly.sub _ _ s] at e2; cases e2
      | tup s _ =>
        rcases s with ⟨o, s, _⟩ | ⟨o, its, n, s, _⟩
        · rw [A.ly.sub _ _ s] at e2; cases e2
        · rw [e0] at s; cases s
      | dct s _ => rw [A.ly.sub _ _ s] at e2; cases e2
    · rw [e1]
      exact k x d H F env (A.af h2) q
  · rename_i d e
    obtain ⟨a, h1, h2⟩ := A.ly.freeze e
    refine ⟨_, h1, fun H2 c => ?_⟩
    obtain ⟨F', le, r, L⟩ := h2 H2 c
    exact k _ d H2 F' _ ⟨L, le, r⟩ q
  · exact q.elim
theorem j_const {e : Expr} {v : V} {d : PyData} (h : PE X e (tC v)) (r : ∀ F, Rp X.K F v d) : JE X W e (dC d) :=
  ⟨PE.imp h fun σ H Q ⟨B, F, env, Qd, R, A, q, k⟩ => k v d H F env (A.af (r F)) q⟩
theorem j_int {i j pos} : JE X W (.Constant (.int i) j pos) (dC (.int i)) := j_const pe_int fun _ => .int i
theorem j_bl {b j pos} : JE X W (.Constant (.bool b) j pos) (dC (.bool b)) := j_const pe_bl fun _ => .bl b
theorem j_non {j pos} : JE X W (.Constant .none j pos) (dC .none) := j_const pe_non fun _ => .non
theorem j_str {x j pos} : JE X W (.Constant (.str x) j pos) (dC (.str x)) := j_const pe_str fun _ => .str x

/-! ### operators -/
/-- what an operator does to data -/
structure OpS (X : Cx) (g : Value → Value → Sem Value) (f : PyData → PyData → (PyData → Prop) → Prop) : Prop where
  go : ∃ r : R2, OpR X g r ∧ ∀ (W : WX) (B : Base) (σ : L2.St) (H F : Hp) (env : Ev) (R : Ex → Ev → Prop) (x y : V) (dx dy : PyData) (k : PyData → Prop) (Q : VK), At X W B σ H F env R → Rp X.K F x dx → Rp X.K F y dy → f dx dy k →
    (∀ v d H' F', Af X B σ F v d H' F' env → k d → Q v H') → r x y H Q
theorem OpS.or {g : Value → Value → Sem Value} {f f' h : PyData → PyData → (PyData → Prop) → Prop} (a : OpS X g f) (b : OpS X g f') (c : ∀ x y k, h x y k → f x y k ∨ f' x y k) : OpS X g h := by
  obtain ⟨r, h1, h2⟩ := a.go
  obtain ⟨r', h1', h2'⟩ := b.go
  refine ⟨fun x y H Q => r x y H Q ∨ r' x y H Q, fun pins s σ H x y v u Q I rx ry z => ?_, fun W B σ H F env R x y dx dy k Q A rx ry q z => ?_⟩
  · rcases z with z | z
    · exact h1 pins s σ H x y v u Q I rx ry z
    · exact h1' pins s σ H x y v u Q I rx ry z
  · rcases c _ _ _ q with q | q
    · exact .inl (h2 W B σ H F env R x y dx dy k Q A rx ry q z)
    · exact .inr (h2' W B σ H F env R x y dx dy k Q A rx ry q z)
def dBin (f : PyData → PyData → (PyData → Prop) → Prop) (ta tb : DE) : DE := fun env Q R => ta env (fun x env1 => tb env1 (fun y env2 => f x y fun z => Q z env2) R) R
theorem bin_go {f : PyData → PyData → (PyData → Prop) → Prop} {ta tb : DE} {r : R2}
    (h : ∀ (W : WX) (B : Base) (σ : L2.St) (H F : Hp) (env : Ev) (R : Ex → Ev → Prop) (x y : V) (dx dy : PyData) (k : PyData → Prop) (Q : VK), At X W B σ H F env R → Rp X.K F x dx → Rp X.K F y dy → f dx dy k → (∀ v d H' F', Af X B σ F v d H' F' env → k d → Q v H') → r x y H Q) :
    ∀ σ H Q, tE X W (dBin f ta tb) σ H Q → tOp r (tE X W ta) (tE X W tb) σ H Q := fun σ H Q ⟨B, F, env, Qd, R, A, q, k⟩ =>
  A.go (t := ta) q fun v1 d1 H1 F1 env1 a1 A1 q1 => A1.go (t := tb) q1 fun v2 d2 H2 F2 env2 a2 A2 q2 =>
    h W B σ H2 F2 env2 R v1 v2 d1 d2 _ Q A2 (a1.rp.le a2.le) a2.rp q2 fun v d H3 F3 a3 q3 => k v d H3 F3 env2 ⟨a3.ly, (a1.le.trans a2.le).trans a3.le, a3.rp⟩ q3
theorem j_bin {a b : Expr} {ta tb : DE} {pos : Pos} {op : Operator} {f : PyData → PyData → (PyData → Prop) → Prop} (o : OpS X (binaryOp op) f) (ha : JE X W a ta) (hb : JE X W b tb) : JE X W (.BinOp a op b pos) (dBin f ta tb) := by
  obtain ⟨r, h1, h2⟩ := o.go
  exact ⟨PE.imp (pe_op h1 ha.pe hb.pe) (bin_go h2)⟩
theorem j_cmp {a b : Expr} {ta tb : DE} {pos : Pos} {op : CmpOp} {f : PyData → PyData → (PyData → Prop) → Prop} (o : OpS X (compareOp op) f) (ha : JE X W a ta) (hb : JE X W b tb) (hm : behindInMarks op b = false := by rfl) : JE X W (.Compare a [op] [b] pos) (dBin f ta tb) := by
  obtain ⟨r, h1, h2⟩ := o.go
  exact ⟨PE.imp (pe_cmpR h1 ha.pe hb.pe hm) (bin_go h2)⟩

/-! ### truth -/
def truth : PyData → Bool
  | .none => false
  | .bool b => b
  | .int i => i != 0
  | .str x => x.cps.size != 0
  | .list xs => !xs.isEmpty
  | .tuple xs => !xs.isEmpty
  | .dict ks => !ks.isEmpty
/-- what is needed to ask for the truth -/
def truthOk : PyData → Prop
  | .str x => x.length ≤ sizeLine
  | .dict _ => False
  | _ => True
theorem truV_of {K : PySem.W.Frag} {F H : Hp} (l : Le F H) {x : V} {d : PyData} (r : Rp K F x d) (ok : truthOk d) : TruV K x H (truth d) := by
  cases r with
  | non => rfl
  | bl b => rfl
  | int i => rfl
  | str y => exact ⟨ok, by
      show (y.cps.size != 0) = (((y.length : Nat) : Int) != 0)
      have e : y.length = y.cps.size := rfl
      rw [e]
      by_cases h : y.cps.size = 0
      · rw [h]; rfl
      · have h' : ((y.cps.size : Nat) : Int) ≠ 0 := by omega
        rw [bne_iff_ne.mpr h, bne_iff_ne.mpr h']⟩
  | lst s a => exact .inl ⟨_, SqL.of (l _ _ s), by
      have := a.length
      cases a <;> rfl⟩
  | tup s a => exact .inr (.inl ⟨_, l.sqT s, by cases a <;> rfl⟩)
  | dct s a => exact ok.elim
def dTru (t : DE) : DT := fun env Q R => t env (fun d env1 => truthOk d ∧ Q (truth d) env1) R
theorem j_tru {e : Expr} {t : DE} (h : JE X W e t) (hg : ∀ (whole : Sem Value), PySem.isTrue e X.env whole = (do
      let v ← whole
      standAt e.pos
      holding [v] (truthy v)) := by intro _; rfl) : JT X W e (dTru t) :=
  ⟨PT.imp (pt_truth h.pe hg) fun σ H Q ⟨B, F, env, Qd, R, A, q, k⟩ => A.go (t := t) q fun v d H1 F1 env1 a A1 q1 => ⟨truth d, truV_of a.ly.sub a.rp q1.1, k _ H1 F1 env1 a.ly a.le q1.2⟩⟩
def dNotT (t : DT) : DT := fun env Q R => t env (fun b => Q (!b)) R
theorem j_notT {e : Expr} {t : DT} {pos : Pos} (h : JT X W e t) : JT X W (.UnaryOp .Not e pos) (dNotT t) :=
  ⟨PT.imp (pt_not h.pt) fun σ H Q ⟨B, F, env, Qd, R, A, q, k⟩ => A.goT (t := t) q fun b H1 F1 env1 le A1 q1 => k (!b) H1 F1 env1 A1.ly le q1⟩
def dAndT (t u : DT) : DT := fun env Q R => t env (fun b env1 => if b = true then u env1 Q R else Q false env1) R
def dOrT (t u : DT) : DT := fun env Q R => t env (fun b env1 => if b = true then Q true env1 else u env1 Q R) R
theorem j_andT {a b : Expr} {rest : List Expr} {t u : DT} {pos : Pos} (h : JT X W a t) (h' : JW X W (.BoolOp .And (b :: rest) pos) u) : JW X W (.BoolOp .And (a :: b :: rest) pos) (dAndT t u) :=
  ⟨PW.imp (pw_and h.pt h'.pw) fun σ H Q ⟨B, F, env, Qd, R, A, q, k⟩ => A.goT (t := t) q fun b H1 F1 env1 le A1 q1 => by
    cases b with
    | true => exact iteT (A1.goT (t := u) q1 fun b2 H2 F2 env2 le2 A2 q2 => k b2 H2 F2 env2 A2.ly (le.trans le2) q2)
    | false => exact iteF (k false H1 F1 env1 A1.ly le q1)⟩
theorem j_orT {a b : Expr} {rest : List Expr} {t u : DT} {pos : Pos} (h : JT X W a t) (h' : JW X W (.BoolOp .Or (b :: rest) pos) u) : JW X W (.BoolOp .Or (a :: b :: rest) pos) (dOrT t u) :=
  ⟨PW.imp (pw_or h.pt h'.pw) fun σ H Q ⟨B, F, env, Qd, R, A, q, k⟩ => A.goT (t := t) q fun b H1 F1 env1 le A1 q1 => by
    cases b with
    | true => exact iteT (k true H1 F1 env1 A1.ly le q1)
    | false => exact iteF (A1.goT (t := u) q1 fun b2 H2 F2 env2 le2 A2 q2 => k b2 H2 F2 env2 A2.ly (le.trans le2) q2)⟩
theorem j_and1 {a : Expr} {t : DT} {pos : Pos} (h : JT X W a t) : JW X W (.BoolOp .And [a] pos) t := ⟨pw_and1 h.pt⟩
theorem j_or1 {a : Expr} {t : DT} {pos : Pos} (h : JT X W a t) : JW X W (.BoolOp .Or [a] pos) t := ⟨pw_or1 h.pt⟩
theorem JW.jt {e : Expr} {t : DT} (h : JW X W e t) : JT X W e t := ⟨h.pw.pt⟩
/-! and, or, not as values -/
def dAnd (ta tb : DE) : DE := fun env Q R => ta env (fun x env1 => truthOk x ∧ if truth x = true then tb env1 Q R else Q x env1) R
def dOr (ta tb : DE) : DE := fun env Q R => ta env (fun x env1 => truthOk x ∧ if truth x = true then Q x env1 else tb env1 Q R) R
def dNot (ta : DE) : DE := fun env Q R => ta env (fun x env1 => truthOk x ∧ Q (.bool (!truth x)) env1) R
theorem j_and {a b : Expr} {rest : List Expr} {ta tb : DE} {pos : Pos} (ha : JE X W a ta) (hb : JE X W (.BoolOp .And (b :: rest) pos) tb) : JE X W (.BoolOp .And (a :: b :: rest) pos) (dAnd ta tb) :=
  ⟨PE.imp (pe_andT ha.pe hb.pe) fun σ H Q ⟨B, F, env, Qd, R, A, q, k⟩ => A.go (t := ta) q fun v d H1 F1 env1 a A1 ⟨ok, q1⟩ => ⟨truth d, truV_of a.ly.sub a.rp ok, by
    by_cases c : truth d = true
    · rw [if_pos c] at q1 ⊢
      exact A1.go (t := tb) q1 fun v2 d2 H2 F2 env2 a2 A2 q2 => k v2 d2 H2 F2 env2 ⟨a2.ly, a.le.trans a2.le, a2.rp⟩ q2
    · rw [if_neg c] at q1 ⊢
      exact k v d H1 F1 env1 a q1⟩⟩
theorem j_not {a : Expr} {ta : DE} {pos : Pos} (ha : JE X W a ta) : JE X W (.UnaryOp .Not a pos) (dNot ta) :=
  ⟨PE.imp (pe_notT ha.pe) fun σ H Q ⟨B, F, env, Qd, R, A, q, k⟩ => A.go (t := ta) q fun v d H1 F1 env1 a A1 ⟨ok, q1⟩ => ⟨truth d, truV_of a.ly.sub a.rp ok, k _ _ H1 F1 env1 ⟨a.ly, a.le, .bl _⟩ q1⟩⟩
/-- the last one of and, or -/
theorem j_andZ {a : Expr} {ta : DE} {pos : Pos} (ha : JE X W a ta) : JE X W (.BoolOp .And [a] pos) ta := ⟨pe_one ha.pe⟩
/-! a if c else b -/
def dIte (t : DT) (ta tb : DE) : DE := fun env Q R => t env (fun c env1 => if c = true then ta env1 Q R else tb env1 Q R) R
theorem j_ite {c a b : Expr} {t : DT} {ta tb : DE} {pos : Pos} (hc : JT X W c t) (ha : JE X W a ta) (hb : JE X W b tb) : JE X W (.IfExp c a b pos) (dIte t ta tb) :=
  ⟨PE.imp (pe_ifExp hc.pt ha.pe hb.pe) fun σ H Q ⟨B, F, env, Qd, R, A, q, k⟩ => A.goT (t := t) q fun c H1 F1 env1 le A1 q1 => by
    cases c with
    | true => exact iteT (A1.go (t := ta) q1 fun v2 d2 H2 F2 env2 a2 A2 q2 => k v2 d2 H2 F2 env2 ⟨a2.ly, le.trans a2.le, a2.rp⟩ q2)
    | false => exact iteF (A1.go (t := tb) q1 fun v2 d2 H2 F2 env2 a2 A2 q2 => k v2 d2 H2 F2 env2 ⟨a2.ly, le.trans a2.le, a2.rp⟩ q2)⟩
/-! a < b < c -/
def dChain (f f' : PyData → PyData → (PyData → Prop) → Prop) (ta tb tc : DE) : DE := fun env Q R => ta env (fun x env1 => tb env1 (fun y env2 => f x y fun z => ∃ k, z = .bool k ∧ if k = true then tc env2 (fun w env3 => f' y w fun z2 => Q z2 env3) R else Q (.bool false) env2) R) R
end
end BX
/-! D3 -/
namespace BX
open PySem PySem.Spec L2
section
variable {X : Cx}
/-! ### arithmetic -/
theorem opS_int {g : Value → Value → Sem Value} {C : Int → Int → Prop} {gV : Int → Int → V} (gD : Int → Int → PyData) (h : OpR X g (rI C gV)) (r : ∀ i j K F, Rp K F (gV i j) (gD i j)) :
    OpS X g (fun x y k => ∃ i j, x = .int i ∧ y = .int j ∧ C i j ∧ k (gD i j)) := by
  refine ⟨_, h, fun W B σ H F env R x y dx dy k Q A rx ry q z => ?_⟩
  obtain ⟨i, j, rfl, rfl, c, q⟩ := q
  cases rx
  cases ry
  exact ⟨i, j, rfl, rfl, c, z _ _ H F (A.af (r i j _ _)) q⟩
theorem opS_int0 {g : Value → Value → Sem Value} {gV : Int → Int → V} (gD : Int → Int → PyData) (h : OpR X g (rI0 gV)) (r : ∀ i j K F, Rp K F (gV i j) (gD i j)) :
    OpS X g (fun x y k => ∃ i j, x = .int i ∧ y = .int j ∧ k (gD i j)) := by
  refine ⟨_, h, fun W B σ H F env R x y dx dy k Q A rx ry q z => ?_⟩
  rcases q with ⟨i, j, rfl, rfl, q⟩
  cases rx
  cases ry
  exact ⟨i, j, rfl, rfl, z _ _ H F (A.af (r i j _ _)) q⟩
def addD : PyData → PyData → (PyData → Prop) → Prop
  | .int i, .int j, k => k (.int (i + j))
  | .str x, .str y, k => x.length + y.length ≤ sizeLine ∧ k (.str (x ++ y))
  | .tuple xs, .tuple ys, k => xs.length + ys.length ≤ sizeLine ∧ k (.tuple (xs ++ ys))
  | .list xs, .list ys, k => xs.length + ys.length ≤ sizeLine ∧ k (.list (xs ++ ys))
  | _, _, _ => False
theorem opS_addStr : OpS X (binaryOp .Add) (fun x y k => ∃ i j, x = .str i ∧ y = .str j ∧ i.length + j.length ≤ sizeLine ∧ k (.str (i ++ j))) := by
  refine ⟨_, op_add_str, fun W B σ H F env R x y dx dy k Q A rx ry q z => ?_⟩
  obtain ⟨i, j, rfl, rfl, c, q⟩ := q
  cases rx
  cases ry
  exact ⟨i, j, rfl, rfl, c, z _ _ H F (A.af (.str _)) q⟩
theorem opS_addTup : OpS X (binaryOp .Add) (fun x y k => ∃ i j, x = .tuple i ∧ y = .tuple j ∧ i.length + j.length ≤ sizeLine ∧ k (.tuple (i ++ j))) := by
  refine ⟨_, op_catZ, fun W B σ H F env R x y dx dy k Q A rx ry q z => ?_⟩
  obtain ⟨i, j, rfl, rfl, c, q⟩ := q
  cases rx with
  | tup s r =>
  cases ry with
  | tup s' r' =>
  rename_i a xs b ys
  refine ⟨a, b, xs, ys, rfl, rfl, A.ly.sub.sqT s, A.ly.sub.sqT s', by rw [r.length, r'.length]; exact c, fun e => ?_, fun e e' => ?_, fun e e' p ob hp ho => ?_⟩
  · subst e
    cases r
    exact z _ _ H F (A.af (.tup s' r')) q
  · subst e'
    cases r'
    rw [List.append_nil] at q
    exact z _ _ H F (A.af (.tup s r)) q
  · exact z _ _ _ _ (A.laidT hp ho (r.append r')) q
theorem opS_addList : OpS X (binaryOp .Add) (fun x y k => ∃ i j, x = .list i ∧ y = .list j ∧ i.length + j.length ≤ sizeLine ∧ k (.list (i ++ j))) := by
  refine ⟨_, op_cat, fun W B σ H F env R x y dx dy k Q A rx ry q z => ?_⟩
  obtain ⟨i, j, rfl, rfl, c, q⟩ := q
  cases rx with
  | lst s r =>
  cases ry with
  | lst s' r' =>
  rename_i a xs b ys
  refine ⟨a, b, xs, ys, rfl, rfl, A.ly.sub _ _ s, A.ly.sub _ _ s', by rw [r.length, r'.length]; exact c, fun p hp => ?_⟩
  obtain ⟨F', le, af⟩ := (A.laid hp (.lst upd_same (r.append r'))).af
  exact z _ _ _ _ af q
theorem o_add : OpS X (binaryOp .Add) addD :=
  (((opS_int0 (fun i j => .int (i + j)) op_add fun _ _ _ _ => .int _).or (h := fun x y k => (∃ i j, x = .int i ∧ y = .int j ∧ k (.int (i + j))) ∨ ∃ i j, x = .str i ∧ y = .str j ∧ i.length + j.length ≤ sizeLine ∧ k (.str (i ++ j))) opS_addStr fun _ _ _ h => h).or
    (h := fun x y k => ((∃ i j, x = .int i ∧ y = .int j ∧ k (.int (i + j))) ∨ ∃ i j, x = .str i ∧ y = .str j ∧ i.length + j.length ≤ sizeLine ∧ k (.str (i ++ j))) ∨ ∃ i j, x = .tuple i ∧ y = .tuple j ∧ i.length + j.length ≤ sizeLine ∧ k (.tuple (i ++ j))) opS_addTup fun _ _ _ h => h).or opS_addList fun x y k h => by
      unfold addD at h
      split at h
      · exact .inl (.inl (.inl ⟨_, _, rfl, rfl, h⟩))
      · exact .inl (.inl (.inr ⟨_, _, rfl, rfl, h⟩))
      · exact .inl (.inr ⟨_, _, rfl, rfl, h⟩)
      · exact .inr ⟨_, _, rfl, rfl, h⟩
      · exact h.elim
def int2 (C : Int → Int → Prop) (g : Int → Int → PyData) : PyData → PyData → (PyData → Prop) → Prop
  | .int i, .int j, k => C i j ∧ k (g i j)
  | _, _, _ => False
theorem int2_of {C : Int → Int → Prop} {g : Int → Int → PyData} {x y : PyData} {k : PyData → Prop} (h : int2 C g x y k) : ∃ i j, x = .int i ∧ y = .int j ∧ C i j ∧ k (g i j) := by
  unfold int2 at h
  split at h
  · exact ⟨_, _, rfl, rfl, h⟩
  · exact h.elim
theorem OpS.imp {g : Value → Value → Sem Value} {f h : PyData → PyData → (PyData → Prop) → Prop} (a : OpS X g f) (c : ∀ x y k, h x y k → f x y k) : OpS X g h := by
  obtain ⟨r, h1, h2⟩ := a.go
  exact ⟨r, h1, fun W B σ H F env R x y dx dy k Q A rx ry q z => h2 W B σ H F env R x y dx dy k Q A rx ry (c _ _ _ q) z⟩
def subD := int2 (fun _ _ => True) fun i j => .int (i - j)
theorem o_sub : OpS X (binaryOp .Sub) subD := (opS_int0 (fun i j => .int (i - j)) op_sub fun _ _ _ _ => .int _).imp fun x y k h => let ⟨i, j, a, b, _, d⟩ := int2_of h; ⟨i, j, a, b, d⟩
def modD := int2 (fun _ j => j ≠ 0) fun i j => .int (i.fmod j)
theorem o_mod : OpS X (binaryOp .Mod) modD := (opS_int (fun i j => .int (i.fmod j)) op_modN fun _ _ _ _ => .int _).imp fun x y k h => int2_of h
def fdivD := int2 CDivN fun i j => .int (i.fdiv j)
theorem o_fdiv : OpS X (binaryOp .FloorDiv) fdivD := (opS_int (fun i j => .int (i.fdiv j)) op_fdivN fun _ _ _ _ => .int _).imp fun x y k h => int2_of h
def powD := int2 CPow fun i j => .int (i ^ j.toNat)
theorem o_pow : OpS X (binaryOp .Pow) powD := (opS_int (fun i j => .int (i ^ j.toNat)) op_pow fun _ _ _ _ => .int _).imp fun x y k h => int2_of h
/-- products: ints; a list and an int -/
def mulD : PyData → PyData → (PyData → Prop) → Prop
  | .int i, .int j, k => CMul i j ∧ k (.int (i * j))
  | .list xs, .int n, k => (-(2 ^ 63) ≤ n ∧ n < 2 ^ 63 ∧ xs.length * n.toNat ≤ sizeLine) ∧ k (.list (List.replicate n.toNat xs).flatten)
  | _, _, _ => False
theorem RpAll.flat {K : PySem.W.Frag} {F : Hp} {vs : List V} {ds : List PyData} (r : RpAll K F vs ds) : ∀ n, RpAll K F (List.replicate n vs).flatten (List.replicate n ds).flatten
  | 0 => .nil
  | n + 1 => by
    rw [List.replicate_succ, List.replicate_succ]; rw [List.flatten_cons, List.flatten_cons]
    exact r.append (RpAll.flat r n)
theorem opS_mulList : OpS X (binaryOp .Mult) (fun x y k => ∃ i n, x = .list i ∧ y = .int n ∧ (-(2 ^ 63) ≤ n ∧ n < 2 ^ 63 ∧ i.length * n.toNat ≤ sizeLine) ∧ k (.list (List.replicate n.toNat i).flatten)) := by
  refine ⟨_, op_rep, fun W B σ H F env R x y dx dy k Q A rx ry q z => ?_⟩
  obtain ⟨i, n, rfl, rfl, ⟨c1, c2, c3⟩, q⟩ := q
  cases rx with
  | lst s r =>
  cases ry
  rename_i a xs
  refine ⟨a, n, xs, rfl, rfl, A.ly.sub _ _ s, c1, c2, by rw [r.length]; exact c3, fun p hp => ?_⟩
  obtain ⟨F', le, af⟩ := (A.laid hp (.lst upd_same (r.flat n.toNat))).af
  exact z _ _ _ _ af q
theorem o_mul : OpS X (binaryOp .Mult) mulD := (opS_int (fun i j => .int (i * j)) op_mul fun _ _ _ _ => .int _).or opS_mulList fun x y k h => by
  unfold mulD at h
  split at h
  · exact .inl ⟨_, _, rfl, rfl, h⟩
  · exact .inr ⟨_, _, rfl, rfl, h⟩
  · exact h.elim

/-! ### comparisons -/
def ltD := int2 (fun _ _ => True) fun i j => .bool (decide (i < j))
def leD := int2 (fun _ _ => True) fun i j => .bool (decide (i ≤ j))
def gtD := int2 (fun _ _ => True) fun i j => .bool (decide (j < i))
def geD := int2 (fun _ _ => True) fun i j => .bool (decide (j ≤ i))
theorem o_lt : OpS X (compareOp .Lt) ltD := (opS_int0 (fun i j => .bool (decide (i < j))) op_lt fun _ _ _ _ => .bl _).imp fun x y k h => let ⟨i, j, a, b, _, d⟩ := int2_of h; ⟨i, j, a, b, d⟩
theorem o_le : OpS X (compareOp .LtE) leD := (opS_int0 (fun i j => .bool (decide (i ≤ j))) op_le fun _ _ _ _ => .bl _).imp fun x y k h => let ⟨i, j, a, b, _, d⟩ := int2_of h; ⟨i, j, a, b, d⟩
theorem o_gt : OpS X (compareOp .Gt) gtD := (opS_int0 (fun i j => .bool (decide (j < i))) op_gt fun _ _ _ _ => .bl _).imp fun x y k h => let ⟨i, j, a, b, _, d⟩ := int2_of h; ⟨i, j, a, b, d⟩
theorem o_ge : OpS X (compareOp .GtE) geD := (opS_int0 (fun i j => .bool (decide (j ≤ i))) op_ge fun _ _ _ _ => .bl _).imp fun x y k h => let ⟨i, j, a, b, _, d⟩ := int2_of h; ⟨i, j, a, b, d⟩
/-- == of what needs no look into it -/
def scalD : PyData → PyData → Bool
  | .none, .none | .none, .int _ | .int _, .none | .none, .bool _ | .bool _, .none | .none, .str _ | .str _, .none => true
  | .int _, .int _ | .bool _, .bool _ | .str _, .str _ => true
  | .int _, .str _ | .str _, .int _ | .bool _, .str _ | .str _, .bool _ => true
  | _, _ => false
def eqOk (x y : PyData) : Prop := scalD x y = true ∨ (SeqAt.shaped x = true ∧ SeqAt.shaped y = true)
def eqD (x y : PyData) (k : PyData → Prop) : Prop := eqOk x y ∧ k (.bool (PyData.eqv x y))
def neD (x y : PyData) (k : PyData → Prop) : Prop := eqOk x y ∧ k (.bool (!PyData.eqv x y))
theorem scal_of {K : PySem.W.Frag} {F : Hp} {x y : V} {dx dy : PyData} (rx : Rp K F x dx) (ry : Rp K F y dy) (h : scalD dx dy = true) : scal x y = true ∧ decide (x = y) = PyData.eqv dx dy := by
  cases rx <;> cases ry <;> first | (simp [scalD] at h; done) | exact ⟨rfl, by first | (simp [PyData.eqv]; done) | (simp [PyData.eqv]; rw [Bool.eq_iff_iff]; simp; done)⟩
theorem o_eq (hu : X.A.units + 64 < cLine) : OpS X (compareOp .Eq) eqD := by
  have h1 : OpS X (compareOp .Eq) (fun x y k => scalD x y = true ∧ k (.bool (PyData.eqv x y))) := by
    refine ⟨_, op_eq, fun W B σ H F env R x y dx dy k Q A rx ry q z => ?_⟩
    obtain ⟨e1, e2⟩ := scal_of rx ry q.1
    refine ⟨e1, ?_⟩
    rw [e2]
    exact z _ _ H F (A.af (.bl _)) q.2
  have h2 : OpS X (compareOp .Eq) (fun x y k => (SeqAt.shaped x = true ∧ SeqAt.shaped y = true) ∧ k (.bool (PyData.eqv x y))) := by
    refine ⟨_, op_eqD hu, fun W B σ H F env R x y dx dy k Q A rx ry q z => ?_⟩
    exact ⟨dx, dy, (rx.dp (SeqAt.canLay_of_shaped q.1.1)).leB A.ly.sub, (ry.dp (SeqAt.canLay_of_shaped q.1.2)).leB A.ly.sub, q.1.1, q.1.2, z _ _ H F (A.af (.bl _)) q.2⟩
  exact h1.or h2 fun x y k ⟨h, q⟩ => h.elim (fun h => .inl ⟨h, q⟩) fun h => .inr ⟨h, q⟩
theorem o_ne (hu : X.A.units + 64 < cLine) : OpS X (compareOp .NotEq) neD := by
  have h1 : OpS X (compareOp .NotEq) (fun x y k => scalD x y = true ∧ k (.bool (!PyData.eqv x y))) := by
    refine ⟨_, op_ne, fun W B σ H F env R x y dx dy k Q A rx ry q z => ?_⟩
    obtain ⟨e1, e2⟩ := scal_of rx ry q.1
    refine ⟨e1, ?_⟩
    rw [e2]
    exact z _ _ H F (A.af (.bl _)) q.2
  have h2 : OpS X (compareOp .NotEq) (fun x y k => (SeqAt.shaped x = true ∧ SeqAt.shaped y = true) ∧ k (.bool (!PyData.eqv x y))) := by
    refine ⟨_, op_neD hu, fun W B σ H F env R x y dx dy k Q A rx ry q z => ?_⟩
    exact ⟨dx, dy, (rx.dp (SeqAt.canLay_of_shaped q.1.1)).leB A.ly.sub, (ry.dp (SeqAt.canLay_of_shaped q.1.2)).leB A.ly.sub, q.1.1, q.1.2, z _ _ H F (A.af (.bl _)) q.2⟩
  exact h1.or h2 fun x y k ⟨h, q⟩ => h.elim (fun h => .inl ⟨h, q⟩) fun h => .inr ⟨h, q⟩
/-- is None, is not None -/
def isNone : PyData → Bool
  | .none => true
  | _ => false
def isD (x y : PyData) (k : PyData → Prop) : Prop := match y with
  | .none => k (.bool (isNone x))
  | .bool b => match x with
    | .bool a => k (.bool (a == b))
    | _ => False
  | _ => False
def isntD (x y : PyData) (k : PyData → Prop) : Prop := match y with
  | .none => k (.bool (!isNone x))
  | .bool b => match x with
    | .bool a => k (.bool (!(a == b)))
    | _ => False
  | _ => False
/-! x in xs: flat things, or data at any depth in a list -/
def flatD : PyData → Bool
  | .bool _ | .int _ | .none | .str _ => true
  | _ => false
def inD : PyData → PyData → (PyData → Prop) → Prop
  | x, .list ys, k => ((flatD x = true ∧ ys.all flatD = true) ∨ (SeqAt.shaped x = true ∧ SeqAt.shaped (.list ys) = true)) ∧ k (.bool (ys.any fun y => PyData.eqv y x))
  | x, .tuple ys, k => (flatD x = true ∧ ys.all flatD = true) ∧ k (.bool (ys.any fun y => PyData.eqv y x))
  | .str x, .str y, k => ∃ c, x = ⟨#[c]⟩ ∧ k (.bool (decide (c ∈ y.cps.toList)))
  | _, _, _ => False
def ninD : PyData → PyData → (PyData → Prop) → Prop
  | x, .list ys, k => ((flatD x = true ∧ ys.all flatD = true) ∨ (SeqAt.shaped x = true ∧ SeqAt.shaped (.list ys) = true)) ∧ k (.bool (!ys.any fun y => PyData.eqv y x))
  | x, .tuple ys, k => (flatD x = true ∧ ys.all flatD = true) ∧ k (.bool (!ys.any fun y => PyData.eqv y x))
  | _, _, _ => False
theorem flatV_of {K : PySem.W.Frag} {F : Hp} {x : V} {dx : PyData} (rx : Rp K F x dx) (h : flatD dx = true) : flatV x = true := by
  cases rx <;> first | rfl | simp [flatD] at h
theorem flatV_all {K : PySem.W.Frag} {F : Hp} : ∀ {xs : List V} {ds : List PyData}, RpAll K F xs ds → ds.all flatD = true → xs.all flatV = true
  | _, _, .nil, _ => rfl
  | _, _, .cons a b, h => by
    rw [List.all_cons, Bool.and_eq_true] at h ⊢
    exact ⟨flatV_of a h.1, flatV_all b h.2⟩
theorem eqV_of {K : PySem.W.Frag} {F : Hp} {x y : V} {dx dy : PyData} (rx : Rp K F x dx) (ry : Rp K F y dy) (h : flatD dx = true) (h' : flatD dy = true) : eqV x y = PyData.eqv dx dy := by
  cases rx <;> cases ry <;> first | rfl | (simp [flatD] at h; done) | (simp [flatD] at h'; done) | simp [eqV, PyData.eqv]
theorem inV_of {K : PySem.W.Frag} {F : Hp} {x : V} {dx : PyData} (rx : Rp K F x dx) (h : flatD dx = true) : ∀ {xs : List V} {ds : List PyData}, RpAll K F xs ds → ds.all flatD = true → inV x xs = ds.any fun y => PyData.eqv y dx
  | _, _, .nil, _ => rfl
  | _, _, .cons a b, h' => by
    rw [List.all_cons, Bool.and_eq_true] at h'
    show (eqV _ x || inV x _) = _
    rw [List.any_cons, inV_of rx h b h'.2, eqV_of a rx h'.1 h]
theorem opS_inSeq {neg : Bool} {op : CmpOp} (h : OpR X (compareOp op) (rIn X.K neg)) : OpS X (compareOp op) (fun x y k => ∃ ys, (y = .list ys ∨ y = .tuple ys) ∧ (flatD x = true ∧ ys.all flatD = true) ∧ k (.bool (if neg = true then !(ys.any fun y => PyData.eqv y x) else ys.any fun y => PyData.eqv y x))) := by
  refine ⟨_, h, fun W B σ H F env R x y dx dy k Q A rx ry q z => ?_⟩
  obtain ⟨ys, e, ⟨f1, f2⟩, q⟩ := q
  rcases e with rfl | rfl
  · cases ry with
    | lst s r =>
    refine ⟨_, _, rfl, .inl (SqL.of (A.ly.sub _ _ s)), flatV_of rx f1, flatV_all r f2, ?_⟩
    rw [inV_of rx f1 r f2]
    exact z _ _ H F (A.af (.bl _)) q
  · cases ry with
    | tup s r =>
    refine ⟨_, _, rfl, .inr (A.ly.sub.sqT s), flatV_of rx f1, flatV_all r f2, ?_⟩
    rw [inV_of rx f1 r f2]
    exact z _ _ H F (A.af (.bl _)) q
theorem o_in (hu : X.A.units + 65 < cLine) : OpS X (compareOp .In) inD := by
  have h2 : OpS X (compareOp .In) (fun x y k => ∃ ys, y = .list ys ∧ (SeqAt.shaped x = true ∧ SeqAt.shaped (.list ys) = true) ∧ k (.bool (ys.any fun y => PyData.eqv y x))) := by
    refine ⟨_, op_inD hu, fun W B σ H F env R x y dx dy k Q A rx ry q z => ?_⟩
    obtain ⟨ys, rfl, s, q⟩ := q
    exact ⟨dx, ys, (rx.dp (SeqAt.canLay_of_shaped s.1)).leB A.ly.sub, (ry.dp (SeqAt.canLay_of_shaped s.2)).leB A.ly.sub, s.1, s.2, z _ _ H F (A.af (.bl _)) q⟩
  have h3 : OpS X (compareOp .In) (fun x y k => ∃ c z, x = .str ⟨#[c]⟩ ∧ y = .str z ∧ k (.bool (decide (c ∈ z.cps.toList)))) := by
    refine ⟨_, op_in_sign, fun W B σ H F env R x y dx dy k Q A rx ry q z => ?_⟩
    obtain ⟨c, t, rfl, rfl, q⟩ := q
    cases rx
    cases ry
    exact ⟨c, t, rfl, rfl, z _ _ H F (A.af (.bl _)) q⟩
  refine ((opS_inSeq op_in_seq).or (h := fun x y k => _ ∨ _) h2 fun _ _ _ h => h).or h3 fun x y k h => ?_
  unfold inD at h
  split at h
  · rcases h.1 with q | q
    · exact .inl (.inl ⟨_, .inl rfl, q, h.2⟩)
    · exact .inl (.inr ⟨_, rfl, q, h.2⟩)
  · exact .inl (.inl ⟨_, .inr rfl, h.1, h.2⟩)
  · obtain ⟨c, rfl, q⟩ := h
    exact .inr ⟨c, _, rfl, rfl, q⟩
  · exact h.elim
theorem o_nin (hu : X.A.units + 65 < cLine) : OpS X (compareOp .NotIn) ninD := by
  have h2 : OpS X (compareOp .NotIn) (fun x y k => ∃ ys, y = .list ys ∧ (SeqAt.shaped x = true ∧ SeqAt.shaped (.list ys) = true) ∧ k (.bool (!ys.any fun y => PyData.eqv y x))) := by
    refine ⟨_, op_notInD hu, fun W B σ H F env R x y dx dy k Q A rx ry q z => ?_⟩
    obtain ⟨ys, rfl, s, q⟩ := q
    exact ⟨dx, ys, (rx.dp (SeqAt.canLay_of_shaped s.1)).leB A.ly.sub, (ry.dp (SeqAt.canLay_of_shaped s.2)).leB A.ly.sub, s.1, s.2, z _ _ H F (A.af (.bl _)) q⟩
  refine (opS_inSeq op_notIn_seq).or h2 fun x y k h => ?_
  unfold ninD at h
  split at h
  · rcases h.1 with q | q
    · exact .inl ⟨_, .inl rfl, q, h.2⟩
    · exact .inr ⟨_, rfl, q, h.2⟩
  · exact .inl ⟨_, .inr rfl, h.1, h.2⟩
  · exact h.elim
end
end BX
/-! D4 -/
namespace BX
open PySem PySem.Spec L2

/-- the def named x, at a -/
def foX (x : Str) (a : Addr) : XO := ⟨a, fun K _ => PySem.W.nsIn K mainGlobals x = some (some (.ref a)), fun _ h => h⟩
/-- the def named x at a, as a contract tells of it -/
def fnD (a : Nat) (x : Str) : PyData := .dict [(.int (.ofNat a), .str x)]
/-! ### arguments -/
inductive AK where
  | d (t : DE)
  | io (i : Nat)
  | ro (i : Nat)
  | fx (i : Nat)
  | fg (x : Str)
/-- what stands in a slot that is only looked at -/
def pk (env : Ev) (i : Nat) : Option PyData := match env[i]? with
  | some (.v d) => some d
  | some (.o d) => some d
  | some (.io d) => some d
  | some (.ro ds) => some (.list ds)
  | _ => none
def dA : List AK → Ev → (List PyData → Ev → Prop) → (Ex → Ev → Prop) → Prop
  | [], env, Q, _ => Q [] env
  | .d t :: ts, env, Q, R => t env (fun d env1 => dA ts env1 (fun ds env2 => Q (d :: ds) env2) R) R
  | .io i :: ts, env, Q, R => (ow env i).isSome = true ∧ dA ts env (fun ds env2 => ∃ d, ow env2 i = some d ∧ Q (d :: ds) env2) R
  | .ro i :: ts, env, Q, R => (pk env i).isSome = true ∧ dA ts env (fun ds env2 => ∃ d, pk env2 i = some (.list d) ∧ Q (.list d :: ds) env2) R
  | .fx i :: ts, env, Q, R => ∃ x a, env[i]? = some (.x (foX x a)) ∧ dA ts env (fun ds env2 => Q (fnD a x :: ds) env2) R
  | .fg x :: ts, env, Q, R => ∀ a, dA ts env (fun ds env2 => Q (fnD a x :: ds) env2) R
/-- what is at hand of each argument -/
inductive ArgsOk (K : PySem.W.Frag) (B : Base) (σ : L2.St) (F : Hp) (env : Ev) : List AK → List V → List PyData → Prop
  | nil : ArgsOk K B σ F env [] [] []
  | d {t ts v vs d ds} : Rp K F v d → ArgsOk K B σ F env ts vs ds → ArgsOk K B σ F env (.d t :: ts) (v :: vs) (d :: ds)
  | io {i ts v vs d ds} : σ[i]? = some (some v) → ow env i = some d → ArgsOk K B σ F env ts vs ds → ArgsOk K B σ F env (.io i :: ts) (v :: vs) (d :: ds)
  | ro {i ts v vs d ds} : σ[i]? = some (some v) → pk env i = some (.list d) → ArgsOk K B σ F env ts vs ds → ArgsOk K B σ F env (.ro i :: ts) (v :: vs) (.list d :: ds)
  | fx {i ts a x vs ds} : PySem.W.nsIn K mainGlobals x = some (some (.ref a)) → ArgsOk K B σ F env ts vs ds → ArgsOk K B σ F env (.fx i :: ts) (.ref a :: vs) (fnD a x :: ds)
  | fg {ts a x vs ds} : PySem.W.nsIn K mainGlobals x = some (some (.ref a)) → ArgsOk K B σ F env ts vs ds → ArgsOk K B σ F env (.fg x :: ts) (.ref a :: vs) (fnD a x :: ds)
structure AfA (X : Cx) (B : Base) (σ : L2.St) (F : Hp) (ts : List AK) (vs : List V) (ds : List PyData) (H' F' : Hp) (env' : Ev) : Prop where
  ly : Ly X.K B σ H' F' env'
  le : Le F F'
  ok : ArgsOk X.K B σ F' env' ts vs ds
def tA (X : Cx) (W : WX) (ts : List AK) : TA := fun σ H Q => ∃ B F env Qd R, At X W B σ H F env R ∧ dA ts env Qd R ∧ ∀ vs ds H' F' env', AfA X B σ F ts vs ds H' F' env' → Qd ds env' → Q vs H'
structure JA (X : Cx) (W : WX) (es : List Expr) (ts : List AK) : Prop where
  pa : PA X es (tA X W ts)
section
variable {X : Cx} {W : WX} {B : Base} {σ : L2.St} {H F : Hp} {env : Ev} {R : Ex → Ev → Prop}
theorem PA.imp {e : List Expr} {t t' : TA} (h : PA X e t) (k : ∀ σ H Q, t' σ H Q → t σ H Q) : PA X e t' := ⟨fun pos pins s σ H Q I q => h.run pos pins s σ H Q I (k _ _ _ q)⟩
theorem At.goA {Qd : List PyData → Ev → Prop} {ts : List AK} (A : At X W B σ H F env R) (h : dA ts env Qd R) {Q : List V → Hp → Prop} (k : ∀ vs ds H' F' env', AfA X B σ F ts vs ds H' F' env' → At X W B σ H' F' env' R → Qd ds env' → Q vs H') : tA X W ts σ H Q :=
  ⟨B, F, env, Qd, R, A, h, fun v d H' F' env' a q => k v d H' F' env' a ⟨a.ly, A.wi⟩ q⟩
theorem ja_nil : JA X W [] [] := ⟨PA.imp pa_nil fun σ H Q ⟨B, F, env, Qd, R, A, q, k⟩ => k [] [] H F env ⟨A.ly, Le.refl _, .nil⟩ q⟩
theorem ja_d {e : Expr} {es : List Expr} {t : DE} {ts : List AK} (he : JE X W e t) (hr : JA X W es ts) (hs : starEach (e :: es) X.env = (false, eval e X.env) :: starEach es X.env := by rfl) : JA X W (e :: es) (.d t :: ts) :=
  ⟨PA.imp (pa_cons he.pe hr.pa hs) fun σ H Q ⟨B, F, env, Qd, R, A, q, k⟩ => A.go (t := t) q fun v d H1 F1 env1 a1 A1 q1 => A1.goA q1 fun vs ds H2 F2 env2 a2 A2 q2 => k (v :: vs) (d :: ds) H2 F2 env2 ⟨a2.ly, a1.le.trans a2.le, .d (a1.rp.le a2.le) a2.ok⟩ q2⟩
theorem Ly.pkV {K : PySem.W.Frag} {B : Base} {σ : L2.St} {H F : Hp} {env : Ev} (L : Ly K B σ H F env) {i : Nat} {d : PyData} (h : pk env i = some d) : ∃ v, σ[i]? = some (some v) := by
  unfold pk at h
  split at h
  · rename_i e; obtain ⟨x, h1, _⟩ := L.val i _ e; exact ⟨x, h1⟩
  · rename_i e; obtain ⟨a, h1, _⟩ := L.own i _ (by unfold ow; rw [e]); exact ⟨_, h1⟩
  · rename_i e; obtain ⟨a, h1, _⟩ := L.own i _ (by unfold ow; rw [e]); exact ⟨_, h1⟩
  · rename_i e; obtain ⟨a, xs, h1, _⟩ := L.rd i _ e; exact ⟨_, h1⟩
  · cases h
theorem ow_pk {env : Ev} {i : Nat} {d : PyData} (h : ow env i = some d) : pk env i = some d := by
  unfold ow at h
  unfold pk
  split at h
  · rename_i e; rw [e]; exact h
  · rename_i e; rw [e]; exact h
  · cases h
theorem ja_io {e : Expr} {es : List Expr} {ts : List AK} (i : Nat) (he : PE X e (tVar i)) (hr : JA X W es ts) (hs : starEach (e :: es) X.env = (false, eval e X.env) :: starEach es X.env := by rfl) : JA X W (e :: es) (.io i :: ts) :=
  ⟨PA.imp (pa_cons he hr.pa hs) fun σ H Q ⟨B, F, env, Qd, R, A, q, k⟩ => by
    obtain ⟨h0, q⟩ := q
    obtain ⟨d0, h0⟩ := Option.isSome_iff_exists.mp h0
    obtain ⟨v, hv⟩ := A.ly.pkV (ow_pk h0)
    exact ⟨v, hv, A.goA (ts := ts) q fun vs ds H2 F2 env2 a2 A2 ⟨d, h1, q2⟩ => k (v :: vs) (d :: ds) H2 F2 env2 ⟨a2.ly, a2.le, .io hv h1 a2.ok⟩ q2⟩⟩
theorem ja_ro {e : Expr} {es : List Expr} {ts : List AK} (i : Nat) (he : PE X e (tVar i)) (hr : JA X W es ts) (hs : starEach (e :: es) X.env = (false, eval e X.env) :: starEach es X.env := by rfl) : JA X W (e :: es) (.ro i :: ts) :=
  ⟨PA.imp (pa_cons he hr.pa hs) fun σ H Q ⟨B, F, env, Qd, R, A, q, k⟩ => by
    obtain ⟨h0, q⟩ := q
    obtain ⟨d0, h0⟩ := Option.isSome_iff_exists.mp h0
    obtain ⟨v, hv⟩ := A.ly.pkV h0
    exact ⟨v, hv, A.goA (ts := ts) q fun vs ds H2 F2 env2 a2 A2 ⟨d, h1, q2⟩ => k (v :: vs) (.list d :: ds) H2 F2 env2 ⟨a2.ly, a2.le, .ro hv h1 a2.ok⟩ q2⟩⟩
/-- a def's own name, known to stand at f -/
def NmAt (K : PySem.W.Frag) (mg : Str → Option Value) (x : Str) : Prop := ∃ f, mg x = some (.ref f) ∧ PySem.W.nsIn K mainGlobals x = some (some (.ref f))
/-- arguments that are data alone -/
theorem ArgsOk.all {K : PySem.W.Frag} {B : Base} {σ : L2.St} {F : Hp} {env : Ev} : ∀ {ts : List DE} {vs : List V} {ds : List PyData}, ArgsOk K B σ F env (ts.map .d) vs ds → RpAll K F vs ds
  | [], _, _, .nil => .nil
  | _ :: _, _, _, .d a b => .cons a (ArgsOk.all b)

/-! ### displays -/
def dTup (ts : List DE) : DE := fun env Q R => dA (ts.map .d) env (fun ds env1 => ds.length ≤ sizeLine ∧ Q (.tuple ds) env1) R
def dLst (ts : List DE) : DE := fun env Q R => dA (ts.map .d) env (fun ds env1 => ds.length ≤ sizeLine ∧ Q (.list ds) env1) R
theorem j_tup {es : List Expr} {ts : List DE} {pos : Pos} {k : Nat} (h : JA X W es (ts.map .d)) : JE X W (.Tuple es k pos) (dTup ts) :=
  ⟨PE.imp (pe_tupZ h.pa) fun σ H Q ⟨B, F, env, Qd, R, A, q, k⟩ => A.goA q fun vs ds H1 F1 env1 a A1 ⟨hl, q1⟩ => ⟨by rw [(ArgsOk.all a.ok).length]; exact hl, fun p ob hp ho => by
    have z := A1.laidT hp ho (ArgsOk.all a.ok)
    exact k _ _ _ _ _ ⟨z.ly, a.le.trans z.le, z.rp⟩ q1⟩⟩
theorem jn_lst {es : List Expr} {ts : List DE} {pos : Pos} (h : JA X W es (ts.map .d)) : JN X W (.List es pos) (dLst ts) :=
  ⟨PE.imp (pe_lst h.pa) fun σ H Q ⟨B, F, env, Qd, R, A, q, k⟩ => A.goA q fun vs ds H1 F1 env1 a A1 ⟨hl, q1⟩ => ⟨by rw [(ArgsOk.all a.ok).length]; exact hl, fun p hp => by
    have z := A1.laid hp (.lst upd_same (ArgsOk.all a.ok))
    exact k _ _ _ _ _ ⟨z.ly, a.le.trans z.le, z.ow⟩ q1⟩⟩

/-! ### calls of built-ins -/
structure CallS (X : Cx) (f : Value) (g : List PyData → (PyData → Prop) → Prop) : Prop where
  go : ∃ r : List V → Hp → VK → Prop, CallR X f r ∧ ∀ (W : WX) (B : Base) (σ : L2.St) (H F : Hp) (env : Ev) (R : Ex → Ev → Prop) (vs : List V) (ds : List PyData) (k : PyData → Prop) (Q : VK), At X W B σ H F env R → RpAll X.K F vs ds → g ds k →
    (∀ v d H' F', Af X B σ F v d H' F' env → k d → Q v H') → r vs H Q
/-- a call that gives a new object -/
structure CallN (X : Cx) (f : Value) (g : List PyData → (PyData → Prop) → Prop) : Prop where
  go : ∃ r : List V → Hp → VK → Prop, CallR X f r ∧ ∀ (W : WX) (B : Base) (σ : L2.St) (H F : Hp) (env : Ev) (R : Ex → Ev → Prop) (vs : List V) (ds : List PyData) (k : PyData → Prop) (Q : VK), At X W B σ H F env R → RpAll X.K F vs ds → g ds k →
    (∀ v d H' F', AfN X B σ F v d H' F' env → k d → Q v H') → r vs H Q
def dCB (g : List PyData → (PyData → Prop) → Prop) (ts : List DE) : DE := fun env Q R => dA (ts.map .d) env (fun ds env1 => g ds fun d => Q d env1) R
theorem j_callB {x : Str} {p pos : Pos} {e : Expr} {es : List Expr} {id : String} {g : List PyData → (PyData → Prop) → Prop} {ts : List DE} (c : CallS X (.builtin id) g) (hg : Gl X x) (hm : X.mg x = none) (hv : bootBuiltins x = some (.builtin id)) (ha : JA X W (e :: es) (ts.map .d))
    (hn : x ≠ Str.ofString "__name__" := by decide) (hd : (x == Str.ofString "__debug__") = false := by decide) (hs : starEach (e :: es) X.env = (false, eval e X.env) :: starEach es X.env := by rfl) (hp : ((backTo pos (starEach es X.env)).any fun x => x.1) = false := by rfl) :
    JE X W (.Call (.Name x p) (e :: es) [] pos) (dCB g ts) := by
  obtain ⟨r, h1, h2⟩ := c.go
  exact ⟨PE.imp (pe_callB h1 hg hm hv ha.pa hn hd hs hp) fun σ H Q ⟨B, F, env, Qd, R, A, q, k⟩ => A.goA q fun vs ds H1 F1 env1 a A1 q1 => h2 W B σ H1 F1 env1 R vs ds _ Q A1 (ArgsOk.all a.ok) q1 fun v d H2 F2 a2 q2 => k v d H2 F2 env1 ⟨a2.ly, a.le.trans a2.le, a2.rp⟩ q2⟩
theorem j_callTy {x : Str} {p pos : Pos} {e : Expr} {es : List Expr} {id : String} {g : List PyData → (PyData → Prop) → Prop} {ts : List DE} (c : CallS X (.type id) g) (hg : Gl X x) (hm : X.mg x = none) (hv : bootBuiltins x = some (.type id)) (ha : JA X W (e :: es) (ts.map .d))
    (hn : x ≠ Str.ofString "__name__" := by decide) (hd : (x == Str.ofString "__debug__") = false := by decide) (hs : starEach (e :: es) X.env = (false, eval e X.env) :: starEach es X.env := by rfl) (hp : ((backTo pos (starEach es X.env)).any fun x => x.1) = false := by rfl) :
    JE X W (.Call (.Name x p) (e :: es) [] pos) (dCB g ts) := by
  obtain ⟨r, h1, h2⟩ := c.go
  exact ⟨PE.imp (pe_callTy h1 hg hm hv ha.pa hn hd hs hp) fun σ H Q ⟨B, F, env, Qd, R, A, q, k⟩ => A.goA q fun vs ds H1 F1 env1 a A1 q1 => h2 W B σ H1 F1 env1 R vs ds _ Q A1 (ArgsOk.all a.ok) q1 fun v d H2 F2 a2 q2 => k v d H2 F2 env1 ⟨a2.ly, a.le.trans a2.le, a2.rp⟩ q2⟩
/-! len, int, bool, str of texts, tuple, list, max, min, all, any, isinstance -/
def lenD : List PyData → (PyData → Prop) → Prop
  | [.str x], k => x.length ≤ sizeLine ∧ k (.int x.length)
  | [.list xs], k => k (.int xs.length)
  | [.tuple xs], k => k (.int xs.length)
  | _, _ => False
theorem c_len : CallS X (.builtin "len") lenD := by
  refine ⟨_, call_len, fun W B σ H F env R vs ds k Q A r q z => ?_⟩
  unfold lenD at q
  split at q
  · cases r with
    | cons a b =>
    cases a
    cases b
    exact ⟨_, _, rfl, ⟨q.1, rfl⟩, z _ _ H F (A.af (.int _)) q.2⟩
  · cases r with
    | cons a b =>
    cases a with
    | lst s r =>
    cases b
    exact ⟨_, _, rfl, .inl ⟨_, SqL.of (A.ly.sub _ _ s), rfl⟩, z _ _ H F (A.af (by rw [r.length]; exact .int _)) q⟩
  · cases r with
    | cons a b =>
    cases a with
    | tup s r =>
    cases b
    exact ⟨_, _, rfl, .inr ⟨_, A.ly.sub.sqT s, rfl⟩, z _ _ H F (A.af (by rw [r.length]; exact .int _)) q⟩
  · exact q.elim
def b2i (b : Bool) : Int := if b = true then 1 else 0
def intD : List PyData → (PyData → Prop) → Prop
  | [.int i], k => k (.int i)
  | [.bool b], k => k (.int (b2i b))
  | _, _ => False
theorem c_int : CallS X (.type "int") intD := by
  refine ⟨_, call_int1, fun W B σ H F env R vs ds k Q A r q z => ?_⟩
  unfold intD at q
  split at q
  · cases r with
    | cons a b =>
    cases a
    cases b
    exact .inl ⟨_, rfl, z _ _ H F (A.af (.int _)) q⟩
  · cases r with
    | cons a b =>
    cases a
    cases b
    exact .inr ⟨_, rfl, z _ _ H F (A.af (.int _)) q⟩
  · exact q.elim
def maxD : List PyData → (PyData → Prop) → Prop
  | [.int i, .int j], k => k (.int (if j > i then j else i))
  | _, _ => False
def minD : List PyData → (PyData → Prop) → Prop
  | [.int i, .int j], k => k (.int (if j < i then j else i))
  | _, _ => False
theorem c_max (hc : X.calm = true) : CallS X (.builtin "max") maxD := by
  refine ⟨_, call_max2 hc, fun W B σ H F env R vs ds k Q A r q z => ?_⟩
  unfold maxD at q
  split at q
  · cases r with
    | cons a b =>
    cases a
    cases b with
    | cons a b =>
    cases a
    cases b
    exact ⟨_, _, rfl, z _ _ H F (A.af (.int _)) q⟩
  · exact q.elim
theorem c_min (hc : X.calm = true) : CallS X (.builtin "min") minD := by
  refine ⟨_, call_min2 hc, fun W B σ H F env R vs ds k Q A r q z => ?_⟩
  unfold minD at q
  split at q
  · cases r with
    | cons a b =>
    cases a
    cases b with
    | cons a b =>
    cases a
    cases b
    exact ⟨_, _, rfl, z _ _ H F (A.af (.int _)) q⟩
  · exact q.elim
def tupleD : List PyData → (PyData → Prop) → Prop
  | [.list xs], k => k (.tuple xs)
  | [.tuple xs], k => k (.tuple xs)
  | _, _ => False
theorem c_tuple : CallS X (.type "tuple") tupleD := by
  refine ⟨_, call_tupleZ, fun W B σ H F env R vs ds k Q A r q z => ?_⟩
  unfold tupleD at q
  split at q
  · cases r with
    | cons a b =>
    cases a with
    | lst s r =>
    cases b
    exact ⟨_, _, rfl, .inl ⟨SqL.of (A.ly.sub _ _ s), fun l ob hl ho => z _ _ _ _ (A.laidT hl ho r) q⟩⟩
  · cases r with
    | cons a b =>
    cases a with
    | tup s r =>
    cases b
    exact ⟨_, _, rfl, .inr ⟨A.ly.sub.sqT s, z _ _ H F (A.af (.tup s r)) q⟩⟩
  · exact q.elim
def listD : List PyData → (PyData → Prop) → Prop
  | [.list xs], k => k (.list xs)
  | [.tuple xs], k => k (.list xs)
  | _, _ => False
def boolsOf : List PyData → Option (List Bool)
  | [] => some []
  | .bool b :: r => (boolsOf r).map (b :: ·)
  | _ => none
theorem bools_of {K : PySem.W.Frag} {F : Hp} : ∀ {ds : List PyData} {vs : List V} {bs : List Bool}, RpAll K F vs ds → boolsOf ds = some bs → vs = bs.map V.bl
  | [], _, _, .nil, h => by cases h; rfl
  | .bool b :: r, _, _, .cons a t, h => by
    unfold boolsOf at h
    cases e : boolsOf r with
    | none => (rw [e] at h; cases h)
    | some cs =>
      rw [e] at h
      cases h
      cases a
      rw [bools_of t e]
      rfl
def allD : List PyData → (PyData → Prop) → Prop
  | [.list xs], k => ∃ bs, boolsOf xs = some bs ∧ k (.bool (bs.all id))
  | _, _ => False
def anyD : List PyData → (PyData → Prop) → Prop
  | [.list xs], k => ∃ bs, boolsOf xs = some bs ∧ k (.bool (bs.any id))
  | _, _ => False
theorem c_all (hc : X.calm = true) : CallS X (.builtin "all") allD := by
  refine ⟨_, cr_all hc, fun W B σ H F env R vs ds k Q A r q z => ?_⟩
  unfold allD at q
  split at q
  · obtain ⟨bs, e, q⟩ := q
    cases r with
    | cons a b =>
    cases a with
    | lst s r =>
    cases b
    have e' := bools_of r e
    subst e'
    exact ⟨_, bs, rfl, SqL.of (A.ly.sub _ _ s), z _ _ H F (A.af (.bl _)) q⟩
  · exact q.elim
end
end BX
/-! D5 -/
namespace BX
open PySem PySem.Spec L2
section
variable {X : Cx} {W : WX} {B : Base} {σ : L2.St} {H F : Hp} {env : Ev} {R : Ex → Ev → Prop}
/-! ### isinstance -/
def tyN : PyData → String
  | .none => "NoneType"
  | .bool _ => "bool"
  | .int _ => "int"
  | .str _ => "str"
  | .list _ => "list"
  | .tuple _ => "tuple"
  | .dict _ => "dict"
theorem tyX_of {K : PySem.W.Frag} {F H : Hp} (l : Le F H) {x : V} {d : PyData} (r : Rp K F x d) : TyX K H x (.type (tyN d)) := by
  cases r with
  | non => exact .base .non
  | bl b => exact .base (.bl b)
  | int i => exact .base (.int i)
  | str x => exact .base (.str x)
  | lst s a => exact .base (.lst (l _ _ s))
  | tup s a =>
    rcases s with ⟨o, s, _⟩ | ⟨o, its, n, h1, _, h2, _⟩
    · exact .fTuple (l _ _ s)
    · exact .kTuple h1 h2
  | dct s a => exact .fDict (l _ _ s)
/-- isinstance(e, T), T a built-in class by its name -/
def dIsi (T : String) (t : DE) : DE := fun env Q R => t env (fun d env1 => ∃ b, kitB (tyN d) T = some b ∧ Q (.bool b) env1) R
theorem j_isi {p p2 pos : Pos} {e : Expr} {x : Str} {t : DE} (T : String) (hg : Gl X "isinstance") (hm : X.mg "isinstance" = none) (he : JE X W e t) (hgx : Gl X x) (hmx : X.mg x = none) (hv : bootBuiltins x = some (.type T))
    (hs : starEach [e, .Name x p2] X.env = (false, eval e X.env) :: starEach [.Name x p2] X.env := by rfl) (hs2 : starEach [.Name x p2] X.env = (false, eval (.Name x p2) X.env) :: starEach [] X.env := by rfl)
    (hn : x ≠ Str.ofString "__name__" := by decide) (hd : (x == Str.ofString "__debug__") = false := by decide) (hp : ((backTo pos (starEach [.Name x p2] X.env)).any fun x => x.1) = false := by rfl) :
    JE X W (.Call (.Name "isinstance" p) [e, .Name x p2] [] pos) (dIsi T t) :=
  ⟨PE.imp (pe_callB call_isi hg hm (by decide +kernel) (pa_cons he.pe (pa_cons (pe_bltn (v := .ty T) hgx hmx hv rfl hn hd) pa_nil hs2) hs) (by decide) (by decide) hs hp) fun σ H Q ⟨B, F, env, Qd, R, A, q, k⟩ => by
    refine A.go (t := t) q fun v d H1 F1 env1 a A1 ⟨b, e1, q1⟩ => ?_
    exact ⟨v, .ty T, .type (tyN d), .type T, b, rfl, .ty T, tyX_of a.ly.sub a.rp, kit_ty e1, k _ _ H1 F1 env1 ⟨a.ly, a.le, .bl b⟩ q1⟩⟩
/-- isinstance(e, (T, U)) -/
def dIsi2 (T U : String) (t : DE) : DE := fun env Q R => t env (fun d env1 => ∃ a b, kitB (tyN d) T = some a ∧ kitB (tyN d) U = some b ∧ Q (.bool (a || b)) env1) R
/-! ### subscripts -/
def ixD : PyData → PyData → (PyData → Prop) → Prop
  | .list xs, .int i, k => ∃ d, atI xs i = some d ∧ k d
  | .tuple xs, .int i, k => ∃ d, atI xs i = some d ∧ k d
  | .str x, .int i, k => x.length ≤ sizeLine ∧ ∃ c, atI x.cps.toList i = some c ∧ k (.str ⟨#[c]⟩)
  | _, _, _ => False
theorem RpAll.atI {K : PySem.W.Frag} {F : Hp} {vs : List V} {ds : List PyData} {i : Int} {d : PyData} (r : RpAll K F vs ds) (h : atI ds i = some d) : ∃ v, atI vs i = some v ∧ Rp K F v d := by
  unfold L2.atI at h ⊢
  rw [r.length]
  cases e : ixN ds.length i with
  | none => (rw [e] at h; cases h)
  | some j =>
    rw [e] at h
    exact r.get h
theorem ix_rule : ∃ r : R2, IxR X r ∧ ∀ (W : WX) (B : Base) (σ : L2.St) (H F : Hp) (env : Ev) (R : Ex → Ev → Prop) (x y : V) (dx dy : PyData) (k : PyData → Prop) (Q : VK), At X W B σ H F env R → Rp X.K F x dx → Rp X.K F y dy → ixD dx dy k → (∀ v d H' F', Af X B σ F v d H' F' env → k d → Q v H') → r x y H Q := by
  refine ⟨_, ix_seq, fun W B σ H F env R x y dx dy k Q A rx ry q z => ?_⟩
  unfold ixD at q
  split at q
  · obtain ⟨d, e, q⟩ := q
    cases rx with
    | lst s r =>
    cases ry
    obtain ⟨v, e', rv⟩ := r.atI e
    exact .inl ⟨_, _, _, v, rfl, rfl, SqL.of (A.ly.sub _ _ s), e', z _ _ H F (A.af rv) q⟩
  · obtain ⟨d, e, q⟩ := q
    cases rx with
    | tup s r =>
    cases ry
    obtain ⟨v, e', rv⟩ := r.atI e
    exact .inr (.inl ⟨_, _, _, v, rfl, rfl, A.ly.sub.sqT s, e', z _ _ H F (A.af rv) q⟩)
  · obtain ⟨hl, c, e, q⟩ := q
    cases rx
    cases ry
    exact .inr (.inr ⟨_, _, c, rfl, rfl, hl, e, z _ _ H F (A.af (.str _)) q⟩)
  · exact q.elim
def dIx (ta tb : DE) : DE := dBin ixD ta tb
theorem j_ix {a b : Expr} {ta tb : DE} {pos : Pos} (ha : JE X W a ta) (hb : JE X W b tb) (hp : PlainIx b := by exact fun _ _ => rfl) : JE X W (.Subscript a b pos) (dIx ta tb) := by
  obtain ⟨r, h1, h2⟩ := ix_rule (X := X)
  exact ⟨PE.imp (pe_ix h1 ha.pe hb.pe hp) (bin_go h2)⟩
/-- an item of an owned list, or of one that is only looked at -/
def dIxP (i : Nat) (tb : DE) : DE := fun env Q R => (pk env i).isSome = true ∧ tb env (fun y env1 => ∃ x, pk env1 i = some x ∧ ixD x y fun z => Q z env1) R
theorem Ly.pkR {K : PySem.W.Frag} {B : Base} {σ : L2.St} {H F : Hp} {env : Ev} (L : Ly K B σ H F env) {i : Nat} {d : PyData} {v : V} (h : pk env i = some d) (hv : σ[i]? = some (some v)) :
    Rp K F v d ∨ (∃ a xs ds, v = .ref a ∧ d = .list ds ∧ SqL K H a xs ∧ RpAll K F xs ds) ∨ ∃ a kvs ks, v = .ref a ∧ d = .dict ks ∧ H a = some (.dK kvs) ∧ RpKV K F kvs ks := by
  unfold pk at h
  split at h
  · rename_i e
    cases h
    obtain ⟨x, h1, h2⟩ := L.val i _ e
    rw [hv] at h1; cases h1
    exact .inl h2
  · rename_i e
    cases h
    obtain ⟨a, h1, _, _, h4⟩ := L.own i _ (by unfold ow; rw [e])
    rw [hv] at h1; cases h1
    cases h4 with
    | lst h r => exact .inr (.inl ⟨a, _, _, rfl, rfl, SqL.of h, r⟩)
    | dct h r => exact .inr (.inr ⟨a, _, _, rfl, rfl, h, r⟩)
  · rename_i e
    cases h
    obtain ⟨a, h1, _, _, h4⟩ := L.own i _ (by unfold ow; rw [e])
    rw [hv] at h1; cases h1
    cases h4 with
    | lst h r => exact .inr (.inl ⟨a, _, _, rfl, rfl, SqL.of h, r⟩)
    | dct h r => exact .inr (.inr ⟨a, _, _, rfl, rfl, h, r⟩)
  · rename_i e
    cases h
    obtain ⟨a, xs, h1, h2, h3⟩ := L.rd i _ e
    rw [hv] at h1; cases h1
    exact .inr (.inl ⟨a, xs, _, rfl, rfl, (L.rol.trans L.keep).sqL h2, h3⟩)
  · cases h
theorem j_ixP {a b : Expr} (i : Nat) {tb : DE} {pos : Pos} (ha : PE X a (tVar i)) (hb : JE X W b tb) (hp : PlainIx b := by exact fun _ _ => rfl) : JE X W (.Subscript a b pos) (dIxP i tb) := by
  refine ⟨PE.imp (pe_ix ix_seq ha hb.pe hp) fun σ H Q ⟨B, F, env, Qd, R, A, ⟨h0, q⟩, k⟩ => ?_⟩
  obtain ⟨d0, h0⟩ := Option.isSome_iff_exists.mp h0
  obtain ⟨v, hv⟩ := A.ly.pkV h0
  refine ⟨v, hv, A.go (t := tb) q fun y dy H1 F1 env1 a1 A1 ⟨x, hx, q1⟩ => ?_⟩
  rcases a1.ly.pkR hx hv with r | ⟨a, xs, ds, rfl, rfl, s, r⟩ | ⟨a, kvs, ks, rfl, rfl, _, _⟩
  · unfold ixD at q1
    split at q1
    · obtain ⟨d, e, q1⟩ := q1
      cases r with
      | lst s r =>
      have ry := a1.rp
      cases ry
      obtain ⟨v', e', rv⟩ := r.atI e
      exact .inl ⟨_, _, _, v', rfl, rfl, SqL.of (A1.ly.sub _ _ s), e', k _ _ H1 F1 env1 ⟨a1.ly, a1.le, rv⟩ q1⟩
    · obtain ⟨d, e, q1⟩ := q1
      cases r with
      | tup s r =>
      have ry := a1.rp
      cases ry
      obtain ⟨v', e', rv⟩ := r.atI e
      exact .inr (.inl ⟨_, _, _, v', rfl, rfl, A1.ly.sub.sqT s, e', k _ _ H1 F1 env1 ⟨a1.ly, a1.le, rv⟩ q1⟩)
    · obtain ⟨hl, c, e, q1⟩ := q1
      cases r
      have ry := a1.rp
      cases ry
      exact .inr (.inr ⟨_, _, c, rfl, rfl, hl, e, k _ _ H1 F1 env1 ⟨a1.ly, a1.le, .str _⟩ q1⟩)
    · exact q1.elim
  · cases dy with
    | int j =>
      obtain ⟨d, e, q1⟩ := q1
      have ry := a1.rp
      cases ry
      obtain ⟨v', e', rv⟩ := r.atI e
      exact .inl ⟨_, _, _, v', rfl, rfl, s, e', k _ _ H1 F1 env1 ⟨a1.ly, a1.le, rv⟩ q1⟩
    | _ => exact q1.elim
  · cases dy <;> exact q1.elim
/-- the length of an owned list -/
def dLenP (i : Nat) : DE := fun env Q _ => ∃ x, pk env i = some x ∧ lenD [x] fun z => Q z env
theorem j_lenP {p pos : Pos} {e : Expr} (i : Nat) (hg : Gl X "len") (hm : X.mg "len" = none) (he : PE X e (tVar i)) (hs : starEach [e] X.env = (false, eval e X.env) :: starEach [] X.env := by rfl) (hp : ((backTo pos (starEach [] X.env)).any fun x => x.1) = false := by rfl) :
    JE X W (.Call (.Name "len" p) [e] [] pos) (dLenP i) := by
  refine ⟨PE.imp (pe_callB call_len hg hm PySem.boot_len (pa_cons he pa_nil hs) (by decide) (by decide) hs hp) fun σ H Q ⟨B, F, env, Qd, R, A, ⟨x, hx, q⟩, k⟩ => ?_⟩
  obtain ⟨v, hv⟩ := A.ly.pkV hx
  refine ⟨v, hv, ?_⟩
  rcases A.ly.pkR hx hv with r | ⟨a, xs, ds, rfl, rfl, s, r⟩ | ⟨a, kvs, ks, rfl, rfl, _, _⟩
  · unfold lenD at q
    split at q
    · rename_i heq
      cases heq
      cases r
      exact ⟨_, _, rfl, ⟨q.1, rfl⟩, k _ _ H F env (A.af (.int _)) q.2⟩
    · rename_i heq
      cases heq
      cases r with
      | lst s r => exact ⟨_, _, rfl, .inl ⟨_, SqL.of (A.ly.sub _ _ s), rfl⟩, k _ _ H F env (A.af (by rw [r.length]; exact .int _)) q⟩
    · rename_i heq
      cases heq
      cases r with
      | tup s r => exact ⟨_, _, rfl, .inr ⟨_, A.ly.sub.sqT s, rfl⟩, k _ _ H F env (A.af (by rw [r.length]; exact .int _)) q⟩
    · exact q.elim
  · exact ⟨_, _, rfl, .inl ⟨_, s, rfl⟩, k _ _ H F env (A.af (by rw [r.length]; exact .int _)) q⟩
  · exact q.elim
/-- the truth of an owned list -/
def dTruP (i : Nat) : DT := fun env Q _ => ∃ x, pk env i = some x ∧ truthOk x ∧ Q (truth x) env
/-- own list == .., != .. -/
def dEqP (neg : Bool) (i : Nat) (tb : DE) : DE := fun env Q R => (pk env i).isSome = true ∧ tb env (fun y env1 => ∃ x, pk env1 i = some x ∧ SeqAt.shaped x = true ∧ SeqAt.shaped y = true ∧ Q (.bool (if neg = true then !PyData.eqv x y else PyData.eqv x y)) env1) R
/-! slices -/
def cutD {α : Type} (xs : List α) (lo hi : Option Int) : List α := (xs.drop (HT.sIx xs.length 0 lo)).take (HT.sIx xs.length xs.length hi - HT.sIx xs.length 0 lo)
theorem RpAll.cut {K : PySem.W.Frag} {F : Hp} {vs : List V} {ds : List PyData} (r : RpAll K F vs ds) (lo hi : Option Int) : RpAll K F (cutV vs lo hi) (cutD ds lo hi) := by
  unfold cutV cutD
  rw [r.length]
  exact (r.drop _).take _
abbrev DO := Ev → (Option Int → Ev → Prop) → (Ex → Ev → Prop) → Prop
def tO (X : Cx) (W : WX) (t : DO) : TO := fun σ H Q => ∃ B F env Qd R, At X W B σ H F env R ∧ t env Qd R ∧ ∀ o H' F' env', Ly X.K B σ H' F' env' → Le F F' → Qd o env' → Q o H'
structure JO (X : Cx) (W : WX) (e : Option Expr) (t : DO) : Prop where
  po : PO X e (tO X W t)
theorem At.goO {Qd : Option Int → Ev → Prop} {t : DO} (A : At X W B σ H F env R) (h : t env Qd R) {Q : Option Int → Hp → Prop} (k : ∀ b H' F' env', Le F F' → At X W B σ H' F' env' R → Qd b env' → Q b H') : tO X W t σ H Q :=
  ⟨B, F, env, Qd, R, A, h, fun b H' F' env' a le q => k b H' F' env' le ⟨a, A.wi⟩ q⟩
def dNo : DO := fun env Q _ => Q none env
def dSo (t : DE) : DO := fun env Q R => t env (fun d env1 => ∃ i, d = .int i ∧ Q (some i) env1) R
theorem PO.imp {e : Option Expr} {t t' : TO} (h : PO X e t) (k : ∀ σ H Q, t' σ H Q → t σ H Q) : PO X e t' := ⟨fun pins s σ H Q I q => h.run pins s σ H Q I (k _ _ _ q)⟩
theorem jo_none : JO X W none dNo := ⟨PO.imp po_none fun σ H Q ⟨B, F, env, Qd, R, A, q, k⟩ => k none H F env A.ly (Le.refl _) q⟩
theorem jo_some {e : Expr} {t : DE} (h : JE X W e t) : JO X W (some e) (dSo t) := ⟨PO.imp (po_some h.pe) fun σ H Q ⟨B, F, env, Qd, R, A, q, k⟩ => A.go (t := t) q fun v d H1 F1 env1 a A1 ⟨i, e1, q1⟩ => by
  subst e1
  have r := a.rp
  cases r
  exact ⟨i, rfl, k _ H1 F1 env1 a.ly a.le q1⟩⟩
def slD : PyData → Option Int → Option Int → (PyData → Prop) → Prop
  | .list xs, lo, hi, k => k (.list (cutD xs lo hi))
  | .tuple xs, lo, hi, k => k (.tuple (cutD xs lo hi))
  | .str x, lo, hi, k => x.length ≤ sizeLine ∧ k (.str (cutS x lo hi))
  | _, _, _, _ => False
def dSl (t : DE) (tl th : DO) : DE := fun env Q R => t env (fun x env1 => tl env1 (fun lo env2 => th env2 (fun hi env3 => slD x lo hi fun z => Q z env3) R) R) R
theorem cut_all {α : Type} {xs : List α} {lo hi : Option Int} (h : HT.sIx xs.length 0 lo = 0 ∧ HT.sIx xs.length xs.length hi = xs.length) : cutD xs lo hi = xs := by
  unfold cutD
  rw [h.1, h.2]
  simp
theorem j_sl {e : Expr} {elo ehi : Option Expr} {t : DE} {tl th : DO} {pos p2 : Pos} (he : JE X W e t) (hl : JO X W elo tl) (hh : JO X W ehi th) : JE X W (.Subscript e (.Slice elo ehi none p2) pos) (dSl t tl th) := by
  have rule : SlR X (fun x lo hi H Q => rSlL X.K x lo hi H Q ∨ rSlZ X.K x lo hi H Q ∨ rSlS x lo hi H Q) := sl_list.or (sl_tupZ.or sl_str)
  refine ⟨PE.imp (pe_slice rule he.pe hl.po hh.po) fun σ H Q ⟨B, F, env, Qd, R, A, q, k⟩ => ?_⟩
  refine A.go (t := t) q fun v d H1 F1 env1 a1 A1 q1 => A1.goO (t := tl) q1 fun lo H2 F2 env2 l2 A2 q2 => A2.goO (t := th) q2 fun hi H3 F3 env3 l3 A3 q3 => ?_
  have r := a1.rp.le (l2.trans l3)
  have le := (a1.le.trans l2).trans l3
  cases r with
  | lst s r =>
    refine .inl ⟨_, _, rfl, SqL.of (A3.ly.sub _ _ s), fun p hp => ?_⟩
    obtain ⟨F', _, af⟩ := (A3.laid hp (.lst upd_same (r.cut lo hi))).af
    exact k _ _ _ _ _ ⟨af.ly, le.trans af.le, af.rp⟩ q3
  | tup s r =>
    refine .inr (.inl ⟨_, _, rfl, A3.ly.sub.sqT s, fun hz => ?_, fun hz p ob hp ho => ?_⟩)
    · rw [r.length] at hz
      have q3 : Qd (.tuple (cutD _ lo hi)) env3 := q3
      rw [cut_all hz] at q3
      exact k _ _ H3 F3 env3 ⟨A3.ly, le, .tup s r⟩ q3
    · have af := A3.laidT hp ho (r.cut lo hi)
      exact k _ _ _ _ _ ⟨af.ly, le.trans af.le, af.rp⟩ q3
  | str x => exact .inr (.inr ⟨_, rfl, q3.1, k _ _ H3 F3 env3 ⟨A3.ly, le, .str _⟩ q3.2⟩)
  | non => exact q3.elim
  | bl b => exact q3.elim
  | int i => exact q3.elim
  | dct s a => exact q3.elim
/-- a < b < c -/
theorem j_chain {a b c : Expr} {ta tb tc : DE} {pos : Pos} {op op' : CmpOp} {f f' : PyData → PyData → (PyData → Prop) → Prop} (o : OpS X (compareOp op) f) (o' : OpS X (compareOp op') f') (ha : JE X W a ta) (hb : JE X W b tb) (hc : JE X W c tc)
    (hm : lastMarks [op, op'] [b, c] = false := by rfl) : JE X W (.Compare a [op, op'] [b, c] pos) (dChain f f' ta tb tc) := by
  obtain ⟨r, h1, h2⟩ := o.go
  obtain ⟨r', h1', h2'⟩ := o'.go
  refine ⟨PE.imp (pe_chain h1 h1' ha.pe hb.pe hc.pe hm) fun σ H Q ⟨B, F, env, Qd, R, A, q, k⟩ => ?_⟩
  refine A.go (t := ta) q fun v1 d1 H1 F1 env1 a1 A1 q1 => A1.go (t := tb) q1 fun v2 d2 H2 F2 env2 a2 A2 q2 => ?_
  refine h2 W B σ H2 F2 env2 R v1 v2 d1 d2 _ _ A2 (a1.rp.le a2.le) a2.rp q2 fun v d H3 F3 a3 q3 => ?_
  obtain ⟨b, e, q3⟩ := q3
  subst e
  have r3 := a3.rp
  cases r3
  refine ⟨b, rfl, ?_⟩
  have A3 : At X W B σ H3 F3 env2 R := ⟨a3.ly, A2.wi⟩
  have le3 := (a1.le.trans a2.le).trans a3.le
  cases b with
  | true =>
    refine iteT (A3.go (t := tc) ((if_pos rfl).mp q3) fun v4 d4 H4 F4 env4 a4 A4 q4 => ?_)
    exact h2' W B σ H4 F4 env4 R v2 v4 d2 d4 _ _ A4 (a2.rp.le (a3.le.trans a4.le)) a4.rp q4 fun v5 d5 H5 F5 a5 q5 => k v5 d5 H5 F5 env4 ⟨a5.ly, (le3.trans a4.le).trans a5.le, a5.rp⟩ q5
  | false => exact iteF (k _ _ H3 F3 env2 ⟨a3.ly, le3, .bl false⟩ ((if_neg Bool.false_ne_true).mp q3))
end
end BX
/-! D6 -/
namespace BX
open PySem PySem.Spec L2

/-- what is at hand in a body: nothing is being handled, there is room, errors go where W says -/
structure Gd (X : Cx) (W : WX) (n : Nat) : Prop where
  calm : X.calm = true
  nd : X.N.Nodup
  room : Room n X.A
  tk : Takes X W
  po : PassesOwn (model X.prog X.w) X.A X.env X.xe
  gu : X.A.guards = some []
theorem Gd.u64 {X : Cx} {W : WX} {n : Nat} (g : Gd X W n) : X.A.units + 64 < cLine := g.room.units
theorem Gd.u65 {X : Cx} {W : WX} {n : Nat} (g : Gd X W n) : X.A.units + 65 < cLine := by have := g.room.un; omega
/-! ### targets -/
abbrev DG := PyData → Ev → (Ev → Prop) → Prop
def tG (X : Cx) (W : WX) (t : DG) : TG := fun v σ H Q => ∃ B F env d R Qe, At X W B σ H F env R ∧ Rp X.K F v d ∧ t d env Qe ∧ ∀ σ' H' F' env', Ly X.K B σ' H' F' env' → Le F F' → Qe env' → Q σ' H'
abbrev DGs := List PyData → Ev → (Ev → Prop) → Prop
def tGs (X : Cx) (W : WX) (t : DGs) : TGs := fun vs σ H Q => ∃ B F env ds R Qe, At X W B σ H F env R ∧ RpAll X.K F vs ds ∧ t ds env Qe ∧ ∀ σ' H' F' env', Ly X.K B σ' H' F' env' → Le F F' → Qe env' → Q σ' H'
structure JG (X : Cx) (W : WX) (e : Expr) (t : DG) : Prop where
  pg : PG X e (tG X W t)
structure JGs (X : Cx) (W : WX) (e : List Expr) (t : DGs) : Prop where
  pg : PGs X e (tGs X W t)
section
variable {X : Cx} {W : WX} {B : Base} {σ : L2.St} {H F : Hp} {env : Ev} {R : Ex → Ev → Prop} {n : Nat}
theorem PG.imp {e : Expr} {t t' : TG} (h : PG X e t) (k : ∀ v σ H Q, t' v σ H Q → t v σ H Q) : PG X e t' := ⟨fun pins s σ H v u Q I r q => h.run pins s σ H v u Q I r (k _ _ _ _ q)⟩
theorem PGs.imp {e : List Expr} {t t' : TGs} (h : PGs X e t) (k : ∀ v σ H Q, t' v σ H Q → t v σ H Q) : PGs X e t' := ⟨fun pins s σ H v u Q I r q => h.run pins s σ H v u Q I r (k _ _ _ _ q)⟩
def gN (i : Nat) : DG := fun d env Q => Q (env.set i (.v d))
theorem jg_name {pos : Pos} {x : Str} (i : Nat) (h : PG X (.Name x pos) (gName i)) : JG X W (.Name x pos) (gN i) :=
  ⟨PG.imp h fun v σ H Q ⟨B, F, env, d, R, Qe, A, r, q, k⟩ => k _ H F _ (A.ly.setV r) (Le.refl _) q⟩
def gsNil : DGs := fun ds env Q => ds = [] ∧ Q env
def gsCons (g : DG) (gs : DGs) : DGs := fun ds env Q => ∃ d r, ds = d :: r ∧ g d env fun env' => gs r env' Q
theorem jgs_nil : JGs X W [] gsNil := ⟨PGs.imp pgs_nil fun v σ H Q ⟨B, F, env, d, R, Qe, A, r, ⟨e, q⟩, k⟩ => by
  subst e
  cases r
  exact ⟨rfl, k σ H F env A.ly (Le.refl _) q⟩⟩
theorem jgs_cons {e : Expr} {es : List Expr} {g : DG} {gs : DGs} (h1 : JG X W e g) (h2 : JGs X W es gs) (hs : (assignEach (e :: es) X.env).map (·.2) = assign e X.env :: (assignEach es X.env).map (·.2) := by rfl) : JGs X W (e :: es) (gsCons g gs) :=
  ⟨PGs.imp (pgs_cons h1.pg h2.pg hs) fun v σ H Q ⟨B, F, env, d, R, Qe, A, r, ⟨d1, dr, e, q⟩, k⟩ => by
    subst e
    cases r with
    | cons r rr =>
    exact ⟨_, _, rfl, B, F, env, d1, R, _, A, r, q, fun σ1 H1 F1 env1 L1 le1 q1 => ⟨B, F1, env1, dr, R, Qe, ⟨L1, A.wi⟩, rr.le le1, q1, fun σ2 H2 F2 env2 L2' le2 q2 => k σ2 H2 F2 env2 L2' (le1.trans le2) q2⟩⟩⟩
/-- (a, b, ..) = a tuple -/
def gTp (n : Nat) (gs : DGs) : DG := fun d env Q => ∃ ds, d = .tuple ds ∧ ds.length = n ∧ gs ds env Q
theorem jg_tup {es : List Expr} {k : Nat} {gs : DGs} {pos : Pos} {m : Nat} (hc : X.calm = true) (h : JGs X W es gs) (hn : (assignEach es X.env).length = m := by rfl) (hst : (assignEach es X.env).findIdx? (·.1) = none := by rfl) : JG X W (.Tuple es k pos) (gTp m gs) :=
  ⟨PG.imp (pg_tup hc h.pg hn hst) fun v σ H Q ⟨B, F, env, d, R, Qe, A, r, ⟨ds, e, hl, q⟩, k⟩ => by
    subst e
    cases r with
    | tup s r => exact ⟨_, _, rfl, A.ly.sub.sqT s, by rw [r.length]; exact hl, B, F, env, ds, R, Qe, A, r, q, k⟩⟩

/-! ### statements -/
structure DEnds where
  nx : Ev → Prop
  rt : PyData → Ev → Prop
  bk : Ev → Prop := fun _ => False
  ct : Ev → Prop := fun _ => False
  rs : Ex → Ev → Prop := fun _ _ => False
  own : Bool := false
abbrev DS := DEnds → Ev → Prop
/-- what is handed back: data, or a new object that is the caller's from now on -/
def RtV (K : PySem.W.Frag) (B : Base) (σ : L2.St) (F H : Hp) (env : Ev) (own : Bool) (v : V) (x : PyData) : Prop := match own with
  | true => ∃ p, v = .ref p ∧ F p = none ∧ B.fr p = none ∧ Ow K F H p x ∧ ∀ (j : Nat) d', ow env j = some d' → σ[j]? ≠ some (some (.ref p))
  | false => Rp K F v x
/-- how the ends of data end the body -/
structure EndsOk (X : Cx) (B : Base) (F : Hp) (d : DEnds) (D : Ends) : Prop where
  nx : ∀ σ H' F' env', Ly X.K B σ H' F' env' → Le F F' → d.nx env' → D.nx σ H'
  rt : ∀ σ H' F' env' v x, Ly X.K B σ H' F' env' → Le F F' → RtV X.K B σ F' H' env' d.own v x → d.rt x env' → D.rt v H'
  bk : ∀ σ H' F' env', Ly X.K B σ H' F' env' → Le F F' → d.bk env' → D.bk σ H'
  ct : ∀ σ H' F' env', Ly X.K B σ H' F' env' → Le F F' → d.ct env' → D.ct σ H'
theorem EndsOk.le {B : Base} {F F' : Hp} {d : DEnds} {D : Ends} (e : EndsOk X B F d D) (l : Le F F') : EndsOk X B F' d D :=
  ⟨fun σ H' F'' env' L le => e.nx σ H' F'' env' L (l.trans le), fun σ H' F'' env' v x L le => e.rt σ H' F'' env' v x L (l.trans le), fun σ H' F'' env' L le => e.bk σ H' F'' env' L (l.trans le), fun σ H' F'' env' L le => e.ct σ H' F'' env' L (l.trans le)⟩
def tS (X : Cx) (W : WX) (t : DS) : TS := fun D σ H => ∃ B F env d, At X W B σ H F env d.rs ∧ t d env ∧ EndsOk X B F d D
structure JS (X : Cx) (W : WX) (st : Stmt) (t : DS) : Prop where
  ps : PS X st (tS X W t)
structure JSs (X : Cx) (W : WX) (st : List Stmt) (t : DS) : Prop where
  ps : PSs X st (tS X W t)
theorem PS.imp {e : Stmt} {t t' : TS} (h : PS X e t) (k : ∀ D σ H, t' D σ H → t D σ H) : PS X e t' := ⟨fun pins s σ H D I q => h.run pins s σ H D I (k _ _ _ q)⟩
theorem PSs.imp {e : List Stmt} {t t' : TS} (h : PSs X e t) (k : ∀ D σ H, t' D σ H → t D σ H) : PSs X e t' := ⟨fun pins s σ H D I q => h.run pins s σ H D I (k _ _ _ q)⟩
def sNil : DS := fun D env => D.nx env
def sSeq (t u : DS) : DS := fun D env => t { D with nx := u D } env
theorem js_nil : JSs X W [] sNil := ⟨PSs.imp pss_nil fun D σ H ⟨B, F, env, d, A, q, k⟩ => k.nx σ H F env A.ly (Le.refl _) q⟩
theorem js_cons {s : Stmt} {ss : List Stmt} {t u : DS} (h : JS X W s t) (h' : JSs X W ss u) : JSs X W (s :: ss) (sSeq t u) :=
  ⟨PSs.imp (pss_cons h.ps h'.ps) fun D σ H ⟨B, F, env, d, A, q, k⟩ => ⟨B, F, env, { d with nx := u d }, A, q, ⟨fun σ1 H1 F1 env1 L le q1 => ⟨B, F1, env1, d, ⟨L, A.wi⟩, q1, k.le le⟩, k.rt, k.bk, k.ct⟩⟩⟩
def sAsg (t : DE) (g : DG) : DS := fun D env => t env (fun d env1 => g d env1 D.nx) D.rs
def sSet (i : Nat) (t : DE) : DS := fun D env => t env (fun d env1 => D.nx (env1.set i (.v d))) D.rs
def sSetO (i : Nat) (t : DE) : DS := fun D env => t env (fun d env1 => D.nx (env1.set i (.o d))) D.rs
theorem asg_go {t : DE} {g : DG} {D : Ends} {h : tS X W (sAsg t g) D σ H} : tAsg (tE X W t) (tG X W g) D σ H := by
  obtain ⟨B, F, env, d, A, q, k⟩ := h
  exact A.go (t := t) q fun v x H1 F1 env1 a A1 q1 => ⟨B, F1, env1, x, d.rs, d.nx, A1, a.rp, q1, fun σ2 H2 F2 env2 L le q2 => k.nx σ2 H2 F2 env2 L (a.le.trans le) q2⟩
theorem js_asg {tg e : Expr} {t : DE} {g : DG} {pos : Pos} (he : JE X W e t) (hg : JG X W tg g) (hs : swapsWithSole [tg] e pos.line X.env = pure false := by rfl) (hw : swappedStores [tg] e X.env = pure none := by rfl)
    (h1 : (assignEach [tg] X.env).map (·.2) = [assign tg X.env] := by rfl) : JS X W (.Assign [tg] e pos) (sAsg t g) :=
  ⟨PS.imp (ps_asg he.pe hg.pg hs hw h1) fun D σ H q => asg_go (h := q)⟩
theorem js_set {x : Str} {e : Expr} {t : DE} {pos pos' : Pos} (i : Nat) (h : ∀ te, PE X e te → PS X (.Assign [.Name x pos'] e pos) (tAsg te (gName i))) (he : JE X W e t) : JS X W (.Assign [.Name x pos'] e pos) (sSet i t) :=
  ⟨PS.imp (h _ he.pe) fun D σ H ⟨B, F, env, d, A, q, k⟩ => A.go (t := t) q fun v x H1 F1 env1 a A1 q1 => k.nx _ H1 F1 _ (a.ly.setV a.rp) a.le q1⟩
theorem AfN.setO {B : Base} {v : V} {d : PyData} {H' F' : Hp} {env' : Ev} (a : AfN X B σ F v d H' F' env') (i : Nat) : Ly X.K B (σ.set i (some v)) H' F' (env'.set i (.o d)) := by
  obtain ⟨p, rfl, h1, h2, h3, h4⟩ := a.ow
  exact a.ly.setO h1 h2 h3 fun j d' e _ => h4 j d' e
theorem js_setO {x : Str} {e : Expr} {t : DE} {pos pos' : Pos} (i : Nat) (h : ∀ te, PE X e te → PS X (.Assign [.Name x pos'] e pos) (tAsg te (gName i))) (he : JN X W e t) : JS X W (.Assign [.Name x pos'] e pos) (sSetO i t) :=
  ⟨PS.imp (h _ he.pe) fun D σ H ⟨B, F, env, d, A, q, k⟩ => A.goN (t := t) q fun v x H1 F1 env1 a A1 q1 => k.nx _ H1 F1 _ (a.setO i) a.le q1⟩
def sRet (t : DE) : DS := fun D env => D.own = false ∧ t env D.rt D.rs
theorem js_ret {e : Expr} {t : DE} {pos : Pos} (he : JE X W e t) : JS X W (.Return (some e) pos) (sRet t) :=
  ⟨PS.imp (ps_ret he.pe) fun D σ H ⟨B, F, env, d, A, ⟨ho, q⟩, k⟩ => A.go (t := t) q fun v x H1 F1 env1 a A1 q1 => k.rt σ H1 F1 env1 v x a.ly a.le (by rw [ho]; exact a.rp) q1⟩
def sRetN : DS := fun D env => D.own = false ∧ D.rt .none env
/-- a new object is handed over -/
def sRetO (t : DE) : DS := fun D env => D.own = true ∧ t env D.rt D.rs
theorem js_retO {e : Expr} {t : DE} {pos : Pos} (he : JN X W e t) : JS X W (.Return (some e) pos) (sRetO t) :=
  ⟨PS.imp (ps_ret he.pe) fun D σ H ⟨B, F, env, d, A, ⟨ho, q⟩, k⟩ => A.goN (t := t) q fun v x H1 F1 env1 a A1 q1 => k.rt σ H1 F1 env1 v x a.ly a.le (by rw [ho]; exact a.ow) q1⟩
def sExpr (t : DE) : DS := fun D env => t env (fun _ env1 => D.nx env1) D.rs
theorem js_expr {e : Expr} {t : DE} {pos : Pos} (he : JE X W e t) (hs : swapsWith e none pos.line X.env = pure false := by rfl) : JS X W (.Expr e pos) (sExpr t) :=
  ⟨PS.imp (ps_expr he.pe hs) fun D σ H ⟨B, F, env, d, A, q, k⟩ => A.go (t := t) q fun v x H1 F1 env1 a A1 q1 => k.nx σ H1 F1 env1 a.ly a.le q1⟩
def sBrk : DS := fun D env => D.bk env
def sCnt : DS := fun D env => D.ct env
def sIf (c : DT) (t u : DS) : DS := fun D env => c env (fun b env1 => if b = true then t D env1 else u D env1) D.rs
theorem js_if {c : Expr} {a b : List Stmt} {tc : DT} {t u : DS} {pos : Pos} (hc : JT X W c tc) (ha : JSs X W a t) (hb : JSs X W b u) : JS X W (.If c a b pos) (sIf tc t u) :=
  ⟨PS.imp (ps_if hc.pt ha.ps hb.ps) fun D σ H ⟨B, F, env, d, A, q, k⟩ => A.goT (t := tc) q fun b H1 F1 env1 le A1 q1 => by
    cases b with
    | true => exact iteT ⟨B, F1, env1, d, A1, (if_pos rfl).mp q1, k.le le⟩
    | false => exact iteF ⟨B, F1, env1, d, A1, (if_neg Bool.false_ne_true).mp q1, k.le le⟩⟩
/-- a statement that is never reached -/
def sNever : DS := fun _ _ => False
theorem js_never {s : Stmt} : JS X W s sNever := ⟨PS.imp ps_never fun D σ H ⟨B, F, env, d, A, q, k⟩ => q⟩
/-! name += e -/
def sAug (i : Nat) (f : PyData → PyData → (PyData → Prop) → Prop) (t : DE) : DS := fun D env => ∃ x, env[i]? = some (.v x) ∧ t env (fun y env1 => f x y fun z => D.nx (env1.set i (.v z))) D.rs
theorem js_augI {x : Str} {e : Expr} {t : DE} {pos pos' : Pos} {op : Operator} {g : Int → Int → Int} (i : Nat) (h : ∀ te ti, PE X e te → PIp X op ti → PS X (.AugAssign (.Name x pos') op e pos) (tAug i te ti)) (hi : PIp X op (ipI g)) (he : JE X W e t) :
    JS X W (.AugAssign (.Name x pos') op e pos) (sAug i (int2 (fun _ _ => True) fun a b => .int (g a b)) t) :=
  ⟨PS.imp (h _ _ he.pe hi) fun D σ H ⟨B, F, env, d, A, ⟨x, e1, q⟩, k⟩ => by
    obtain ⟨v, hv, rv⟩ := A.ly.val i x e1
    refine ⟨v, hv, A.go (t := t) q fun v2 y H1 F1 env1 a A1 q1 => ?_⟩
    obtain ⟨m, j, rfl, rfl, _, q2⟩ := int2_of q1
    cases rv
    have ry := a.rp
    cases ry
    exact ⟨m, j, rfl, rfl, k.nx _ H1 F1 _ (a.ly.setV (.int _)) a.le q2⟩⟩
/-! xs.append(e), xs.pop(), xs.pop(i), xs[i] = e of an owned list -/
def sApp (i : Nat) (t : DE) : DS := fun D env => (∃ d0, ow env i = some (.list d0)) ∧ t env (fun d env1 => ∃ ds, ow env1 i = some (.list ds) ∧ ds.length < sizeLine ∧ D.nx (putO env1 i (.list (ds ++ [d])))) D.rs
theorem js_app {o e : Expr} {t : DE} {apos cpos pos : Pos} (i : Nat) (ho : PE X o (tVar i)) (he : JE X W e t)
    (h1 : attributeBase o "append" X.env (eval o X.env) = eval o X.env := by rfl)
    (h2 : ((((backTo cpos (starEach [e] X.env)).all fun x => !x.1) && (backToKw cpos (keywordEach [] X.env)).all fun x => x.1.isSome) && decide (([e].length + ([] : List Keyword).length + if ([] : List Keyword).isEmpty = true then 0 else 1) < 30)) = true := by rfl)
    (h3 : (apos.endLine == cpos.line) = true := by rfl) (h4 : starEach [e] X.env = (false, eval e X.env) :: starEach [] X.env := by rfl) (h5 : ((backTo cpos (starEach [] X.env)).any fun x => x.1) = false := by rfl)
    (hs : swapsWith (.Call (.Attribute o "append" apos) [e] [] cpos) none pos.line X.env = pure false := by rfl) : JS X W (.Expr (.Call (.Attribute o "append" apos) [e] [] cpos) pos) (sApp i t) :=
  ⟨PS.imp (ps_expr (pe_bm PySem.F.plainAttrs_list PySem.F.slot_list_append PySem.F.type_list_append mt_append ho (pa_cons he.pe pa_nil h4) h1 h2 h3 h4 h5) hs) fun D σ H ⟨B, F, env, d, A, ⟨h0, q⟩, k⟩ => by
    obtain ⟨d0, h0⟩ := h0
    obtain ⟨a, ha, _, _, hw⟩ := A.ly.own i _ h0
    refine ⟨.ref a, ha, ?_, A.go (t := t) q fun v x H1 F1 env1 af A1 ⟨ds, h1, hl, q1⟩ => ?_⟩
    · cases hw with
      | lst e r => exact .inl ⟨rfl, _, SqL.of e⟩
    · obtain ⟨a', ha', _, _, hw'⟩ := af.ly.own i _ h1
      rw [ha] at ha'; cases ha'
      cases hw' with
      | lst e r =>
        refine ⟨a, _, v, rfl, rfl, e, by rw [r.length]; exact hl, ?_⟩
        exact k.nx _ _ F1 _ (af.ly.write h1 ha (.lst upd_same (r.append (.one af.rp)))) af.le q1⟩
/-- xs.pop() -/
def dPop (i : Nat) : DE := fun env Q _ => ∃ ds d, ow env i = some (.list ds) ∧ ds[ds.length - 1]? = some d ∧ Q d (putO env i (.list ds.dropLast))
/-- xs.pop(e) -/
def dPopAt (i : Nat) (t : DE) : DE := fun env Q R => (∃ d0, ow env i = some (.list d0)) ∧ t env (fun y env1 => ∃ ds j k d, y = .int j ∧ ow env1 i = some (.list ds) ∧ (-(2 ^ 63) ≤ j ∧ j < 2 ^ 63) ∧ seqIndex? j ds.length = some k ∧ ds[k]? = some d ∧ Q d (putO env1 i (.list (ds.eraseIdx k)))) R
/-- xs[e] = e2 of an owned list -/
def gIx (i : Nat) (t : DE) : DG := fun d env Q => (ow env i).isSome = true ∧ t env (fun y env1 => ∃ ds j k, y = .int j ∧ ow env1 i = some (.list ds) ∧ ixN ds.length j = some k ∧ Q (putO env1 i (.list (ds.set k d)))) (fun _ _ => False)
theorem jg_ix {o e : Expr} {t : DE} {pos : Pos} (i : Nat) (ho : PE X o (tVar i)) (he : JE X W e t)
    (ha : ∀ v, assign (.Subscript o e pos) X.env v = (do
      let a1 ← holding [v] (eval o X.env)
      let a2 ← holding [v, a1] (eval e X.env)
      standAt pos
      holding [v, a1, a2] (setItem a1 a2 v)
      release [v, a1, a2] []) := by intro _; rfl) : JG X W (.Subscript o e pos) (gIx i t) :=
  ⟨PG.imp (pg_sub ho he.pe set_list ha) fun v σ H Q ⟨B, F, env, d, R, Qe, A, r, ⟨h0, q⟩, k⟩ => by
    obtain ⟨d0, h0⟩ := Option.isSome_iff_exists.mp h0
    obtain ⟨a, ha, _, _, hw⟩ := A.ly.own i d0 h0
    have A0 : At X W B σ H F env (fun _ _ => False) := ⟨A.ly, fun cls dd σ' H' ⟨_, _, _, _, _, z⟩ => z.elim⟩
    refine ⟨.ref a, ha, A0.go (t := t) q fun v2 y H1 F1 env1 af A1 ⟨ds, j, m, ey, h1, hk, q1⟩ => ?_⟩
    subst ey
    have ry := af.rp
    cases ry
    obtain ⟨a', ha', _, _, hw'⟩ := af.ly.own i _ h1
    rw [ha] at ha'; cases ha'
    cases hw' with
    | lst e r2 =>
      refine ⟨a, _, j, m, rfl, rfl, e, by rw [r2.length]; exact hk, ?_⟩
      exact k _ _ F1 _ (af.ly.write h1 ha (.lst upd_same (r2.set (r.le af.le) m))) af.le q1⟩
end
end BX
/-! D7 -/
namespace BX
open PySem PySem.Spec L2

/-! ### what is walked -/
abbrev DI := Ev → (List PyData → Ev → Prop) → (Ex → Ev → Prop) → Prop
structure ItOk (K : PySem.W.Frag) (J : It) (B : Base) (F : Hp) (ds : List PyData) : Prop where
  stop : ∀ H, Le F H → Le B.fr H → J.stop ds.length H
  go : ∀ i H, i < ds.length → Le F H → Le B.fr H → J.go i H
  yld : ∀ i d H x H', ds[i]? = some d → Le F H → Le B.fr H → J.yld i H x H' → (H' = H ∧ Rp K F x d) ∨ ∃ p ob xs es, H p = none ∧ ob.dict = none ∧ x = .ref p ∧ H' = upd H p (.frz ob (.tup xs)) ∧ d = .tuple es ∧ RpAll K F xs es
def tI (X : Cx) (W : WX) (t : DI) : TI := fun σ H R' => ∃ B F env Qd R, At X W B σ H F env R ∧ t env Qd R ∧ ∀ ds J H' F' env', Ly X.K B σ H' F' env' → Le F F' → ItOk X.K J B F' ds → Qd ds env' → R' J H'
structure JI (X : Cx) (W : WX) (tg e : Expr) (t : DI) : Prop where
  pi : PI X tg e (tI X W t)
section
variable {X : Cx} {W : WX} {B : Base} {σ : L2.St} {H F : Hp} {env : Ev} {R : Ex → Ev → Prop} {n : Nat} {tg : Expr}
theorem PI.imp {tg e : Expr} {t t' : TI} (h : PI X tg e t) (k : ∀ σ H Q, t' σ H Q → t σ H Q) : PI X tg e t' := ⟨fun pins s σ H Q I q => h.run pins s σ H Q I (k _ _ _ q)⟩
def iSeq (K : PySem.W.Frag) (tl : TE) : TI := fun σ H R => tl σ H fun x H1 => ∃ a, x = .ref a ∧ (((∃ xs, SqL K H1 a xs) ∧ R (Itl K a) H1) ∨ ((∃ xs, SqT K H1 a xs) ∧ R (Itt K a) H1))
/-- either of the two walks, by the library's one word for an iterator just laid -/
theorem pi_seq {l : Expr} {tl : TE} (hl : PE X l tl) : PI X tg l (iSeq X.K tl) where
  run pins s σ H R I h := thn (hl.run pins s σ H _ I h) fun v t ⟨x, G, J, rel, a, e, q⟩ => by
    subst e
    obtain rfl : v = .ref a := rel
    rcases q with ⟨⟨_, sq⟩, q⟩ | ⟨⟨_, sq⟩, q⟩
    · obtain ⟨its, _, pl, _⟩ := J.list sq
      exact wpAny_pyIter_list pl.isList (pi_one (tk := t.toks) J _ (turn_list a _) ⟨_, Heap.get?_push_size _ rfl, rfl, rfl⟩ q)
    · obtain ⟨its, _, pl, _⟩ := J.tuple sq
      exact wpAny_pyIter_tuple (items := its.toArray) pl (pi_one (tk := t.toks) J _ (turn_tuple a _) ⟨_, Heap.get?_push_size _ rfl, rfl, rfl⟩ q)
theorem itl_ok {K : PySem.W.Frag} {a : Addr} {xs : List V} {ds : List PyData} (s : F a = some (.lst xs)) (r : RpAll K F xs ds) : ItOk K (Itl K a) B F ds where
  stop := fun H l _ => ⟨xs, SqL.of (l _ _ s), by rw [r.length]; exact Nat.le_refl _⟩
  go := fun i H hi l _ => ⟨xs, xs[i]'(by rw [r.length]; exact hi), SqL.of (l _ _ s), List.getElem?_eq_getElem _⟩
  yld := fun i d H x H' hd l _ ⟨e, hy⟩ => by
    obtain ⟨v, h1, h2⟩ := r.get hd
    have := hy xs (SqL.of (l _ _ s))
    rw [h1] at this; cases this
    exact .inl ⟨e, h2⟩
theorem itt_ok {K : PySem.W.Frag} {a : Addr} {xs : List V} {ds : List PyData} (s : SqD K F a xs) (r : RpAll K F xs ds) : ItOk K (Itt K a) B F ds where
  stop := fun H l _ => ⟨xs, l.sqT s, by rw [r.length]; exact Nat.le_refl _⟩
  go := fun i H hi l _ => ⟨xs, xs[i]'(by rw [r.length]; exact hi), l.sqT s, List.getElem?_eq_getElem _⟩
  yld := fun i d H x H' hd l _ ⟨e, hy⟩ => by
    obtain ⟨v, h1, h2⟩ := r.get hd
    have := hy xs (l.sqT s)
    rw [h1] at this; cases this
    exact .inl ⟨e, h2⟩
/-- the items of a list, a tuple -/
def itemsD : PyData → Option (List PyData)
  | .list xs => some xs
  | .tuple xs => some xs
  | _ => none
def iD (t : DE) : DI := fun env Q R => t env (fun d env1 => ∃ ds, itemsD d = some ds ∧ Q ds env1) R
theorem ji_seq {e : Expr} {t : DE} (h : JE X W e t) : JI X W tg e (iD t) :=
  ⟨PI.imp (pi_seq h.pe) fun σ H Q ⟨B, F, env, Qd, R, A, q, k⟩ => A.go (t := t) q fun v d H1 F1 env1 a A1 ⟨ds, e1, q1⟩ => by
    have r := a.rp
    cases d with
    | list xs =>
      cases e1
      cases r with
      | lst s r => exact ⟨_, rfl, .inl ⟨⟨_, SqL.of (a.ly.sub _ _ s)⟩, k _ _ H1 F1 env1 a.ly a.le (itl_ok s r) q1⟩⟩
    | tuple xs =>
      cases e1
      cases r with
      | tup s r => exact ⟨_, rfl, .inr ⟨⟨_, a.ly.sub.sqT s⟩, k _ _ H1 F1 env1 a.ly a.le (itt_ok s r) q1⟩⟩
    | _ => cases e1⟩
/-- the signs of a text -/
def signs (x : Str) : List PyData := x.cps.toList.map fun c => .str ⟨#[c]⟩
def iS (t : DE) : DI := fun env Q R => t env (fun d env1 => ∃ x, d = .str x ∧ Q (signs x) env1) R
theorem its_ok {K : PySem.W.Frag} {x : Str} : ItOk K (Its x) B F (signs x) where
  stop := fun H l _ => by show x.cps.size ≤ (signs x).length; simp [signs]
  go := fun i H hi l _ => by show i < x.cps.size; simpa [signs] using hi
  yld := fun i d H v H' hd l _ ⟨e, c, h1, h2⟩ => by
    refine .inl ⟨e, ?_⟩
    subst h2
    have h3 : (signs x)[i]? = some (.str ⟨#[c]⟩) := by
      unfold signs
      rw [List.getElem?_map, Array.getElem?_toList, h1]
      rfl
    rw [h3] at hd
    cases hd
    exact .str _
theorem ji_str {e : Expr} {t : DE} (h : JE X W e t) : JI X W tg e (iS t) :=
  ⟨PI.imp (pi_str h.pe) fun σ H Q ⟨B, F, env, Qd, R, A, q, k⟩ => A.go (t := t) q fun v d H1 F1 env1 a A1 ⟨x, e1, q1⟩ => by
    subst e1
    have r := a.rp
    cases r
    exact ⟨x, rfl, k _ _ H1 F1 env1 a.ly a.le its_ok q1⟩⟩
/-- range(n), range(a, b) -/
def rangeD (lo : Int) (n : Nat) : List PyData := (List.range n).map fun i : Nat => .int (lo + (i : Int))
theorem itr_ok {K : PySem.W.Frag} {lo : Int} {m : Nat} : ItOk K (Itr lo m) B F (rangeD lo m) where
  stop := fun H l _ => by show m ≤ (rangeD lo m).length; simp [rangeD]
  go := fun i H hi l _ => by show i < m; simpa [rangeD] using hi
  yld := fun i d H v H' hd l _ ⟨e, h2⟩ => by
    refine .inl ⟨e, ?_⟩
    subst h2
    unfold rangeD at hd
    rw [List.getElem?_map] at hd
    cases q : (List.range m)[i]? with
    | none => rw [q] at hd; cases hd
    | some j =>
      rw [q] at hd
      cases hd
      have : i = j := by
        obtain ⟨h1, h2⟩ := List.getElem?_eq_some_iff.mp q
        simpa using h2
      subst this
      exact .int _
def iR1 (t : DE) : DI := fun env Q R => t env (fun d env1 => ∃ j, d = .int j ∧ (-(2 ^ 62) ≤ j ∧ j < 2 ^ 62) ∧ Q (rangeD 0 j.toNat) env1) R
theorem ji_range1 {a : Expr} {t : DE} {p pos : Pos} (hg : Gl X "range") (hm : X.mg "range" = none) (h : JE X W a t) (hs : starEach [a] X.env = [(false, eval a X.env)] := by rfl) : JI X W tg (.Call (.Name "range" p) [a] [] pos) (iR1 t) :=
  ⟨PI.imp (pi_range1 hg hm (pa_cons h.pe pa_nil hs) hs) fun σ H Q ⟨B, F, env, Qd, R, A, q, k⟩ => A.go (t := t) q fun v d H1 F1 env1 a A1 ⟨j, e1, ⟨b1, b2⟩, q1⟩ => by
    subst e1
    have r := a.rp
    cases r
    exact ⟨j, rfl, b1, b2, k _ _ H1 F1 env1 a.ly a.le itr_ok q1⟩⟩
def iR2 (t u : DE) : DI := fun env Q R => t env (fun d env1 => u env1 (fun d2 env2 => ∃ i j, d = .int i ∧ d2 = .int j ∧ (-(2 ^ 62) ≤ i ∧ i < 2 ^ 62 ∧ -(2 ^ 62) ≤ j ∧ j < 2 ^ 62) ∧ Q (rangeD i (j - i).toNat) env2) R) R
theorem ji_range2 {a b : Expr} {t u : DE} {p pos : Pos} (hg : Gl X "range") (hm : X.mg "range" = none) (h : JE X W a t) (h' : JE X W b u) (hs : starEach [a, b] X.env = [(false, eval a X.env), (false, eval b X.env)] := by rfl) (hs2 : starEach [b] X.env = [(false, eval b X.env)] := by rfl) :
    JI X W tg (.Call (.Name "range" p) [a, b] [] pos) (iR2 t u) :=
  ⟨PI.imp (pi_range2 hg hm (pa_cons h.pe (pa_cons h'.pe pa_nil hs2) (by rw [hs, hs2])) hs hs2) fun σ H Q ⟨B, F, env, Qd, R, A, q, k⟩ => A.go (t := t) q fun v d H1 F1 env1 a A1 q1 => A1.go (t := u) q1 fun v2 d2 H2 F2 env2 a2 A2 ⟨i, j, e1, e2, b, q2⟩ => by
    subst e1 e2
    have r := a.rp
    cases r
    have r := a2.rp
    cases r
    exact ⟨i, j, rfl, b, k _ _ H2 F2 env2 a2.ly (a.le.trans a2.le) itr_ok q2⟩⟩
/-- zip of two lists, of two tuples -/
def zipD (xs ys : List PyData) : List PyData := (xs.zip ys).map fun p => .tuple [p.1, p.2]
theorem zipD_get {xs ys : List PyData} {i : Nat} {d : PyData} (h : (zipD xs ys)[i]? = some d) : ∃ x y, xs[i]? = some x ∧ ys[i]? = some y ∧ d = .tuple [x, y] := by
  unfold zipD at h
  rw [List.getElem?_map] at h
  cases q : (xs.zip ys)[i]? with
  | none => rw [q] at h; cases h
  | some p =>
    rw [q] at h
    cases h
    have := List.getElem?_zip_eq_some.mp q
    exact ⟨_, _, this.1, this.2, rfl⟩
theorem zipD_len {xs ys : List PyData} : (zipD xs ys).length = min xs.length ys.length := by simp [zipD]
def iZ (t u : DE) : DI := fun env Q R => t env (fun d env1 => u env1 (fun d2 env2 => ∃ xs ys, ((d = .list xs ∧ d2 = .list ys) ∨ (d = .tuple xs ∧ d2 = .tuple ys)) ∧ Q (zipD xs ys) env2) R) R
theorem ji_zip {a b : Expr} {t u : DE} {p pos tpos : Pos} {elts : List Expr} {kk : Nat} (hp : ∀ ta, PA X [a, b] ta → PI X (.Tuple elts kk tpos) (.Call (.Name "zip" p) [a, b] [] pos) (iZipZ X.K ta)) (h : JE X W a t) (h' : JE X W b u)
    (hs : starEach [a, b] X.env = (false, eval a X.env) :: starEach [b] X.env := by rfl) (hs2 : starEach [b] X.env = (false, eval b X.env) :: starEach [] X.env := by rfl) : JI X W (.Tuple elts kk tpos) (.Call (.Name "zip" p) [a, b] [] pos) (iZ t u) :=
  ⟨PI.imp (hp _ (pa_cons h.pe (pa_cons h'.pe pa_nil hs2) hs)) fun σ H Q ⟨B, F, env, Qd, R, A, q, k⟩ => A.go (t := t) q fun v d H1 F1 env1 a A1 q1 => A1.go (t := u) q1 fun v2 d2 H2 F2 env2 a2 A2 ⟨xs, ys, e, q2⟩ => by
    have r1 := a.rp.le a2.le
    have r2 := a2.rp
    rcases e with ⟨rfl, rfl⟩ | ⟨rfl, rfl⟩
    · cases r1 with
      | lst s r =>
      cases r2 with
      | lst s' r' =>
      rename_i a1 vs a2' ws
      refine ⟨a1, a2', vs, ws, rfl, .inl ⟨SqL.of (a2.ly.sub _ _ s), SqL.of (a2.ly.sub _ _ s'), k _ _ H2 F2 env2 a2.ly (a.le.trans a2.le) ⟨fun H l _ => ?_, fun i H hi l _ => ?_, fun i d H x H' hd l _ hy => ?_⟩ q2⟩⟩
      · refine ⟨vs, ws, SqL.of (l _ _ s), SqL.of (l _ _ s'), ?_⟩
        rw [zipD_len, r.length, r'.length]
        omega
      · rw [zipD_len] at hi
        exact ⟨vs, ws, vs[i]'(by rw [r.length]; omega), ws[i]'(by rw [r'.length]; omega), SqL.of (l _ _ s), SqL.of (l _ _ s'), List.getElem?_eq_getElem _, List.getElem?_eq_getElem _⟩
      · obtain ⟨T, ob, v, w', e1, e2, eo, e3, h1, h2⟩ := hy
        obtain ⟨x1, y1, g1, g2, e4⟩ := zipD_get hd
        obtain ⟨v1, k1, k2⟩ := r.get g1
        obtain ⟨w1, k3, k4⟩ := r'.get g2
        have z1 := h1 vs (SqL.of (l _ _ s))
        have z2 := h2 ws (SqL.of (l _ _ s'))
        rw [k1] at z1; cases z1
        rw [k3] at z2; cases z2
        exact .inr ⟨T, ob, _, _, e2, eo, e1, e3, e4, .cons k2 (.one k4)⟩
    · cases r1 with
      | tup s r =>
      cases r2 with
      | tup s' r' =>
      rename_i a1 vs a2' ws
      refine ⟨a1, a2', vs, ws, rfl, .inr ⟨a2.ly.sub.sqT s, a2.ly.sub.sqT s', k _ _ H2 F2 env2 a2.ly (a.le.trans a2.le) ⟨fun H l _ => ?_, fun i H hi l _ => ?_, fun i d H x H' hd l _ hy => ?_⟩ q2⟩⟩
      · refine ⟨vs, ws, l.sqT s, l.sqT s', ?_⟩
        rw [zipD_len, r.length, r'.length]
        omega
      · rw [zipD_len] at hi
        exact ⟨vs, ws, vs[i]'(by rw [r.length]; omega), ws[i]'(by rw [r'.length]; omega), l.sqT s, l.sqT s', List.getElem?_eq_getElem _, List.getElem?_eq_getElem _⟩
      · obtain ⟨T, ob, v, w', e1, e2, eo, e3, h1, h2⟩ := hy
        obtain ⟨x1, y1, g1, g2, e4⟩ := zipD_get hd
        obtain ⟨v1, k1, k2⟩ := r.get g1
        obtain ⟨w1, k3, k4⟩ := r'.get g2
        have z1 := h1 vs (l.sqT s)
        have z2 := h2 ws (l.sqT s')
        rw [k1] at z1; cases z1
        rw [k3] at z2; cases z2
        exact .inr ⟨T, ob, _, _, e2, eo, e1, e3, e4, .cons k2 (.one k4)⟩⟩
/-- an item was taken -/
theorem Ly.taken {K : PySem.W.Frag} {J : It} {ds : List PyData} {G : Hp} (L : Ly K B σ H F env) (l : Le G F) (o : ItOk K J B G ds) {i : Nat} {d : PyData} {x : V} {H' : Hp} (hd : ds[i]? = some d) (hy : J.yld i H x H') : ∃ F', Le F F' ∧ Ly K B σ H' F' env ∧ Rp K F' x d := by
  rcases o.yld i d H x H' hd (l.trans L.sub) L.keep hy with ⟨rfl, r⟩ | ⟨p, ob, xs, es, hp, ho, rfl, rfl, rfl, r⟩
  · exact ⟨F, Le.refl _, L, r.le l⟩
  · have le : Le F (upd F p (.frz ob (.tup xs))) := Le.up (L.sub.free hp)
    exact ⟨_, le, L.newD hp, .tup (SqD.of ho upd_same) (r.le (l.trans le))⟩

/-! ### for, while -/
def sFor (it : DI) (g : DG) (body : DS) : DS := fun D env => it env (fun ds env1 => ∃ I : Nat → Ev → Prop, I 0 env1 ∧ (∀ i d env2, ds[i]? = some d → I i env2 → g d env2 fun env3 => body { nx := I (i + 1), ct := I (i + 1), bk := D.nx, rt := D.rt, rs := D.rs, own := D.own } env3) ∧ ∀ env2, I ds.length env2 → D.nx env2) D.rs
theorem js_for {iter : Expr} {body : List Stmt} {it : DI} {g : DG} {b : DS} {pos : Pos} (gd : Gd X W n) (hi : JI X W tg iter it) (hg : JG X W tg g) (hb : JSs X W body b) (hs : ∀ x, foldedSetIterable iter X.env x = pure x := by intro _; rfl) : JS X W (.For tg iter body [] pos) (sFor it g b) :=
  ⟨PS.imp (ps_for gd.po gd.calm hi.pi hg.pg hb.ps hs) fun D σ H ⟨B, F, env, d, A, q, k⟩ => by
    refine ⟨B, F, env, _, d.rs, A, q, fun ds J H1 F1 env1 L1 le1 ok ⟨I, i0, it1, i2⟩ => ?_⟩
    refine ⟨fun i m σ H => i + m = ds.length ∧ ∃ F2 env2, Ly X.K B σ H F2 env2 ∧ Le F1 F2 ∧ I i env2, ⟨ds.length, by omega, F1, env1, L1, Le.refl _, i0⟩, fun i m σ2 H2 ⟨hm, F2, env2, L2', le2, hI⟩ => ?_⟩
    by_cases hi : i = ds.length
    · subst hi
      exact .inl ⟨ok.stop H2 (le2.trans L2'.sub) L2'.keep, k.nx σ2 H2 F2 env2 L2' (le1.trans le2) (i2 env2 hI)⟩
    · have hlt : i < ds.length := by omega
      refine .inr ⟨ok.go i H2 hlt (le2.trans L2'.sub) L2'.keep, fun σ' H' => ∃ F2 env2, Ly X.K B σ' H' F2 env2 ∧ Le F1 F2 ∧ I (i + 1) env2, fun σ' H' ⟨F3, env3, h1, h2, h3⟩ => ⟨m - 1, by omega, by omega, F3, env3, h1, h2, h3⟩, fun x H3 hy => ?_⟩
      obtain ⟨F3, le3, L3, rx⟩ := L2'.taken le2 ok (List.getElem?_eq_getElem hlt) hy
      refine ⟨B, F3, env2, _, d.rs, _, ⟨L3, A.wi⟩, rx, it1 i _ env2 (List.getElem?_eq_getElem hlt) hI, fun σ4 H4 F4 env4 L4 le4 q4 => ?_⟩
      have le14 := (le2.trans le3).trans le4
      exact ⟨B, F4, env4, { nx := I (i + 1), ct := I (i + 1), bk := d.nx, rt := d.rt, rs := d.rs, own := d.own }, ⟨L4, A.wi⟩, q4, ⟨fun σ5 H5 F5 env5 L5 le5 q5 => ⟨F5, env5, L5, le14.trans le5, q5⟩, fun σ5 H5 F5 env5 v y L5 le5 r5 q5 => k.rt σ5 H5 F5 env5 v y L5 ((le1.trans le14).trans le5) r5 q5,
        fun σ5 H5 F5 env5 L5 le5 q5 => k.nx σ5 H5 F5 env5 L5 ((le1.trans le14).trans le5) q5, fun σ5 H5 F5 env5 L5 le5 q5 => ⟨F5, env5, L5, le14.trans le5, q5⟩⟩⟩⟩
def sWhile (c : DT) (body : DS) : DS := fun D env => ∃ I : Nat → Ev → Prop, (∃ m, I m env) ∧ ∀ m env1, I m env1 → c env1 (fun b env2 => if b = true then body { nx := fun e => ∃ m', m' < m ∧ I m' e, ct := fun e => ∃ m', m' < m ∧ I m' e, bk := D.nx, rt := D.rt, rs := D.rs, own := D.own } env2 else D.nx env2) D.rs
theorem js_while {c : Expr} {body : List Stmt} {tc : DT} {b : DS} {pos : Pos} (gd : Gd X W n) (hc : JT X W c tc) (hb : JSs X W body b) : JS X W (.While c body [] pos) (sWhile tc b) :=
  ⟨PS.imp (ps_while gd.po hc.pt hb.ps) fun D σ H ⟨B, F, env, d, A, ⟨I, ⟨m0, i0⟩, it1⟩, k⟩ => by
    refine ⟨fun m σ H => ∃ F2 env2, Ly X.K B σ H F2 env2 ∧ Le F F2 ∧ I m env2, ⟨m0, F, env, A.ly, Le.refl _, i0⟩, fun m σ2 H2 ⟨F2, env2, L2', le2, hI⟩ => ?_⟩
    have A2 : At X W B σ2 H2 F2 env2 d.rs := ⟨L2', A.wi⟩
    refine A2.goT (t := tc) (it1 m env2 hI) fun b1 H3 F3 env3 le3 A3 q3 => ?_
    cases b1 with
    | true =>
      refine iteT ⟨fun σ' H' => ∃ m', m' < m ∧ ∃ F2 env2, Ly X.K B σ' H' F2 env2 ∧ Le F F2 ∧ I m' env2, fun σ' H' ⟨m', h1, h2⟩ => ⟨m', h1, h2⟩, B, F3, env3, { nx := fun e => ∃ m', m' < m ∧ I m' e, ct := fun e => ∃ m', m' < m ∧ I m' e, bk := d.nx, rt := d.rt, rs := d.rs, own := d.own }, A3, (if_pos rfl).mp q3, ?_⟩
      have le13 := le2.trans le3
      exact ⟨fun σ5 H5 F5 env5 L5 le5 ⟨m', h1, q5⟩ => ⟨m', h1, F5, env5, L5, le13.trans le5, q5⟩, fun σ5 H5 F5 env5 v y L5 le5 r5 q5 => k.rt σ5 H5 F5 env5 v y L5 (le13.trans le5) r5 q5,
        fun σ5 H5 F5 env5 L5 le5 q5 => k.nx σ5 H5 F5 env5 L5 (le13.trans le5) q5, fun σ5 H5 F5 env5 L5 le5 ⟨m', h1, q5⟩ => ⟨m', h1, F5, env5, L5, le13.trans le5, q5⟩⟩
    | false => exact iteF (k.nx σ2 H3 F3 env3 A3.ly (le2.trans le3) ((if_neg Bool.false_ne_true).mp q3))⟩
end
end BX
/-! D8 -/
namespace BX
open PySem PySem.Spec L2

/-! ### list comprehensions -/
abbrev W0 : WX := fun _ _ _ _ => False
theorem wipe_set {σ : L2.St} {v : Option V} : ∀ {vs : List Nat} {i : Nat}, i ∈ vs → wipe (σ.set i v) vs = wipe σ vs
  | [], _, h => by cases h
  | w :: vs, i, h => by
    show (wipe (σ.set i v) vs).set w none = (wipe σ vs).set w none
    by_cases hi : i ∈ vs
    · rw [wipe_set hi]
    · have hw : i = w := by
        rcases (List.mem_cons.mp h) with e | e
        · exact e
        · exact absurd e hi
      subst hw
      have : ∀ ws : List Nat, i ∉ ws → wipe (σ.set i v) ws = (wipe σ ws).set i v := by
        intro ws
        induction ws with
        | nil => intro _; rfl
        | cons a r ih =>
          intro hn
          have h1 : i ≠ a := fun e => hn (e ▸ List.mem_cons_self)
          have h2 : i ∉ r := fun e => hn (List.mem_cons_of_mem _ e)
          show (wipe (σ.set i v) r).set a none = ((wipe σ r).set a none).set i v
          rw [ih h2, List.set_comm _ _ h1]
      rw [this vs hi, List.set_set]
theorem wipe_wipe {σ : L2.St} : ∀ vs : List Nat, wipe (wipe σ vs) vs = wipe σ vs := fun vs => by
  have key : ∀ (us : List Nat) (ρ : L2.St), (∀ i ∈ us, i ∈ vs) → wipe (wipe ρ us) vs = wipe ρ vs := by
    intro us
    induction us with
    | nil => intro ρ _; rfl
    | cons a r ih =>
      intro ρ h
      show wipe ((wipe ρ r).set a none) vs = wipe ρ vs
      rw [wipe_set (h a List.mem_cons_self)]
      exact ih ρ fun i hi => h i (List.mem_cons_of_mem _ hi)
  exact key vs σ fun _ h => h
def wipeE (env : Ev) : List Nat → Ev
  | [] => env
  | v :: vs => (wipeE env vs).set v .e
/-- behind a block its own names are what they were -/
def restE (env env' : Ev) : List Nat → Ev
  | [] => env'
  | v :: vs => (restE env env' vs).set v (match env[v]? with
    | some (.v d) => .v d
    | _ => .e)
section
variable {K : PySem.W.Frag} {B : Base} {σ : L2.St} {H F : Hp} {env : Ev}
/-- a slot is forgotten -/
theorem Ly.drop (L : Ly K B σ H F env) (i : Nat) (x : Option V) : Ly K B (σ.set i x) H F (env.set i .e) := by
  have at_ : ∀ {j : Nat} {s : Sl}, s ≠ .e → (env.set i .e)[j]? = some s → i ≠ j ∧ env[j]? = some s := fun {j s} hs e => by
    by_cases hj : i = j
    · subst hj
      by_cases hl : i < env.length
      · rw [List.getElem?_set_self hl] at e; cases e; exact absurd rfl hs
      · rw [List.getElem?_eq_none (by simpa using hl)] at e; cases e
    · rw [List.getElem?_set_ne hj] at e; exact ⟨hj, e⟩
  have ow_ : ∀ {j : Nat} {d : PyData}, ow (env.set i .e) j = some d → i ≠ j ∧ ow env j = some d := fun {j d} e => by
    unfold ow at e
    split at e
    · rename_i q
      obtain ⟨h1, h2⟩ := at_ (by simp) q
      exact ⟨h1, by unfold ow; rw [h2]; exact e⟩
    · rename_i q
      obtain ⟨h1, h2⟩ := at_ (by simp) q
      exact ⟨h1, by unfold ow; rw [h2]; exact e⟩
    · cases e
  exact {
    len := by rw [List.length_set, List.length_set]; exact L.len
    tb := L.tb
    sub := L.sub
    ext := L.ext
    new := L.new
    keep := L.keep
    val := fun j d e => by obtain ⟨h1, h2⟩ := at_ (by simp) e; rw [List.getElem?_set_ne h1]; exact L.val j d h2
    rd := fun j d e => by obtain ⟨h1, h2⟩ := at_ (by simp) e; rw [List.getElem?_set_ne h1]; exact L.rd j d h2
    rol := L.rol
    xs := fun j a e => by obtain ⟨h1, h2⟩ := at_ (by simp) e; rw [List.getElem?_set_ne h1]; exact L.xs j a h2
    iof := fun j d e => by obtain ⟨h1, h2⟩ := at_ (by simp) e; rw [List.getElem?_set_ne h1]; exact L.iof j d h2
    own := fun j d e => by obtain ⟨h1, h2⟩ := ow_ e; rw [List.getElem?_set_ne h1]; exact L.own j d h2
    apart := fun j k a d d' e1 e2 s1 s2 => by
      obtain ⟨h1, h2⟩ := ow_ e1
      obtain ⟨h3, h4⟩ := ow_ e2
      rw [List.getElem?_set_ne h1] at s1
      rw [List.getElem?_set_ne h3] at s2
      exact L.apart j k a d d' h2 h4 s1 s2 }
theorem Ly.wipe (L : Ly K B σ H F env) : ∀ vs : List Nat, Ly K B (wipe σ vs) H F (wipeE env vs)
  | [] => L
  | v :: vs => (Ly.wipe L vs).drop v none
/-- a slot is as it was: its value, or forgotten -/
theorem Ly.back (L : Ly K B σ H F env) (i : Nat) (x : Option V) (s : Sl) (h : s = .e ∨ ∃ d y, s = .v d ∧ x = some y ∧ Rp K F y d) : Ly K B (σ.set i x) H F (env.set i s) := by
  rcases h with rfl | ⟨d, y, rfl, rfl, r⟩
  · exact L.drop i x
  · exact L.setV r
theorem Ly.rest {H1 F1 : Hp} {env1 env2 : Ev} (L1 : Ly K B σ H1 F1 env1) (le : Le F1 F) : ∀ vs : List Nat, Ly K B (L2.wipe σ vs) H F env2 → ∃ ρ, Ly K B ρ H F (restE env1 env2 vs) ∧ ∀ j, ρ[j]? = σ[j]? ∨ (∃ k ∈ ([] : List Nat), k = j) := by
  intro vs
  have key : ∀ (us vs : List Nat) (ρ : L2.St), (∀ j, j ∉ us → ρ[j]? = σ[j]? ∨ j ∈ vs ∧ j ∉ us) → True := fun _ _ _ _ => trivial
  -- the slots of vs are laid back one by one
  have go : ∀ us : List Nat, ∀ ρ, ρ.length = σ.length → Ly K B ρ H F env2 → ∃ ρ', ρ'.length = σ.length ∧ Ly K B ρ' H F (restE env1 env2 us) ∧ (∀ j ∈ us, ρ'[j]? = σ[j]?) ∧ ∀ j, j ∉ us → ρ'[j]? = ρ[j]? := by
    intro us
    induction us with
    | nil => intro ρ hl L; exact ⟨ρ, hl, L, fun j h => (by cases h), fun _ _ => rfl⟩
    | cons a r ih =>
      intro ρ hl L
      obtain ⟨ρ', hl', L', h1, h2⟩ := ih ρ hl L
      have hs : (match env1[a]? with | some (.v d) => Sl.v d | _ => Sl.e) = Sl.e ∨ ∃ d y, (match env1[a]? with | some (.v d) => Sl.v d | _ => Sl.e) = Sl.v d ∧ (σ[a]?).join = some y ∧ Rp K F y d := by
        split
        · rename_i d e
          obtain ⟨x, q1, q2⟩ := L1.val a d e
          exact .inr ⟨d, x, rfl, by rw [q1]; rfl, q2.le le⟩
        · exact .inl rfl
      refine ⟨ρ'.set a (σ[a]?).join, by rw [List.length_set]; exact hl', L'.back a _ _ hs, fun j hj => ?_, fun j hj => ?_⟩
      · by_cases e : a = j
        · subst e
          by_cases hlt : a < σ.length
          · rw [List.getElem?_set_self (by rw [hl']; exact hlt), List.getElem?_eq_getElem hlt]; rfl
          · rw [List.getElem?_eq_none (by rw [List.length_set, hl']; omega), List.getElem?_eq_none (by omega)]
        · rw [List.getElem?_set_ne e]
          rcases List.mem_cons.mp hj with q | q
          · exact absurd q.symm e
          · exact h1 j q
      · have e : a ≠ j := fun e => hj (e ▸ List.mem_cons_self)
        rw [List.getElem?_set_ne e]
        exact h2 j fun q => hj (List.mem_cons_of_mem _ q)
  intro L
  obtain ⟨ρ', hl', L', h1, h2⟩ := go vs _ (by rw [wipe_length]) L
  refine ⟨ρ', L', fun j => .inl ?_⟩
  by_cases hj : j ∈ vs
  · exact h1 j hj
  · rw [h2 j hj]
    have : ∀ us : List Nat, j ∉ us → (L2.wipe σ us)[j]? = σ[j]? := by
      intro us
      induction us with
      | nil => intro _; rfl
      | cons a r ih =>
        intro hn
        have h1 : a ≠ j := fun e => hn (e ▸ List.mem_cons_self)
        show ((L2.wipe σ r).set a none)[j]? = _
        rw [List.getElem?_set_ne h1]
        exact ih fun q => hn (List.mem_cons_of_mem _ q)
    exact this vs hj
theorem Ly.restS {H1 F1 : Hp} {env1 env2 : Ev} (L1 : Ly K B σ H1 F1 env1) (le : Le F1 F) (vs : List Nat) (L : Ly K B (L2.wipe σ vs) H F env2) : Ly K B σ H F (restE env1 env2 vs) := by
  obtain ⟨ρ, h1, h2⟩ := L1.rest le vs L
  have e : ρ = σ := by
    apply List.ext_getElem?
    intro j
    rcases h2 j with q | ⟨_, q, _⟩
    · exact q
    · cases q
  subst e
  exact h1
/-- the list that grows stands in the frame -/
theorem Ly.frame (L : Ly K B σ H F env) {p : Addr} {o : HO} (hp : H p = none) (ho : ∀ ps, o ≠ .tbl ps := by intro _ z; cases z) : Ly K ⟨B.F, upd B.fr p o, B.ro, B.io⟩ σ (upd H p o) F env where
  len := L.len
  tb := ⟨Tabs.new L.tb.tab hp, L.tb.nt, upd_nt L.tb.ft ho, L.tb.fn.le (Le.up hp)⟩
  sub := fun b u e => by rw [upd_ne (ne_of_none (L.sub b u e) hp)]; exact L.sub b u e
  ext := L.ext
  new := fun b u e => by
    show upd B.fr p o b = none ∨ B.F b = some u
    rw [upd_ne (ne_of_none (L.sub b u e) hp)]
    exact L.new b u e
  keep := fun b u e => by
    have e : upd B.fr p o b = some u := e
    by_cases hb : b = p
    · subst hb; rw [upd_same] at e ⊢; exact e
    · rw [upd_ne hb] at e ⊢; exact L.keep b u e
  val := L.val
  rd := L.rd
  rol := L.rol.trans (Le.up (L.keep.free hp))
  xs := L.xs
  iof := L.iof
  own := fun i d e => by
    obtain ⟨a, h1, h2, h3, h4⟩ := L.own i d e
    obtain ⟨o', h5⟩ := h4.ob
    have ha : a ≠ p := ne_of_none h5 hp
    exact ⟨a, h1, h2, by show upd B.fr p o a = none; rw [upd_ne ha]; exact h3, h4.le (Le.refl _) (by rw [upd_ne ha])⟩
  apart := L.apart
theorem Ly.freeF {p : Addr} {o : HO} (hBF : B.F p = none) (L : Ly K ⟨B.F, upd B.fr p o, B.ro, B.io⟩ σ H F env) : F p = none := by
  cases e : F p with
  | none => rfl
  | some u =>
    rcases L.new p u e with z | z
    · have z : upd B.fr p o p = none := z
      rw [upd_same] at z; cases z
    · have z : B.F p = some u := z
      rw [hBF] at z; cases z
/-- it grows -/
theorem Ly.reframe {p : Addr} {o o' : HO} (hB : B.fr p = none) (hBF : B.F p = none) (hro : Le B.ro B.fr) (L : Ly K ⟨B.F, upd B.fr p o, B.ro, B.io⟩ σ H F env) (ho : ∀ ps, o' ≠ .tbl ps := by intro _ z; cases z) (ho1 : ∀ ps, o ≠ .tbl ps := by intro _ z; cases z) (ho2 : ∀ φ, o ≠ .ext φ := by intro _ z; cases z) : Ly K ⟨B.F, upd B.fr p o', B.ro, B.io⟩ σ (upd H p o') F env := by
  have hFp : F p = none := L.freeF hBF
  have hHp : H p = some o := L.keep p o (by show upd B.fr p o p = some o; exact upd_same)
  have hfr : ∀ b ps, B.fr b ≠ some (.tbl ps) := fun b ps e => by
    have hb : b ≠ p := ne_of_none e hB
    exact L.tb.ft b ps (by show upd B.fr p o b = _; rw [upd_ne hb]; exact e)
  exact {
    len := L.len
    tb := ⟨Tabs.write L.tb.tab hHp ho1 ho2, L.tb.nt, upd_nt hfr ho, L.tb.fn.write hHp ho2⟩
    sub := fun b u e => by rw [upd_ne (ne_of_none e hFp)]; exact L.sub b u e
    ext := L.ext
    new := fun b u e => by
      have hb : b ≠ p := ne_of_none e hFp
      have z : upd B.fr p o b = none ∨ B.F b = some u := L.new b u e
      show upd B.fr p o' b = none ∨ B.F b = some u
      rw [upd_ne hb] at z ⊢
      exact z
    keep := fun b u e => by
      have e : upd B.fr p o' b = some u := e
      by_cases hb : b = p
      · subst hb; rw [upd_same] at e ⊢; exact e
      · rw [upd_ne hb] at e ⊢
        exact L.keep b u (by show upd B.fr p o b = some u; rw [upd_ne hb]; exact e)
    val := L.val
    rd := L.rd
    rol := hro.trans (Le.up hB)
    xs := L.xs
    iof := L.iof
    own := fun i d e => by
      obtain ⟨a, h1, h2, h3, h4⟩ := L.own i d e
      have h3 : upd B.fr p o a = none := h3
      have ha : a ≠ p := fun z => by rw [z, upd_same] at h3; cases h3
      rw [upd_ne ha] at h3
      exact ⟨a, h1, h2, by show upd B.fr p o' a = none; rw [upd_ne ha]; exact h3, h4.le (Le.refl _) (by rw [upd_ne ha])⟩
    apart := L.apart }
/-- it is done: out of the frame -/
theorem Ly.unframe {p : Addr} {o : HO} (hB : B.fr p = none) (hro : Le B.ro B.fr) (L : Ly K ⟨B.F, upd B.fr p o, B.ro, B.io⟩ σ H F env) : Ly K B σ H F env where
  len := L.len
  tb := ⟨L.tb.tab, L.tb.nt, fun b ps e => L.tb.ft b ps (by show upd B.fr p o b = _; rw [upd_ne (ne_of_none e hB)]; exact e), L.tb.fn⟩
  sub := L.sub
  ext := L.ext
  new := fun b u e => by
    by_cases hb : b = p
    · subst hb; exact .inl hB
    · have z : upd B.fr p o b = none ∨ B.F b = some u := L.new b u e
      rw [upd_ne hb] at z
      exact z
  keep := fun b u e => L.keep b u (by show upd B.fr p o b = some u; rw [upd_ne (ne_of_none e hB)]; exact e)
  val := L.val
  rd := L.rd
  rol := hro
  xs := L.xs
  iof := L.iof
  own := fun i d e => by
    obtain ⟨a, h1, h2, h3, h4⟩ := L.own i d e
    have h3 : upd B.fr p o a = none := h3
    have ha : a ≠ p := fun z => by rw [z, upd_same] at h3; cases h3
    rw [upd_ne ha] at h3
    exact ⟨a, h1, h2, h3, h4⟩
  apart := L.apart
end

/-! targets of a block: its own names alone -/
def tGo (X : Cx) (W : WX) (vs : List Nat) (t : DG) : TG := fun v σ H Q => ∃ B F env d R Qe, At X W B σ H F env R ∧ Rp X.K F v d ∧ t d env Qe ∧ ∀ σ' H' F' env', L2.wipe σ' vs = L2.wipe σ vs → Ly X.K B σ' H' F' env' → Le F F' → Qe env' → Q σ' H'
def tGos (X : Cx) (W : WX) (vs : List Nat) (t : DGs) : TGs := fun v σ H Q => ∃ B F env ds R Qe, At X W B σ H F env R ∧ RpAll X.K F v ds ∧ t ds env Qe ∧ ∀ σ' H' F' env', L2.wipe σ' vs = L2.wipe σ vs → Ly X.K B σ' H' F' env' → Le F F' → Qe env' → Q σ' H'
structure JGo (X : Cx) (W : WX) (vs : List Nat) (e : Expr) (t : DG) : Prop where
  pg : PG X e (tGo X W vs t)
structure JGos (X : Cx) (W : WX) (vs : List Nat) (e : List Expr) (t : DGs) : Prop where
  pg : PGs X e (tGos X W vs t)
section
variable {X : Cx} {W : WX} {B : Base} {σ : L2.St} {H F : Hp} {env : Ev} {R : Ex → Ev → Prop} {n : Nat} {vs : List Nat}
theorem jgo_name {pos : Pos} {x : Str} (i : Nat) (h : PG X (.Name x pos) (gName i)) (hi : i ∈ vs) : JGo X W vs (.Name x pos) (gN i) :=
  ⟨PG.imp h fun v σ H Q ⟨B, F, env, d, R, Qe, A, r, q, k⟩ => k _ H F _ (wipe_set hi) (A.ly.setV r) (Le.refl _) q⟩
/-! the tests of a block -/
structure JTs (X : Cx) (W : WX) (es : List Expr) (t : DT) : Prop where
  pt : PTs X es (tT X W t)
def dYes : DT := fun env Q _ => Q true env
theorem jts_nil : JTs X W [] dYes := ⟨⟨fun pins s σ H Q I ⟨B, F, env, Qd, R, A, q, k⟩ => pts_nil.run pins s σ H Q I (k true H F env A.ly (Le.refl _) q)⟩⟩
theorem jts_one {c : Expr} {t : DT} (h : JT X W c t) : JTs X W [c] t := ⟨⟨fun pins s σ H Q I q => (pts_one h.pt).run pins s σ H Q I q⟩⟩
/-- the body of a block at hand -/
theorem Gd.blk (g : Gd X W n) {s : Shared} {H : Hp} {scope : Scope} {cenv : PySem.Env} {fp : List Addr} : Gd (X.blk s H scope cenv fp) W0 n := ⟨g.calm, g.nd, g.room, takes0, PassesOwn.never, g.gu⟩
def dLc (vs : List Nat) (it : DI) (g : DG) (tt : DT) (te : DE) : DE := fun env Q R => it env (fun ds env1 => ∃ I : Nat → List PyData → Ev → Prop, I 0 [] (wipeE env1 vs) ∧
  (∀ i d acc env2, ds[i]? = some d → I i acc env2 → g d env2 fun env3 => tt env3 (fun b env4 => if b = true then te env4 (fun y env5 => acc.length < sizeLine ∧ I (i + 1) (acc ++ [y]) (wipeE env5 vs)) (fun _ _ => False) else I (i + 1) acc (wipeE env4 vs)) (fun _ _ => False)) ∧
  ∀ acc env2, I ds.length acc env2 → Q (.list acc) (restE env1 env2 vs)) R
theorem restE_ne {env1 env2 : Ev} {a j : Nat} {r : List Nat} (h : a ≠ j) : (restE env1 env2 (a :: r))[j]? = (restE env1 env2 r)[j]? := by
  show ((restE env1 env2 r).set a _)[j]? = _
  rw [List.getElem?_set_ne h]
/-- a new list -/
def tNL (X : Cx) (W : WX) (t : DE) : TE := fun σ H Q => ∃ B F env Qd R, At X W B σ H F env R ∧ t env Qd R ∧ ∀ v d H' F' env', AfN X B σ F v d H' F' env' → Qd d env' → (∃ ds, d = .list ds) → Q v H'
theorem tN.list {t : DE} {Q : VK} (h : tN X W t σ H Q) : tNL X W t σ H Q := by
  obtain ⟨B, F, env, Qd, R, A, q, k⟩ := h
  exact ⟨B, F, env, Qd, R, A, q, fun v d H1 F1 env1 a z _ => k v d H1 F1 env1 a z⟩
/-- the reading of a comprehension -/
theorem lc_go {it : DI} {g : DG} {tt : DT} {te : DE} {Xb : Cx} (hK : Xb.K = X.K) {Q : VK} (h : tNL X W (dLc vs it g tt te) σ H Q) : tLc (tI X W it) (tGo Xb W0 vs g) (tT Xb W0 tt) (tE Xb W0 te) vs σ H Q := by
  obtain ⟨B, F, env, Qd, R, A, q, k⟩ := h
  refine ⟨B, F, env, _, R, A, q, fun ds J H1 F1 env1 L1 le1 ok ⟨I, i0, it1, i2⟩ D hD => ?_⟩
  have hB : B.fr D = none := L1.keep.free hD
  have hBF : B.F D = none := (L1.ext.trans L1.sub).free hD
  have no : ∀ (C : Base) (R : Ex → Ev → Prop) cls d σ' H', wish Xb.K Xb.mg C (fun _ _ => False) cls d σ' H' → W0 cls d σ' H' := fun C R cls d σ' H' ⟨_, _, _, _, _, z⟩ => z
  refine ⟨fun i m H => i + m = ds.length ∧ ∃ acc va env2 F2, Ly X.K ⟨B.F, upd B.fr D (.lst va), B.ro, B.io⟩ (L2.wipe σ vs) H F2 env2 ∧ Le F1 F2 ∧ RpAll X.K F2 va acc ∧ I i acc env2, ⟨ds.length, by omega, [], [], wipeE env1 vs, F1, (L1.wipe vs).frame hD, Le.refl _, .nil, i0⟩, fun i m H2 ⟨hm, acc, va, env2, F2, L2', le2, ra, hI⟩ => ?_⟩
  have hkeep : Le B.fr H2 := fun b u e => L2'.keep b u (by show upd B.fr D (.lst va) b = some u; rw [upd_ne (ne_of_none e hB)]; exact e)
  have hDl : H2 D = some (.lst va) := L2'.keep D _ (by show upd B.fr D (.lst va) D = _; exact upd_same)
  by_cases hi : i = ds.length
  · subst hi
    refine .inl ⟨ok.stop H2 (le2.trans L2'.sub) hkeep, ?_⟩
    have L3 := (L2'.unframe hB L1.rol)
    have hF2 := L2'.freeF hBF
    have L4 := L1.restS le2 vs L3
    refine k (.ref D) _ H2 F2 _ ⟨L4, le1.trans le2, D, rfl, hF2, hB, .lst hDl ra, fun j d' e z => ?_⟩ (i2 acc env2 hI) ⟨acc, rfl⟩
    -- an owned slot is one that stood ahead, or stands in the block
    obtain ⟨a, q1, q2, q3, q4⟩ := L4.own j d' e
    rw [z] at q1
    cases q1
    have hj : j ∉ vs := fun hj => by
      have key : ∀ us : List Nat, j ∈ us → ∀ d, ow (restE env1 env2 us) j ≠ some d := by
        intro us
        induction us with
        | nil => intro h; cases h
        | cons a r ih =>
          intro h d e
          by_cases ha : a = j
          · subst ha
            have hl := ow_lt e
            unfold ow restE at e
            rw [List.getElem?_set_self (by unfold restE at hl; rw [List.length_set] at hl; exact hl)] at e
            split at e
            · rename_i q; split at q <;> cases q
            · rename_i q; split at q <;> cases q
            · cases e
          · have hr : j ∈ r := by
              rcases (List.mem_cons.mp h) with q | q
              · exact absurd q.symm ha
              · exact q
            refine ih hr d ?_
            unfold ow at e ⊢
            rw [restE_ne ha] at e
            exact e
      exact key vs hj d' e
    have key : ∀ us : List Nat, j ∉ us → ow (restE env1 env2 us) j = ow env2 j := by
      intro us
      induction us with
      | nil => intro _; rfl
      | cons a r ih =>
        intro h
        have ha : a ≠ j := fun q => h (q ▸ List.mem_cons_self)
        rw [← ih fun q => h (List.mem_cons_of_mem _ q)]
        unfold ow
        rw [restE_ne ha]
    rw [key vs hj] at e
    obtain ⟨a, q1, q2, q3, q4⟩ := L2'.own j d' e
    have keyw : ∀ us : List Nat, j ∉ us → (L2.wipe σ us)[j]? = σ[j]? := by
      intro us
      induction us with
      | nil => intro _; rfl
      | cons a r ih =>
        intro hn
        have h1 : a ≠ j := fun e => hn (e ▸ List.mem_cons_self)
        show ((L2.wipe σ r).set a none)[j]? = _
        rw [List.getElem?_set_ne h1]
        exact ih fun q => hn (List.mem_cons_of_mem _ q)
    rw [keyw vs hj, z] at q1
    cases q1
    have q3 : upd B.fr D (.lst va) D = none := q3
    rw [upd_same] at q3
    cases q3
  · have hlt : i < ds.length := by omega
    refine .inr ⟨ok.go i H2 hlt (le2.trans L2'.sub) hkeep, fun H' => ∃ acc va env3 F3, Ly X.K ⟨B.F, upd B.fr D (.lst va), B.ro, B.io⟩ (L2.wipe σ vs) H' F3 env3 ∧ Le F1 F3 ∧ RpAll X.K F3 va acc ∧ I (i + 1) acc env3, fun H' ⟨acc', va', env3, F3, h1, h2, h3, h4⟩ => ⟨m - 1, by omega, by omega, acc', va', env3, F3, h1, h2, h3, h4⟩, fun x H3 hy => ?_⟩
    have ok' : ItOk X.K J ⟨B.F, upd B.fr D (.lst va), B.ro, B.io⟩ F1 ds := by
      have hle : Le B.fr (upd B.fr D (.lst va)) := Le.up hB
      exact ⟨fun H l l' => ok.stop H l (hle.trans l'), fun i H hi l l' => ok.go i H hi l (hle.trans l'), fun i d H x H' hd l l' hy => ok.yld i d H x H' hd l (hle.trans l') hy⟩
    obtain ⟨F3, le3, L3, rx⟩ := L2'.taken le2 ok' (List.getElem?_eq_getElem hlt) hy
    have A3 : At Xb W0 ⟨B.F, upd B.fr D (.lst va), B.ro, B.io⟩ (L2.wipe σ vs) H3 F3 env2 (fun _ _ => False) := ⟨by rw [hK]; exact L3, no _ (fun _ _ => False)⟩
    refine ⟨_, F3, env2, _, _, _, A3, by rw [hK]; exact rx, it1 i _ acc env2 (List.getElem?_eq_getElem hlt) hI, fun σ4 H4 F4 env4 w4 L4 le4 q4 => ?_⟩
    rw [wipe_wipe] at w4
    refine ⟨w4, ?_⟩
    have A4 : At Xb W0 ⟨B.F, upd B.fr D (.lst va), B.ro, B.io⟩ σ4 H4 F4 env4 (fun _ _ => False) := ⟨L4, no _ (fun _ _ => False)⟩
    refine A4.goT (t := tt) q4 fun b H5 F5 env5 le5 A5 q5 => ?_
    cases b with
    | true =>
      refine iteT (A5.go (t := te) ((if_pos rfl).mp q5) fun y d H6 F6 env6 a6 A6 ⟨hl, q6⟩ => ?_)
      have L6 : Ly X.K ⟨B.F, upd B.fr D (.lst va), B.ro, B.io⟩ σ4 H6 F6 env6 := by rw [← hK]; exact a6.ly
      have le36 : Le F2 F6 := ((le3.trans le4).trans le5).trans a6.le
      refine ⟨va, L6.keep D _ (by show upd B.fr D (.lst va) D = _; exact upd_same), by rw [ra.length]; exact hl, acc ++ [d], va ++ [y], wipeE env6 vs, F6, ?_, le2.trans le36, (ra.le le36).append (.one (by rw [← hK]; exact a6.rp)), q6⟩
      have := (L6.wipe vs).reframe (o' := .lst (va ++ [y])) hB hBF L1.rol
      rw [w4] at this
      exact this
    | false =>
      refine iteF ?_
      have L5 : Ly X.K ⟨B.F, upd B.fr D (.lst va), B.ro, B.io⟩ σ4 H5 F5 env5 := by rw [← hK]; exact A5.ly
      have le35 : Le F2 F5 := (le3.trans le4).trans le5
      refine ⟨acc, va, wipeE env5 vs, F5, ?_, le2.trans le35, ra.le le35, (if_neg Bool.false_ne_true).mp q5⟩
      have := L5.wipe vs
      rw [w4] at this
      exact this
end
end BX
/-! DG -/
/-! a def's promise where no repr is under way -/
namespace BX
open PySem PySem.Spec L2
structure FnG (P : Program) (w : World) (K : PySem.W.Frag) (mg : Str → Option Value) (base : Heap) (k : Nat) (f : Addr) (fd : FuncData) (ps : List Str) (sp : Sp) : Prop where
  len : ∀ us H Q E, sp us H Q E → us.length = ps.length
  run : ∀ (A : Around), A.guards = some [] → Room k A → ∀ (outer : List PySem.Env) (s : Shared) (H : Hp), Env0 P w K mg base A outer s H →
    ∀ (args : Args) (us : List Value) (vs : List V), BindsTo s fd args (ps.zip us) → Vals vs us → ∀ (Q : VK) (E : XK), sp vs H Q E →
      codeAny (model P w) A (.call (.ref f) args) (CR (L2.CX P w) outer P w H s Q E) s
section
variable {P : Program} {base : Heap} {w : World} {mg : Str → Option Value} {K : PySem.W.Frag}
/-- a def of the text, by its body -/
theorem fnG_of {x qual : Str} {st : Stmt} {f : Addr} {fd : FuncData} {N ps : List Str} {k : Nat} {sp : Sp} (Fn : Fun K x qual st f fd) (S : FnScope N ps (defScope st)) (len : ∀ vs H Q E, sp vs H Q E → vs.length = ps.length)
    (bd : ∀ (cdv : Value), fd.code = cdv → ∀ (A : Around), A.guards = some [] → ∀ (outer : List PySem.Env) (s : Shared) (H : Hp) (vs : List V) (Q : VK) (E : XK), Room k (A.deeper (PyProof.Rows.envOfC qual (defScope st) s.heap.objs.size f cdv)) → sp vs H Q E →
      ∃ t, PSs (cxOf (L2.CX P w) P w K mg base N qual (defScope st) f cdv A outer s H E) (defBody st) t ∧ t { nx := fun _ H' => Q .non H', rt := Q } (L2.start N vs) H) : FnG P w K mg base (k + 1) f fd ps sp := by
  obtain ⟨oc, od, kV, doc, pm, an, cdv, ct, osl, efd, lk, hcd⟩ := Fn.ex
  subst efd
  refine ⟨len, ?_⟩
  intro A hg room outer s H env args us vs bind rel Q E pr
  have n1 := len vs H Q E pr
  have inK : K.In s.heap := env.mod.kin.keeps (fun b o q => (env.bs b o q).1)
  have noLim : s.heap.NoLimit := env.mod.nolimit.keeps (fun b o q => (env.bs b o q).1)
  refine codeAny_call_function room.depth (inK f _ lk) rfl S.co S.gen rfl (PySem.W.codeRec_of inK hcd) (bind _ _ _ _ ?_)
  refine wpAny_newFunctionEnv_cells S.kind ?_ ?_
  · rintro ⟨nm, vl⟩ mem
    cases S.par nm (List.of_mem_zip mem).1 with
    | inl q => exact Or.inl q
    | inr q => exact Or.inr ⟨q, PySem.W.cellsFrom_some _ _ _ (Or.inl q)⟩
  · intro en hen s1 ic
    subst hen
    refine ⟨noLim.keeps ic.toInCall.keep, codeAny_func ?_⟩
    obtain ⟨t, pt, rd⟩ := bd cdv rfl A hg outer s H vs Q E (room.deeper _) pr
    have iv := inv_start (CX := L2.CX P w) (E := E) S room.hd env n1 rel ic
    refine wpAny_mono (pt.run [] s1 _ H _ iv rd) ?_ (fun e s' q => q)
    intro fl s' sp'
    cases fl with
    | ret u =>
      obtain ⟨v, τ, G, J, rv, q⟩ := sp'
      exact ⟨v, G, J.os, J.bare, J.base, J.hok, rv, q⟩
    | next =>
      obtain ⟨τ, G, J, q⟩ := sp'
      exact ⟨V.non, G, J.os, J.bare, J.base, J.hok, rfl, q⟩
    | brk => obtain ⟨_, _, _, q⟩ := sp'; exact q.elim
    | cont => obtain ⟨_, _, _, q⟩ := sp'; exact q.elim
end
section
variable {X : Cx} {W : WX}
/-- the call of such a def by its name -/
theorem pe_callG {k : Nat} {f : Addr} {fd : FuncData} {ps : List Str} {sp : Sp} {x : Str} {p pos : Pos} {e : Expr} {es : List Expr} {t : TA} (F : FnG X.prog X.w X.K X.mg X.base k f fd ps sp) (hA : X.A.guards = some []) (room : Room k X.A) (hg : Gl X x) (hm : X.mg x = some (.ref f)) (hk : PySem.W.keepIn X.K (.ref f) = true) (hb : Binds X.K fd ps [])
    (tk : Takes X W) (ha : PA X (e :: es) t) (hdb : (x == ("__debug__" : Str)) = false) (he : starEach (e :: es) X.env = (false, eval e X.env) :: starEach es X.env) (hpl : (backTo pos (starEach es X.env)).any (·.1) = false) :
    PE X (.Call (.Name x p) (e :: es) [] pos) (fun σ H Q => t σ H fun vs H1 => sp vs H1 Q fun cls d H' => W cls d σ H') := by
  constructor
  intro pins s σ H Q iv rd
  refine wpAny_Call_Name_kw (ld_glob iv hg hm ?_ hdb)
  refine PySem.W.callWith_K iv.ok.mod.kin hk (thn (ha.run pos pins s σ H _ iv rd) ?_) he hpl
  rintro us s1 ⟨vs, H1, J, rel, q⟩
  refine ⟨J.kIn, wpAny_call (codeAny_mono (F.run X.A hA room X.stack s1 H1 J.env0 ⟨us, []⟩ us vs ?_ rel Q _ q) ?_)⟩
  · have := hb s1 us J.kIn (by rw [List.append_nil, ← rel.length]; exact F.len _ _ _ _ q)
    rw [List.append_nil] at this
    exact this
  · intro r s2 q2
    match r, q2 with
    | .error er, q2 => exact tk er s2 (XE.of_call J (fun _ _ _ z => z) q2)
    | .ok (.ret u), q2 => exact J.after q2
end
end BX
/-! D9 -/
namespace BX
open PySem PySem.Spec L2
section
variable {X : Cx} {W : WX} {B : Base} {σ : L2.St} {H F : Hp} {env : Ev} {R : Ex → Ev → Prop} {n : Nat}
/-! a block's readings are its def's -/
theorem blk_e {s : Shared} {H : Hp} {scope : Scope} {cenv : PySem.Env} {fp : List Addr} {e : Expr} {t : DE} (h : JE (X.blk s H scope cenv fp) W0 e t) : PE (X.blk s H scope cenv fp) e (tE X W0 t) :=
  PE.imp h.pe fun σ H Q ⟨B, F, env, Qd, R, A, q, k⟩ => ⟨B, F, env, Qd, R, ⟨A.ly, A.wi⟩, q, fun v d H' F' env' a z => k v d H' F' env' ⟨a.ly, a.le, a.rp⟩ z⟩
theorem blk_t {s : Shared} {H : Hp} {scope : Scope} {cenv : PySem.Env} {fp : List Addr} {e : List Expr} {t : DT} (h : JTs (X.blk s H scope cenv fp) W0 e t) : PTs (X.blk s H scope cenv fp) e (tT X W0 t) :=
  ⟨fun pins s σ H Q I ⟨B, F, env, Qd, R, A, q, k⟩ => h.pt.run pins s σ H Q I ⟨B, F, env, Qd, R, ⟨A.ly, A.wi⟩, q, fun b H' F' env' a le z => k b H' F' env' a le z⟩⟩
theorem blk_g {s : Shared} {H : Hp} {scope : Scope} {cenv : PySem.Env} {fp : List Addr} {e : Expr} {vs : List Nat} {t : DG} (h : JGo (X.blk s H scope cenv fp) W0 vs e t) : PG (X.blk s H scope cenv fp) e (tGo X W0 vs t) :=
  PG.imp h.pg fun v σ H Q ⟨B, F, env, d, R, Qe, A, r, q, k⟩ => ⟨B, F, env, d, R, Qe, ⟨A.ly, A.wi⟩, r, q, k⟩
/-- [e for x in xs if c] -/
theorem jn_lc {elt tg iter : Expr} {ifs : List Expr} {scope : Scope} {own : List (Str × Nat)} {pos : Pos} {it : DI} {g : DG} {tt : DT} {te : DE} (gd : Gd X W n) (ok : blkC X.N X.env.scope scope own = true) (hi : JI X W tg iter it)
    (hg : ∀ (s : Shared) (H : Hp) (C : Addr) (cl : List (Str × Addr)) (fp : List Addr), JGo (X.blk s H scope (compEnvC scope cl C X.env) fp) W0 (own.map (·.2)) tg g)
    (ht : ∀ (s : Shared) (H : Hp) (C : Addr) (cl : List (Str × Addr)) (fp : List Addr), JTs (X.blk s H scope (compEnvC scope cl C X.env) fp) W0 ifs tt)
    (he : ∀ (s : Shared) (H : Hp) (C : Addr) (cl : List (Str × Addr)) (fp : List Addr), JE (X.blk s H scope (compEnvC scope cl C X.env) fp) W0 elt te)
    (hs : ∀ x, foldedSetIterable iter X.env x = pure x := by intro _; rfl) : JN X W (.ListComp elt [⟨tg, iter, ifs, 0⟩] scope pos) (dLc (own.map (·.2)) it g tt te) :=
  ⟨PE.imp (pe_lc (own := own) gd.calm gd.nd hi.pi (blkOk_by ok) (fun s H C cl fp => blk_g (hg s H C cl fp)) (fun s H C cl fp => blk_t (ht s H C cl fp)) (fun s H C cl fp => blk_e (he s H C cl fp)) hs) fun σ H Q q => lc_go (Xb := X) rfl (tN.list q)⟩
/-- x = [..] on one line -/
theorem js_setLc {y : Str} {py : Pos} {elt tg iter : Expr} {ifs : List Expr} {scope : Scope} {own : List (Str × Nat)} {pos spos : Pos} {it : DI} {g : DG} {tt : DT} {te : DE} (i : Nat) (gd : Gd X W n) (hy : X.N[i]? = some y) (hyl : X.env.scope.names.lookup y = some .local)
    (hsw : swapsWith (.ListComp elt [⟨tg, iter, ifs, 0⟩] scope pos) (some (.Name y py)) spos.line X.env = pure true) (ok : blkC X.N X.env.scope scope own = true) (hi : JI X W tg iter it)
    (hg : ∀ (s : Shared) (H : Hp) (C : Addr) (cl : List (Str × Addr)) (fp : List Addr), JGo (X.blk s H scope (compEnvC scope cl C X.env) fp) W0 (own.map (·.2)) tg g)
    (ht : ∀ (s : Shared) (H : Hp) (C : Addr) (cl : List (Str × Addr)) (fp : List Addr), JTs (X.blk s H scope (compEnvC scope cl C X.env) fp) W0 ifs tt)
    (he : ∀ (s : Shared) (H : Hp) (C : Addr) (cl : List (Str × Addr)) (fp : List Addr), JE (X.blk s H scope (compEnvC scope cl C X.env) fp) W0 elt te)
    (hs : ∀ x, foldedSetIterable iter X.env x = pure x := by intro _; rfl) : JS X W (.Assign [.Name y py] (.ListComp elt [⟨tg, iter, ifs, 0⟩] scope pos) spos) (sSet i (dLc (own.map (·.2)) it g tt te)) :=
  ⟨PS.imp (ps_setLc (own := own) gd.calm gd.nd hy hyl hsw hi.pi (blkOk_by ok) (fun s H C cl fp => blk_g (hg s H C cl fp)) (fun s H C cl fp => blk_t (ht s H C cl fp)) (fun s H C cl fp => blk_e (he s H C cl fp)) hs) fun D σ H ⟨B, F, env, d, A, q, k⟩ => by
    have q : dLc (own.map (·.2)) it g tt te env (fun x env1 => d.nx (env1.set i (.v x))) d.rs := q
    refine lc_go (Xb := X) rfl ⟨B, F, env, _, _, A, q, fun v x H1 F1 env1 a q1 hx => ?_⟩
    obtain ⟨F2, le, af⟩ := a.af hx
    exact k.nx _ H1 F2 _ (af.ly.setV af.rp) af.le q1⟩
/-! ### defs of the text -/
inductive Mo | d | io | ro | fx
  deriving DecidableEq
abbrev FSp := List PyData → (PyData → List PyData → Prop) → (Ex → List PyData → Prop) → Prop
/-- the heap without some objects -/
def untb : Option HO → Option HO
  | some (.tbl _) => none
  | o => o
/-- the heap without some objects, and without the tables of code objects -/
def less (H : Hp) (A : List Addr) : Hp := fun b => if b ∈ A then none else untb (H b)
theorem untb_some {x : Option HO} {o : HO} (h : untb x = some o) : x = some o ∧ ∀ ps, o ≠ .tbl ps := by
  cases x with
  | none => cases h
  | some u => cases u <;> cases h <;> exact ⟨rfl, fun _ z => by cases z⟩
theorem untb_of {o : HO} (h : ∀ ps, o ≠ .tbl ps) : untb (some o) = some o := by
  cases o <;> first | rfl | exact absurd rfl (h _)
theorem less_le {H : Hp} {A : List Addr} : Le (less H A) H := fun b o e => by
  unfold less at e
  split at e
  · cases e
  · exact (untb_some e).1
theorem less_in {H : Hp} {A : List Addr} {a : Addr} (h : a ∈ A) : less H A a = none := if_pos h
theorem less_out {H : Hp} {A : List Addr} {a : Addr} {o : HO} (h : a ∉ A) (e : H a = some o) (ho : ∀ ps, o ≠ .tbl ps := by intro _ z; cases z) : less H A a = some o := by
  show (if a ∈ A then none else untb (H a)) = _
  rw [if_neg h, e, untb_of ho]
theorem less_nt {H : Hp} {A : List Addr} : ∀ b ps, less H A b ≠ some (.tbl ps) := fun b ps e => by
  unfold less at e
  split at e
  · cases e
  · exact (untb_some e).2 ps rfl
inductive ArgsIn (K : PySem.W.Frag) (F fr H : Hp) : List Mo → List V → List PyData → List Addr → Prop
  | nil : ArgsIn K F fr H [] [] [] []
  | d {ms v vs d ds A} : Rp K F v d → ArgsIn K F fr H ms vs ds A → ArgsIn K F fr H (.d :: ms) (v :: vs) (d :: ds) A
  | io {ms a vs d ds A} : F a = none → Ow K F H a d → ArgsIn K F fr H ms vs ds A → ArgsIn K F fr H (.io :: ms) (.ref a :: vs) (d :: ds) (a :: A)
  | ro {ms a xs vs es ds A} : SqL K fr a xs → RpAll K F xs es → ArgsIn K F fr H ms vs ds A → ArgsIn K F fr H (.ro :: ms) (.ref a :: vs) (.list es :: ds) A
  | fx {ms a x vs ds A} : PySem.W.nsIn K mainGlobals x = some (some (.ref a)) → ArgsIn K F fr H ms vs ds A → ArgsIn K F fr H (.fx :: ms) (.ref a :: vs) (fnD a x :: ds) A
inductive OutsOk (K : PySem.W.Frag) (F H : Hp) : List Addr → List PyData → Prop
  | nil : OutsOk K F H [] []
  | cons {a A d ds} : F a = none → Ow K F H a d → OutsOk K F H A ds → OutsOk K F H (a :: A) (d :: ds)
structure Back (K : PySem.W.Frag) (F H : Hp) (A : List Addr) (F' H' : Hp) (outs : List PyData) : Prop where
  le : Le F F'
  sub : Le F' H'
  keep : Le (less H A) H'
  tb : TbOk K (less H A) F' H'
  new : ∀ b o, F' b = some o → less H A b = none ∨ F b = some o
  outs : OutsOk K F' H' A outs
/-- a promise about data, as a promise about the heap -/
def lift (K : PySem.W.Frag) (mg : Str → Option Value) (ms : List Mo) (sp : FSp) : Sp := fun vs H Q E => ∃ (F : Hp) (A : List Addr) (ds : List PyData) (Qd : PyData → List PyData → Prop) (Rd : Ex → List PyData → Prop), Le F H ∧ TbOk K (less H A) F H ∧ A.Nodup ∧ (∀ a ∈ A, F a = none) ∧ ArgsIn K F (less H A) H ms vs ds A ∧ sp ds Qd Rd ∧
  (∀ v d H' F' outs, Back K F H A F' H' outs → Rp K F' v d → Qd d outs → Q v H') ∧ ∀ ex cls dd H' F' outs, Back K F H A F' H' outs → ExRep K mg F' H' cls dd ex → Rd ex outs → E cls dd H'
theorem ArgsIn.lens {K : PySem.W.Frag} {F fr H : Hp} {ms : List Mo} {vs : List V} {ds : List PyData} {A : List Addr} (h : ArgsIn K F fr H ms vs ds A) : vs.length = ms.length ∧ ds.length = ms.length := by
  induction h with
  | nil => exact ⟨rfl, rfl⟩
  | d _ _ ih => exact ⟨congrArg (· + 1) ih.1, congrArg (· + 1) ih.2⟩
  | io _ _ _ ih => exact ⟨congrArg (· + 1) ih.1, congrArg (· + 1) ih.2⟩
  | ro _ _ _ ih => exact ⟨congrArg (· + 1) ih.1, congrArg (· + 1) ih.2⟩
  | fx _ _ ih => exact ⟨congrArg (· + 1) ih.1, congrArg (· + 1) ih.2⟩
/-- the slots at the entry -/
def inE : List Mo → List PyData → Ev
  | .d :: ms, d :: ds => .v d :: inE ms ds
  | .io :: ms, d :: ds => .io d :: inE ms ds
  | .ro :: ms, .list es :: ds => .ro es :: inE ms ds
  | .ro :: ms, _ :: ds => .e :: inE ms ds
  | .fx :: ms, .dict [(.int (.ofNat a), .str x)] :: ds => .x (foX x a) :: inE ms ds
  | .fx :: ms, _ :: ds => .e :: inE ms ds
  | _, _ => []
def startE (N : Nat) (ms : List Mo) (ds : List PyData) : Ev := inE ms ds ++ List.replicate (N - ms.length) .e
/-- what is handed back of the objects that are lent -/
def outE : Nat → List Mo → Ev → Option (List PyData)
  | _, [], _ => some []
  | i, .io :: ms, env => match env[i]? with
    | some (.io d) => (outE (i + 1) ms env).map (d :: ·)
    | _ => none
  | i, _ :: ms, env => outE (i + 1) ms env
/-- the addresses that are lent, by their places -/
def ioAt : Nat → List Mo → List Addr → Nat → Option Addr
  | i, .io :: ms, a :: A, j => if i = j then some a else ioAt (i + 1) ms A j
  | i, _ :: ms, A, j => ioAt (i + 1) ms A j
  | _, [], _, _ => none
theorem inE_len {K : PySem.W.Frag} {F fr H : Hp} {ms : List Mo} {vs : List V} {ds : List PyData} {A : List Addr} (h : ArgsIn K F fr H ms vs ds A) : (inE ms ds).length = ms.length := by
  induction h with
  | nil => rfl
  | d _ _ ih => exact congrArg (· + 1) ih
  | io _ _ _ ih => exact congrArg (· + 1) ih
  | ro _ _ _ ih => exact congrArg (· + 1) ih
  | fx _ _ ih => exact congrArg (· + 1) ih
theorem inE_v {K : PySem.W.Frag} {F fr H : Hp} {ms : List Mo} {vs : List V} {ds : List PyData} {A : List Addr} (h : ArgsIn K F fr H ms vs ds A) : ∀ (i : Nat) d, (inE ms ds)[i]? = some (.v d) → ∃ x, vs[i]? = some x ∧ Rp K F x d := by
  induction h with
  | nil => intro i d e; simp [inE] at e
  | d r _ ih =>
    intro i d e
    cases i with
    | zero => simp [inE] at e; subst e; exact ⟨_, rfl, r⟩
    | succ i => exact ih i d (by simpa [inE] using e)
  | io _ _ _ ih =>
    intro i d e
    cases i with
    | zero => simp [inE] at e
    | succ i => exact ih i d (by simpa [inE] using e)
  | ro _ _ _ ih =>
    intro i d e
    cases i with
    | zero => simp [inE] at e
    | succ i => exact ih i d (by simpa [inE] using e)
  | fx _ _ ih =>
    intro i d e
    cases i with
    | zero => simp [inE, fnD] at e
    | succ i => exact ih i d (by simpa [inE, fnD] using e)
theorem inE_x {K : PySem.W.Frag} {F fr H : Hp} {ms : List Mo} {vs : List V} {ds : List PyData} {A : List Addr} (h : ArgsIn K F fr H ms vs ds A) : ∀ (i : Nat) (a : XO), (inE ms ds)[i]? = some (.x a) → vs[i]? = some (.ref a.a) ∧ a.G K F := by
  induction h with
  | nil => intro i a e; simp [inE] at e
  | d _ _ ih =>
    intro i a e
    cases i with
    | zero => simp [inE] at e
    | succ i => exact ih i a (by simpa [inE] using e)
  | io _ _ _ ih =>
    intro i a e
    cases i with
    | zero => simp [inE] at e
    | succ i => exact ih i a (by simpa [inE] using e)
  | ro _ _ _ ih =>
    intro i a e
    cases i with
    | zero => simp [inE] at e
    | succ i => exact ih i a (by simpa [inE] using e)
  | fx hn _ ih =>
    intro i a e
    cases i with
    | zero =>
      simp [inE, fnD] at e
      subst e
      exact ⟨rfl, hn⟩
    | succ i => exact ih i a (by simpa [inE, fnD] using e)
theorem inE_ro {K : PySem.W.Frag} {F fr H : Hp} {ms : List Mo} {vs : List V} {ds : List PyData} {A : List Addr} (h : ArgsIn K F fr H ms vs ds A) : ∀ (i : Nat) es, (inE ms ds)[i]? = some (.ro es) → ∃ a xs, vs[i]? = some (.ref a) ∧ SqL K fr a xs ∧ RpAll K F xs es := by
  induction h with
  | nil => intro i d e; simp [inE] at e
  | d r _ ih =>
    intro i d e
    cases i with
    | zero => simp [inE] at e
    | succ i => exact ih i d (by simpa [inE] using e)
  | io _ _ _ ih =>
    intro i d e
    cases i with
    | zero => simp [inE] at e
    | succ i => exact ih i d (by simpa [inE] using e)
  | ro s r _ ih =>
    intro i d e
    cases i with
    | zero => simp [inE] at e; subst e; exact ⟨_, _, rfl, s, r⟩
    | succ i => exact ih i d (by simpa [inE] using e)
  | fx _ _ ih =>
    intro i d e
    cases i with
    | zero => simp [inE, fnD] at e
    | succ i => exact ih i d (by simpa [inE, fnD] using e)
theorem inE_io {K : PySem.W.Frag} {F fr H : Hp} {ms : List Mo} {vs : List V} {ds : List PyData} {A : List Addr} (h : ArgsIn K F fr H ms vs ds A) : ∀ (i k : Nat) d, ((inE ms ds)[i]? = some (.io d) ∨ (inE ms ds)[i]? = some (.o d)) → ∃ a, (inE ms ds)[i]? = some (.io d) ∧ vs[i]? = some (.ref a) ∧ F a = none ∧ Ow K F H a d ∧ a ∈ A ∧ ioAt k ms A (k + i) = some a := by
  induction h with
  | nil => intro i k d e; simp [inE] at e
  | d r _ ih =>
    intro i k d e
    cases i with
    | zero => simp [inE] at e
    | succ i =>
      obtain ⟨a, h1, h2, h3, h4, h5, h6⟩ := ih i (k + 1) d (by simpa [inE] using e)
      refine ⟨a, by simpa [inE] using h1, by simpa using h2, h3, h4, h5, ?_⟩
      show ioAt (k + 1) _ _ (k + (i + 1)) = some a
      rw [show k + (i + 1) = k + 1 + i by omega]; exact h6
  | io f o _ ih =>
    intro i k d e
    cases i with
    | zero =>
      simp [inE] at e
      subst e
      exact ⟨_, rfl, rfl, f, o, List.mem_cons_self, by show (if k = k + 0 then _ else _) = _; rw [if_pos (by omega)]⟩
    | succ i =>
      obtain ⟨a, h1, h2, h3, h4, h5, h6⟩ := ih i (k + 1) d (by simpa [inE] using e)
      refine ⟨a, by simpa [inE] using h1, by simpa using h2, h3, h4, List.mem_cons_of_mem _ h5, ?_⟩
      show (if k = k + (i + 1) then _ else ioAt (k + 1) _ _ (k + (i + 1))) = some a
      rw [if_neg (by omega), show k + (i + 1) = k + 1 + i by omega]; exact h6
  | ro _ _ _ ih =>
    intro i k d e
    cases i with
    | zero => simp [inE] at e
    | succ i =>
      obtain ⟨a, h1, h2, h3, h4, h5, h6⟩ := ih i (k + 1) d (by simpa [inE] using e)
      refine ⟨a, by simpa [inE] using h1, by simpa using h2, h3, h4, h5, ?_⟩
      show ioAt (k + 1) _ _ (k + (i + 1)) = some a
      rw [show k + (i + 1) = k + 1 + i by omega]; exact h6
  | fx _ _ ih =>
    intro i k d e
    cases i with
    | zero => simp [inE, fnD] at e
    | succ i =>
      obtain ⟨a, h1, h2, h3, h4, h5, h6⟩ := ih i (k + 1) d (by simpa [inE, fnD] using e)
      refine ⟨a, by simpa [inE, fnD] using h1, by simpa using h2, h3, h4, h5, ?_⟩
      show ioAt (k + 1) _ _ (k + (i + 1)) = some a
      rw [show k + (i + 1) = k + 1 + i by omega]; exact h6
theorem ioAt_ge {ms : List Mo} : ∀ {A : List Addr} {k j : Nat} {a : Addr}, ioAt k ms A j = some a → k ≤ j ∧ a ∈ A := by
  induction ms with
  | nil => intro A k j a h; cases A <;> simp [ioAt] at h
  | cons m r ih =>
    intro A k j a h
    cases m with
    | d => have := ih (A := A) (k := k + 1) (j := j) (a := a) (by simpa [ioAt] using h); exact ⟨by omega, this.2⟩
    | ro => have := ih (A := A) (k := k + 1) (j := j) (a := a) (by simpa [ioAt] using h); exact ⟨by omega, this.2⟩
    | fx => have := ih (A := A) (k := k + 1) (j := j) (a := a) (by simpa [ioAt] using h); exact ⟨by omega, this.2⟩
    | io =>
      cases A with
      | nil => have := ih (A := []) (k := k + 1) (j := j) (a := a) (by simpa [ioAt] using h); exact ⟨by omega, this.2⟩
      | cons b A =>
        unfold ioAt at h
        by_cases e : k = j
        · rw [if_pos e] at h; cases h; exact ⟨by omega, List.mem_cons_self⟩
        · rw [if_neg e] at h
          have := ih h
          exact ⟨by omega, List.mem_cons_of_mem _ this.2⟩
theorem ioAt_inj {ms : List Mo} : ∀ {A : List Addr} {k i j : Nat} {a : Addr}, A.Nodup → ioAt k ms A i = some a → ioAt k ms A j = some a → i = j := by
  induction ms with
  | nil => intro A k i j a _ h; cases A <;> simp [ioAt] at h
  | cons m r ih =>
    intro A k i j a nd h1 h2
    cases m with
    | d => exact ih nd (by simpa [ioAt] using h1) (by simpa [ioAt] using h2)
    | ro => exact ih nd (by simpa [ioAt] using h1) (by simpa [ioAt] using h2)
    | fx => exact ih nd (by simpa [ioAt] using h1) (by simpa [ioAt] using h2)
    | io =>
      cases A with
      | nil => exact ih nd (by simpa [ioAt] using h1) (by simpa [ioAt] using h2)
      | cons b A =>
        unfold ioAt at h1 h2
        have nb := (List.nodup_cons.mp nd).1
        by_cases e1 : k = i
        · by_cases e2 : k = j
          · omega
          · rw [if_pos e1] at h1; rw [if_neg e2] at h2
            cases h1
            exact absurd (ioAt_ge h2).2 nb
        · by_cases e2 : k = j
          · rw [if_neg e1] at h1; rw [if_pos e2] at h2
            cases h2
            exact absurd (ioAt_ge h1).2 nb
          · rw [if_neg e1] at h1; rw [if_neg e2] at h2
            exact ih (List.nodup_cons.mp nd).2 h1 h2
/-- the objects that were lent stand at the end -/
theorem outs_of {K : PySem.W.Frag} {B : Base} {σ : L2.St} {H F F0 fr0 H0 : Hp} {env : Ev} (L : Ly K B σ H F env) : ∀ {ms : List Mo} {vs : List V} {ds : List PyData} {A : List Addr} {k : Nat} {outs : List PyData}, ArgsIn K F0 fr0 H0 ms vs ds A → (∀ j, k ≤ j → B.io j = ioAt k ms A j) → outE k ms env = some outs → OutsOk K F H A outs := by
  intro ms vs ds A k outs h
  induction h generalizing k outs with
  | nil => intro _ e; cases e; exact .nil
  | d _ _ ih => intro hB e; exact ih (k := k + 1) (fun j hj => by have := hB j (by omega); simpa [ioAt] using this) (by simpa [outE] using e)
  | ro _ _ _ ih => intro hB e; exact ih (k := k + 1) (fun j hj => by have := hB j (by omega); simpa [ioAt] using this) (by simpa [outE] using e)
  | fx _ _ ih => intro hB e; exact ih (k := k + 1) (fun j hj => by have := hB j (by omega); simpa [ioAt] using this) (by simpa [outE] using e)
  | io f o _ ih =>
    rename_i ms a vs d ds A _
    intro hB e
    unfold outE at e
    split at e
    · rename_i d' q
      cases h2 : outE (k + 1) ms env with
      | none => rw [h2] at e; cases e
      | some os =>
        rw [h2] at e
        cases e
        have hk := hB k (Nat.le_refl _)
        unfold ioAt at hk
        rw [if_pos rfl] at hk
        obtain ⟨b, q1, q2⟩ := L.iof k d' q
        rw [hk] at q1
        cases q1
        obtain ⟨c, p1, p2, p3, p4⟩ := L.own k d' (by unfold ow; rw [q])
        rw [q2] at p1
        cases p1
        refine .cons p2 p4 (ih (fun j hj => ?_) h2)
        have := hB j (by omega)
        unfold ioAt at this
        rw [if_neg (by omega)] at this
        exact this
    · cases e
theorem start_get {N : List Str} {vs : List V} {i : Nat} {x : V} (h : vs[i]? = some x) : (L2.start N vs)[i]? = some (some x) := by
  unfold L2.start
  have hl := (List.getElem?_eq_some_iff.mp h).1
  rw [List.getElem?_append_left (by simpa using hl), List.getElem?_map, h]
  rfl
theorem startE_get {N : Nat} {ms : List Mo} {ds : List PyData} {i : Nat} {s : Sl} (hs : s ≠ .e) (h : (startE N ms ds)[i]? = some s) : (inE ms ds)[i]? = some s := by
  unfold startE at h
  by_cases hl : i < (inE ms ds).length
  · rw [List.getElem?_append_left hl] at h; exact h
  · rw [List.getElem?_append_right (by omega)] at h
    obtain ⟨h1, h2⟩ := List.getElem?_eq_some_iff.mp h
    rw [List.getElem_replicate] at h2
    exact absurd h2.symm hs
/-- the state at the entry -/
theorem Ly.start {K : PySem.W.Frag} {F H : Hp} {ms : List Mo} {vs : List V} {ds : List PyData} {A : List Addr} {N : List Str} (hFH : Le F H) (tb : TbOk K (less H A) F H) (nd : A.Nodup) (hA : ∀ a ∈ A, F a = none) (h : ArgsIn K F (less H A) H ms vs ds A) (hN : ms.length ≤ N.length) :
    Ly K ⟨F, less H A, less H A, ioAt 0 ms A⟩ (L2.start N vs) H F (startE N.length ms ds) := by
  have ows : ∀ (i : Nat) d, ow (startE N.length ms ds) i = some d → ∃ a, (startE N.length ms ds)[i]? = some (.io d) ∧ vs[i]? = some (.ref a) ∧ F a = none ∧ Ow K F H a d ∧ a ∈ A ∧ ioAt 0 ms A i = some a := by
    intro i d e
    unfold ow at e
    split at e
    · rename_i q
      cases e
      obtain ⟨a, h1, h2, h3, h4, h5, h6⟩ := inE_io h i 0 _ (.inr (startE_get (by simp) q))
      rw [startE_get (by simp) q] at h1; cases h1
    · rename_i q
      cases e
      obtain ⟨a, h1, h2, h3, h4, h5, h6⟩ := inE_io h i 0 _ (.inl (startE_get (by simp) q))
      rw [Nat.zero_add] at h6
      exact ⟨a, q, h2, h3, h4, h5, h6⟩
    · cases e
  exact {
    len := by
      unfold L2.start startE
      rw [List.length_append, List.length_append, List.length_map, List.length_replicate, List.length_replicate, inE_len h, h.lens.1]
    sub := hFH
    tb := tb
    ext := Le.refl _
    new := fun b o e => .inr e
    keep := less_le
    val := fun i d e => by
      obtain ⟨x, h1, h2⟩ := inE_v h i d (startE_get (by simp) e)
      exact ⟨x, start_get h1, h2⟩
    rd := fun i es e => by
      obtain ⟨a, xs, h1, h2, h3⟩ := inE_ro h i es (startE_get (by simp) e)
      exact ⟨a, xs, start_get h1, h2, h3⟩
    rol := Le.refl _
    xs := fun i a e => by
      obtain ⟨h1, h2⟩ := inE_x h i a (startE_get (by simp) e)
      exact ⟨start_get h1, h2⟩
    iof := fun i d e => by
      obtain ⟨a, h1, h2, h3, h4, h5, h6⟩ := ows i d (by unfold ow; rw [e])
      exact ⟨a, h6, start_get h2⟩
    own := fun i d e => by
      obtain ⟨a, h1, h2, h3, h4, h5, h6⟩ := ows i d e
      exact ⟨a, start_get h2, h3, less_in h5, h4⟩
    apart := fun i j a d d' e1 e2 s1 s2 => by
      obtain ⟨b, h1, h2, h3, h4, h5, h6⟩ := ows i d e1
      obtain ⟨c, k1, k2, k3, k4, k5, k6⟩ := ows j d' e2
      rw [start_get h2] at s1; cases s1
      rw [start_get k2] at s2; cases s2
      exact ioAt_inj nd h6 k6 }
end
/-- the context of a def's body -/
abbrev cxB (P : Program) (w : World) (K : PySem.W.Frag) (mg : Str → Option Value) (base : Heap) (N : List Str) (qual : Str) (st : Stmt) (f : Addr) (cdv : Value) (A : Around) (outer : List PySem.Env) (s : Shared) (H : Hp) (E : XK) : Cx := cxOf (L2.CX P w) P w K mg base N qual (defScope st) f cdv A outer s H E
abbrev wB (E : XK) : WX := fun cls d _ H => E cls d H
/-- a def that knows its code object: its body's data, and what the promise says of them -/
theorem def_okL {P : Program} {w : World} {K : PySem.W.Frag} {mg : Str → Option Value} {base : Heap} {x qual : Str} {st : Stmt} {f : Addr} {fd : FuncData} {N ps : List Str} {k : Nat} {ms : List Mo} {sp : FSp} {body : DS} (Fn : Fun K x qual st f fd) (S : FnScope N ps (defScope st)) (hms : ms.length = ps.length)
    (hbody : ∀ (cdv : Value), fd.code = cdv → ∀ (A : Around) (outer : List PySem.Env) (s : Shared) (H : Hp) (E : XK), Gd (cxB P w K mg base N qual st f cdv A outer s H E) (wB E) k → JSs (cxB P w K mg base N qual st f cdv A outer s H E) (wB E) (defBody st) body)
    (hsp : ∀ ds Qd Rd, sp ds Qd Rd → body { nx := fun env => ∃ outs, outE 0 ms env = some outs ∧ Qd .none outs, rt := fun d env => ∃ outs, outE 0 ms env = some outs ∧ Qd d outs, rs := fun ex env => ∃ outs, outE 0 ms env = some outs ∧ Rd ex outs } (startE N.length ms ds)) :
    FnG P w K mg base (k + 1) f fd ps (lift K mg ms sp) := by
  have hpN : ps.length ≤ N.length := by
    have := congrArg List.length S.pre
    rw [List.length_take] at this
    omega
  refine fnG_of Fn S (fun vs H Q E ⟨F, A, ds, Qd, Rd, _, _, _, _, h, _⟩ => by rw [h.lens.1]; exact hms) (fun cdv hcd A hgu outer s H vs Q E hr h => ?_)
  obtain ⟨F, Ad, ds, Qd, Rd, hFH, tb, nd, hA, ha, hs, hQ, hE⟩ := h
  have gd : Gd (cxB P w K mg base N qual st f cdv A outer s H E) (wB E) k := ⟨rfl, S.nd, hr, takes_of rfl rfl rfl rfl, passes_of rfl, hgu⟩
  refine ⟨_, (hbody cdv hcd A outer s H E gd).ps, ?_⟩
  have L0 := Ly.start (N := N) hFH tb nd hA ha (by omega)
  have back : ∀ σ' H' F' env' outs, Ly K ⟨F, less H Ad, less H Ad, ioAt 0 ms Ad⟩ σ' H' F' env' → outE 0 ms env' = some outs → Back K F H Ad F' H' outs := fun σ' H' F' env' outs L e =>
    ⟨L.ext, L.sub, L.keep, L.tb, L.new, outs_of L ha (fun j _ => rfl) e⟩
  refine ⟨⟨F, less H Ad, less H Ad, ioAt 0 ms Ad⟩, F, _, { nx := fun env => ∃ outs, outE 0 ms env = some outs ∧ Qd .none outs, rt := fun d env => ∃ outs, outE 0 ms env = some outs ∧ Qd d outs, rs := fun ex env => ∃ outs, outE 0 ms env = some outs ∧ Rd ex outs }, ⟨L0, ?_⟩, hsp ds Qd Rd hs, ⟨?_, ?_, ?_, ?_⟩⟩
  · rintro cls d σ' H' ⟨F', env', ex, L, hx, outs, e, q⟩
    exact hE ex cls d H' F' outs (back _ _ _ _ _ L e) hx q
  · rintro σ' H' F' env' L _ ⟨outs, e, q⟩
    exact hQ .non .none H' F' outs (back _ _ _ _ _ L e) .non q
  · rintro σ' H' F' env' v d L _ r ⟨outs, e, q⟩
    exact hQ v d H' F' outs (back _ _ _ _ _ L e) r q
  · rintro σ' H' F' env' L _ q; exact q
  · rintro σ' H' F' env' L _ q; exact q
/-- THE RULE for a def: its body's data, and what the promise says of them -/
theorem def_ok {P : Program} {w : World} {K : PySem.W.Frag} {mg : Str → Option Value} {base : Heap} {x qual : Str} {st : Stmt} {f : Addr} {fd : FuncData} {N ps : List Str} {k : Nat} {ms : List Mo} {sp : FSp} {body : DS} (Fn : Fun K x qual st f fd) (S : FnScope N ps (defScope st)) (hms : ms.length = ps.length)
    (hbody : ∀ (cdv : Value) (A : Around) (outer : List PySem.Env) (s : Shared) (H : Hp) (E : XK), Gd (cxB P w K mg base N qual st f cdv A outer s H E) (wB E) k → JSs (cxB P w K mg base N qual st f cdv A outer s H E) (wB E) (defBody st) body)
    (hsp : ∀ ds Qd Rd, sp ds Qd Rd → body { nx := fun env => ∃ outs, outE 0 ms env = some outs ∧ Qd .none outs, rt := fun d env => ∃ outs, outE 0 ms env = some outs ∧ Qd d outs, rs := fun ex env => ∃ outs, outE 0 ms env = some outs ∧ Rd ex outs } (startE N.length ms ds)) :
    FnG P w K mg base (k + 1) f fd ps (lift K mg ms sp) := def_okL Fn S hms (fun cdv _ => hbody cdv) hsp
/-! ### defs that hand a new object over -/
/-- a promise of such a def -/
def liftN (K : PySem.W.Frag) (mg : Str → Option Value) (ms : List Mo) (sp : FSp) : Sp := fun vs H Q E => ∃ (F : Hp) (A : List Addr) (ds : List PyData) (Qd : PyData → List PyData → Prop) (Rd : Ex → List PyData → Prop), Le F H ∧ TbOk K (less H A) F H ∧ A.Nodup ∧ (∀ a ∈ A, F a = none) ∧ ArgsIn K F (less H A) H ms vs ds A ∧ sp ds Qd Rd ∧
  (∀ p d H' F' outs, Back K F H A F' H' outs → F' p = none → untb (H p) = none → Ow K F' H' p d → Qd d outs → Q (.ref p) H') ∧ ∀ ex cls dd H' F' outs, Back K F H A F' H' outs → ExRep K mg F' H' cls dd ex → Rd ex outs → E cls dd H'
theorem io_all {K : PySem.W.Frag} {F fr H : Hp} {ms : List Mo} {vs : List V} {ds : List PyData} {A : List Addr} (h : ArgsIn K F fr H ms vs ds A) : ∀ (k : Nat) (a : Addr), a ∈ A → ∃ j, ms[j]? = some .io ∧ ioAt k ms A (k + j) = some a := by
  induction h with
  | nil => intro k a h; cases h
  | d _ _ ih =>
    intro k a h
    obtain ⟨j, h1, h2⟩ := ih (k + 1) a h
    exact ⟨j + 1, by simpa using h1, by rw [← h2, show k + 1 + j = k + (j + 1) by omega]; rfl⟩
  | ro _ _ _ ih =>
    intro k a h
    obtain ⟨j, h1, h2⟩ := ih (k + 1) a h
    exact ⟨j + 1, by simpa using h1, by rw [← h2, show k + 1 + j = k + (j + 1) by omega]; rfl⟩
  | fx _ _ ih =>
    intro k a h
    obtain ⟨j, h1, h2⟩ := ih (k + 1) a h
    exact ⟨j + 1, by simpa using h1, by rw [← h2, show k + 1 + j = k + (j + 1) by omega]; rfl⟩
  | io _ _ _ ih =>
    intro k a h
    rcases (List.mem_cons.mp h) with e | h
    · subst e
      exact ⟨0, rfl, by show (if k = k + 0 then _ else _) = _; rw [if_pos (by omega)]⟩
    · obtain ⟨j, h1, h2⟩ := ih (k + 1) a h
      refine ⟨j + 1, by simpa using h1, ?_⟩
      show (if k = k + (j + 1) then _ else _) = _
      rw [if_neg (by omega), ← h2, show k + 1 + j = k + (j + 1) by omega]
theorem outE_io : ∀ {ms : List Mo} {k j : Nat} {env : Ev} {outs : List PyData}, outE k ms env = some outs → ms[j]? = some .io → ∃ d, env[k + j]? = some (.io d)
  | [], _, _, _, _, _, h => by simp at h
  | .io :: ms, k, j, env, outs, e, h => by
    unfold outE at e
    split at e
    · rename_i d' q
      cases j with
      | zero => exact ⟨d', q⟩
      | succ j =>
        cases h2 : outE (k + 1) ms env with
        | none => rw [h2] at e; cases e
        | some os =>
          obtain ⟨d, z⟩ := outE_io h2 (j := j) (by simpa using h)
          exact ⟨d, by rw [show k + (j + 1) = k + 1 + j by omega]; exact z⟩
    · cases e
  | .d :: ms, k, 0, env, outs, e, h => by simp at h
  | .ro :: ms, k, 0, env, outs, e, h => by simp at h
  | .fx :: ms, k, 0, env, outs, e, h => by simp at h
  | .d :: ms, k, j + 1, env, outs, e, h => by
    obtain ⟨d, z⟩ := outE_io (k := k + 1) (j := j) (by simpa [outE] using e) (by simpa using h)
    exact ⟨d, by rw [show k + (j + 1) = k + 1 + j by omega]; exact z⟩
  | .ro :: ms, k, j + 1, env, outs, e, h => by
    obtain ⟨d, z⟩ := outE_io (k := k + 1) (j := j) (by simpa [outE] using e) (by simpa using h)
    exact ⟨d, by rw [show k + (j + 1) = k + 1 + j by omega]; exact z⟩
  | .fx :: ms, k, j + 1, env, outs, e, h => by
    obtain ⟨d, z⟩ := outE_io (k := k + 1) (j := j) (by simpa [outE] using e) (by simpa using h)
    exact ⟨d, by rw [show k + (j + 1) = k + 1 + j by omega]; exact z⟩
/-- THE RULE for a def that hands a new object over -/
theorem def_okN {P : Program} {w : World} {K : PySem.W.Frag} {mg : Str → Option Value} {base : Heap} {x qual : Str} {st : Stmt} {f : Addr} {fd : FuncData} {N ps : List Str} {k : Nat} {ms : List Mo} {sp : FSp} {body : DS} (Fn : Fun K x qual st f fd) (S : FnScope N ps (defScope st)) (hms : ms.length = ps.length)
    (hbody : ∀ (cdv : Value) (A : Around) (outer : List PySem.Env) (s : Shared) (H : Hp) (E : XK), Gd (cxB P w K mg base N qual st f cdv A outer s H E) (wB E) k → JSs (cxB P w K mg base N qual st f cdv A outer s H E) (wB E) (defBody st) body)
    (hsp : ∀ ds Qd Rd, sp ds Qd Rd → body { nx := fun _ => False, rt := fun d env => ∃ outs, outE 0 ms env = some outs ∧ Qd d outs, rs := fun ex env => ∃ outs, outE 0 ms env = some outs ∧ Rd ex outs, own := true } (startE N.length ms ds)) :
    FnG P w K mg base (k + 1) f fd ps (liftN K mg ms sp) := by
  have hpN : ps.length ≤ N.length := by
    have := congrArg List.length S.pre
    rw [List.length_take] at this
    omega
  refine fnG_of Fn S (fun vs H Q E ⟨F, A, ds, Qd, Rd, _, _, _, _, h, _⟩ => by rw [h.lens.1]; exact hms) (fun cdv hcd A hgu outer s H vs Q E hr h => ?_)
  obtain ⟨F, Ad, ds, Qd, Rd, hFH, tb, nd, hA, ha, hs, hQ, hE⟩ := h
  have gd : Gd (cxB P w K mg base N qual st f cdv A outer s H E) (wB E) k := ⟨rfl, S.nd, hr, takes_of rfl rfl rfl rfl, passes_of rfl, hgu⟩
  refine ⟨_, (hbody cdv A outer s H E gd).ps, ?_⟩
  have L0 := Ly.start (N := N) hFH tb nd hA ha (by omega)
  have back : ∀ σ' H' F' env' outs, Ly K ⟨F, less H Ad, less H Ad, ioAt 0 ms Ad⟩ σ' H' F' env' → outE 0 ms env' = some outs → Back K F H Ad F' H' outs := fun σ' H' F' env' outs L e =>
    ⟨L.ext, L.sub, L.keep, L.tb, L.new, outs_of L ha (fun j _ => rfl) e⟩
  refine ⟨⟨F, less H Ad, less H Ad, ioAt 0 ms Ad⟩, F, _, { nx := fun _ => False, rt := fun d env => ∃ outs, outE 0 ms env = some outs ∧ Qd d outs, rs := fun ex env => ∃ outs, outE 0 ms env = some outs ∧ Rd ex outs, own := true }, ⟨L0, ?_⟩, hsp ds Qd Rd hs, ⟨?_, ?_, ?_, ?_⟩⟩
  · rintro cls d σ' H' ⟨F', env', ex, L, hx, outs, e, q⟩
    exact hE ex cls d H' F' outs (back _ _ _ _ _ L e) hx q
  · rintro σ' H' F' env' L _ q; exact q.elim
  · rintro σ' H' F' env' v d L _ r ⟨outs, e, q⟩
    obtain ⟨p, rfl, h1, h2, h3, h4⟩ := r
    have h2 : less H Ad p = none := h2
    have hpA : p ∉ Ad := fun hm => by
      obtain ⟨j, g1, g2⟩ := io_all ha 0 p hm
      obtain ⟨d', g3⟩ := outE_io e g1
      obtain ⟨c, g4, g5⟩ := L.iof _ d' g3
      have g4 : ioAt 0 ms Ad (0 + j) = some c := g4
      rw [g2] at g4
      cases g4
      exact h4 _ d' (by unfold ow; rw [g3]) g5
    exact hQ p d H' F' outs (back _ _ _ _ _ L e) h1 (by unfold less at h2; rw [if_neg hpA] at h2; exact h2) h3 q
  · rintro σ' H' F' env' L _ q; exact q
  · rintro σ' H' F' env' L _ q; exact q
end BX
/-! D10 -/
namespace BX
open PySem PySem.Spec L2
def AK.mo : AK → Mo
  | .d _ => .d
  | .io _ => .io
  | .ro _ => .ro
  | .fx _ => .fx
  | .fg _ => .fx
def ioIx : List AK → List Nat
  | [] => []
  | .io i :: ts => i :: ioIx ts
  | _ :: ts => ioIx ts
def roIx : List AK → List Nat
  | [] => []
  | .ro i :: ts => i :: roIx ts
  | _ :: ts => roIx ts
/-- what was lent is back in its slots -/
def putL : List (Nat × PyData) → Ev → Ev
  | [], env => env
  | (i, d) :: ps, env => putL ps (putO env i d)
def dCall (sp : FSp) (ts : List AK) : DE := fun env Q R => (ioIx ts).Nodup ∧ (∀ i ∈ roIx ts, i ∉ ioIx ts) ∧ dA ts env (fun ds env1 => sp ds (fun d outs => Q d (putL ((ioIx ts).zip outs) env1)) fun ex outs => R ex (putL ((ioIx ts).zip outs) env1)) R
theorem putL_ne {i : Nat} : ∀ {ps : List (Nat × PyData)} {env : Ev}, i ∉ ps.map (·.1) → (putL ps env)[i]? = env[i]?
  | [], _, _ => rfl
  | (j, d) :: ps, env, h => by
    have h1 : j ≠ i := fun e => h (by rw [← e]; exact List.mem_cons_self)
    show (putL ps (putO env j d))[i]? = _
    rw [putL_ne fun e => h (List.mem_cons_of_mem _ e), putO_ne h1]
theorem putL_len : ∀ {ps : List (Nat × PyData)} {env : Ev}, (putL ps env).length = env.length
  | [], _ => rfl
  | (j, d) :: ps, env => by
    show (putL ps (putO env j d)).length = _
    rw [putL_len, putO_length]
theorem ow_putL_ne {i : Nat} {ps : List (Nat × PyData)} {env : Ev} (h : i ∉ ps.map (·.1)) : ow (putL ps env) i = ow env i := by
  unfold ow
  rw [putL_ne h]
theorem ow_putL {i : Nat} {d : PyData} : ∀ {ps : List (Nat × PyData)} {env : Ev}, (ps.map (·.1)).Nodup → (i, d) ∈ ps → (∃ d0, ow env i = some d0) → ow (putL ps env) i = some d
  | [], _, _, h, _ => by cases h
  | (j, e) :: ps, env, nd, h, ⟨d0, h0⟩ => by
    show ow (putL ps (putO env j e)) i = _
    rcases (List.mem_cons.mp h) with q | q
    · cases q
      rw [ow_putL_ne (List.nodup_cons.mp nd).1]
      exact ow_putO h0
    · have hj : j ≠ i := fun q2 => (List.nodup_cons.mp nd).1 (q2 ▸ List.mem_map_of_mem (f := (·.1)) q)
      exact ow_putL (List.nodup_cons.mp nd).2 q ⟨d0, by rw [ow_putO_ne hj]; exact h0⟩
theorem val_putL {i : Nat} {d : PyData} : ∀ {ps : List (Nat × PyData)} {env : Ev}, (putL ps env)[i]? = some (.v d) → env[i]? = some (.v d)
  | [], _, h => h
  | _ :: _, _, h => val_putO (val_putL h)
theorem ro_putL {i : Nat} {d : List PyData} : ∀ {ps : List (Nat × PyData)} {env : Ev}, (putL ps env)[i]? = some (.ro d) → env[i]? = some (.ro d)
  | [], _, h => h
  | _ :: _, _, h => ro_putO (ro_putL h)
theorem x_putL {i : Nat} {a : XO} : ∀ {ps : List (Nat × PyData)} {env : Ev}, (putL ps env)[i]? = some (.x a) → env[i]? = some (.x a)
  | [], _, h => h
  | _ :: _, _, h => x_putO (x_putL h)
theorem io_putL {i : Nat} {d : PyData} : ∀ {ps : List (Nat × PyData)} {env : Ev}, (putL ps env)[i]? = some (.io d) → ∃ d2, env[i]? = some (.io d2)
  | [], _, h => ⟨d, h⟩
  | (j, e) :: ps, env, h => by
    obtain ⟨d2, h2⟩ := io_putL (ps := ps) (env := putO env j e) h
    exact io_putO h2
def adr (σ : L2.St) (i : Nat) : Option Addr := match σ[i]? with
  | some (some (.ref a)) => some a
  | _ => none
section
variable {K : PySem.W.Frag} {B : Base} {σ : L2.St} {H F : Hp} {env : Ev}
theorem adr_of {i : Nat} {a : Addr} (h : σ[i]? = some (some (.ref a))) : adr σ i = some a := by
  unfold adr
  rw [h]
theorem of_adr {i : Nat} {a : Addr} (h : adr σ i = some a) : σ[i]? = some (some (.ref a)) := by
  unfold adr at h
  split at h
  · rename_i q; cases h; exact q
  · cases h
theorem ow_at {i : Nat} {d : PyData} (h : env[i]? = some (.o d) ∨ env[i]? = some (.io d)) : ow env i = some d := by
  unfold ow
  rcases h with h | h <;> rw [h]
theorem args_in (L : Ly K B σ H F env) {A0 : List Addr} (hA0 : ∀ a ∈ A0, B.fr a = none ∧ F a = none) : ∀ {ts : List AK} {vs : List V} {ds : List PyData}, ArgsOk K B σ F env ts vs ds → (∀ i ∈ roIx ts, ∀ a d, ow env i = some d → σ[i]? = some (some (.ref a)) → a ∉ A0) →
    ArgsIn K F (less H A0) H (ts.map AK.mo) vs ds ((ioIx ts).filterMap (adr σ)) := by
  intro ts vs ds h
  induction h with
  | nil => intro _; exact .nil
  | d r _ ih => intro hr; exact .d r (ih hr)
  | io hv ho _ ih =>
    intro hr
    obtain ⟨a, h1, h2, h3, h4⟩ := L.own _ _ ho
    rw [hv] at h1
    cases h1
    show ArgsIn K F _ H (.io :: _) _ _ (List.filterMap (adr σ) (_ :: _))
    rw [List.filterMap_cons, adr_of hv]
    exact .io h2 h4 (ih hr)
  | ro hv hp _ ih =>
    intro hr
    have hin := hr _ List.mem_cons_self
    have tl := ih fun i hi => hr i (List.mem_cons_of_mem _ hi)
    unfold pk at hp
    split at hp
    · rename_i q
      cases hp
      obtain ⟨x, y1, y2⟩ := L.val _ _ q
      rw [hv] at y1; cases y1
      cases y2 with
      | lst s r =>
      exact .ro (SqL.of (less_out (fun hm => by rw [(hA0 _ hm).2] at s; cases s) (L.sub _ _ s))) r tl
    · rename_i q
      cases hp
      have o := ow_at (.inl q)
      obtain ⟨a, y1, _, _, y2⟩ := L.own _ _ o
      have y0 := y1
      rw [hv] at y1; cases y1
      cases y2 with
      | lst s r => exact .ro (SqL.of (less_out (hin _ _ o y0) s)) r tl
    · rename_i q
      cases hp
      have o := ow_at (.inr q)
      obtain ⟨a, y1, _, _, y2⟩ := L.own _ _ o
      have y0 := y1
      rw [hv] at y1; cases y1
      cases y2 with
      | lst s r => exact .ro (SqL.of (less_out (hin _ _ o y0) s)) r tl
    · rename_i q
      cases hp
      obtain ⟨a, xs, y1, y2, y3⟩ := L.rd _ _ q
      rw [hv] at y1; cases y1
      refine .ro ?_ y3 tl
      rcases L.rol.sqL y2 with (s | ⟨o, s⟩) | s
      · exact SqL.of (less_out (fun hm => by rw [(hA0 _ hm).1] at s; cases s) (L.keep _ _ s))
      · exact .inl (.inr ⟨o, less_out (fun hm => by rw [(hA0 _ hm).1] at s; cases s) (L.keep _ _ s)⟩)
      · exact .inr s
    · cases hp
  | fx hn _ ih => intro hr; exact .fx hn (ih hr)
  | fg hn _ ih => intro hr; exact .fx hn (ih hr)
theorem outs_len {K : PySem.W.Frag} {F H : Hp} {A : List Addr} {outs : List PyData} (h : OutsOk K F H A outs) : A.length = outs.length := by
  induction h with
  | nil => rfl
  | cons _ _ _ ih => exact congrArg (· + 1) ih
theorem outs_get {K : PySem.W.Frag} {F H : Hp} {A : List Addr} {outs : List PyData} (h : OutsOk K F H A outs) : ∀ {k : Nat} {a : Addr} {d : PyData}, A[k]? = some a → outs[k]? = some d → F a = none ∧ Ow K F H a d := by
  induction h with
  | nil => intro k a d h; simp at h
  | cons f o _ ih =>
    intro k a d h1 h2
    cases k with
    | zero => simp at h1 h2; subst h1 h2; exact ⟨f, o⟩
    | succ k => exact ih (by simpa using h1) (by simpa using h2)
theorem ix_own {ts : List AK} {vs : List V} {ds : List PyData} (h : ArgsOk K B σ F env ts vs ds) : ∀ i ∈ ioIx ts, ∃ d, ow env i = some d := by
  induction h with
  | nil => intro i h; cases h
  | d _ _ ih => exact ih
  | io _ ho _ ih =>
    intro i h
    rcases (List.mem_cons.mp h) with q | q
    · subst q; exact ⟨_, ho⟩
    · exact ih i q
  | ro _ _ _ ih => exact ih
  | fx _ _ ih => exact ih
  | fg _ _ ih => exact ih
theorem filt_len (L : Ly K B σ H F env) : ∀ {is : List Nat}, (∀ i ∈ is, ∃ d, ow env i = some d) → (is.filterMap (adr σ)).length = is.length ∧ ∀ (k i : Nat), is[k]? = some i → ∃ a, (is.filterMap (adr σ))[k]? = some a ∧ σ[i]? = some (some (.ref a))
  | [], _ => ⟨rfl, fun k i h => by simp at h⟩
  | j :: is, h => by
    obtain ⟨d, hd⟩ := h j List.mem_cons_self
    obtain ⟨a, h1, _⟩ := L.own j d hd
    obtain ⟨q1, q2⟩ := filt_len L fun i hi => h i (List.mem_cons_of_mem _ hi)
    rw [List.filterMap_cons, adr_of h1]
    refine ⟨congrArg (· + 1) q1, fun k i hk => ?_⟩
    cases k with
    | zero => simp at hk; subst hk; exact ⟨a, rfl, h1⟩
    | succ k => exact q2 k i (by simpa using hk)
theorem filt_mem (L : Ly K B σ H F env) {is : List Nat} {a : Addr} (h : a ∈ is.filterMap (adr σ)) : ∃ i ∈ is, σ[i]? = some (some (.ref a)) := by
  obtain ⟨i, hi, e⟩ := List.mem_filterMap.mp h
  exact ⟨i, hi, of_adr e⟩
theorem filt_nodup (L : Ly K B σ H F env) : ∀ {is : List Nat}, (∀ i ∈ is, ∃ d, ow env i = some d) → is.Nodup → (is.filterMap (adr σ)).Nodup
  | [], _, _ => List.nodup_nil
  | j :: is, h, nd => by
    obtain ⟨d, hd⟩ := h j List.mem_cons_self
    obtain ⟨a, h1, _⟩ := L.own j d hd
    rw [List.filterMap_cons, adr_of h1]
    refine List.nodup_cons.mpr ⟨fun hm => ?_, filt_nodup L (fun i hi => h i (List.mem_cons_of_mem _ hi)) (List.nodup_cons.mp nd).2⟩
    obtain ⟨i, hi, e⟩ := filt_mem L hm
    obtain ⟨d', hd'⟩ := h i (List.mem_cons_of_mem _ hi)
    have := L.apart j i a d d' hd hd' h1 e
    subst this
    exact (List.nodup_cons.mp nd).1 hi
theorem zip_keys {α : Type} : ∀ {is : List Nat} {ds : List α}, is.length = ds.length → (is.zip ds).map (·.1) = is
  | [], [], _ => rfl
  | i :: is, d :: ds, h => by
    rw [List.zip_cons_cons, List.map_cons, zip_keys (by simpa using h)]
  | [], _ :: _, h => absurd h (by simp)
  | _ :: _, [], h => absurd h (by simp)
/-- the state behind a call -/
theorem Ly.called (L : Ly K B σ H F env) {is : List Nat} {F' H' : Hp} {outs : List PyData} (ho : ∀ i ∈ is, ∃ d, ow env i = some d) (nd : is.Nodup) (b : Back K F H (is.filterMap (adr σ)) F' H' outs) : Ly K B σ H' F' (putL (is.zip outs) env) := by
  obtain ⟨flen, fget⟩ := filt_len L ho
  have hA : ∀ a ∈ is.filterMap (adr σ), B.fr a = none ∧ F a = none := fun a ha => by
    obtain ⟨i, hi, e⟩ := filt_mem L ha
    obtain ⟨d, hd⟩ := ho i hi
    obtain ⟨c, q1, q2, q3, _⟩ := L.own i d hd
    rw [e] at q1; cases q1
    exact ⟨q3, q2⟩
  have hlen : is.length = outs.length := by rw [← outs_len b.outs, flen]
  have keys := zip_keys hlen
  have keepH : ∀ (a : Addr) o, a ∉ is.filterMap (adr σ) → H a = some o → (∀ ps, o ≠ .tbl ps) → H' a = some o := fun a o ha e ho => b.keep a o (less_out ha e ho)
  have own : ∀ (i : Nat) (d : PyData), ow (putL (is.zip outs) env) i = some d → ∃ a, σ[i]? = some (some (.ref a)) ∧ F' a = none ∧ B.fr a = none ∧ Ow K F' H' a d := by
    intro i d e
    by_cases hi : i ∈ is
    · obtain ⟨k, hk⟩ := List.getElem?_of_mem hi
      obtain ⟨a, g1, g2⟩ := fget k i hk
      have hko : k < outs.length := by rw [← hlen]; exact (List.getElem?_eq_some_iff.mp hk).1
      have g3 : outs[k]? = some outs[k] := List.getElem?_eq_getElem hko
      have mem : (i, outs[k]) ∈ is.zip outs := by
        have : (is.zip outs)[k]? = some (i, outs[k]) := List.getElem?_zip_eq_some.mpr ⟨hk, g3⟩
        exact List.mem_of_getElem? this
      have e2 := ow_putL (by rw [keys]; exact nd) mem (ho i hi)
      rw [e] at e2
      cases e2
      obtain ⟨f1, f2⟩ := outs_get b.outs g1 g3
      exact ⟨a, g2, f1, (hA a (List.mem_of_getElem? g1)).1, f2⟩
    · rw [ow_putL_ne (by rw [keys]; exact hi)] at e
      obtain ⟨a, q1, q2, q3, q4⟩ := L.own i d e
      obtain ⟨o, q5, q6, _⟩ := q4.nt
      have ha : a ∉ is.filterMap (adr σ) := fun hm => by
        obtain ⟨j, hj, ej⟩ := filt_mem L hm
        obtain ⟨d', hd'⟩ := ho j hj
        have := L.apart i j a d d' e hd' q1 ej
        subst this
        exact hi hj
      have hF' : F' a = none := by
        cases z : F' a with
        | none => rfl
        | some u =>
          rcases b.new a u z with z2 | z2
          · rw [less_out ha q5 q6] at z2; cases z2
          · rw [q2] at z2; cases z2
      exact ⟨a, q1, hF', q3, q4.le b.le (by rw [q5]; exact keepH a o ha q5 q6)⟩
  exact {
    len := by rw [putL_len]; exact L.len
    tb := ⟨b.tb.tab, b.tb.nt, L.tb.ft, b.tb.fn⟩
    sub := b.sub
    ext := L.ext.trans b.le
    new := fun c u e => by
      rcases b.new c u e with z | z
      · by_cases hc : c ∈ is.filterMap (adr σ)
        · exact .inl (hA c hc).1
        · cases q : B.fr c with
          | none => exact .inl rfl
          | some o =>
            rw [less_out hc (L.keep c o q) (fun ps hz => L.tb.ft c ps (by rw [q, hz]))] at z
            cases z
      · exact L.new c u z
    keep := fun c u e => by
      refine keepH c u (fun hc => ?_) (L.keep c u e) fun ps hz => L.tb.ft c ps (by rw [e, hz])
      rw [(hA c hc).1] at e; cases e
    val := fun i d e => by
      obtain ⟨x, q1, q2⟩ := L.val i d (val_putL e)
      exact ⟨x, q1, q2.le b.le⟩
    rd := fun i d e => by
      obtain ⟨a, xs, q1, q2, q3⟩ := L.rd i d (ro_putL e)
      exact ⟨a, xs, q1, q2, q3.le b.le⟩
    rol := L.rol
    xs := fun i a e => ⟨(L.xs i a (x_putL e)).1, a.mono b.le (L.xs i a (x_putL e)).2⟩
    iof := fun i d e => by
      obtain ⟨d2, e2⟩ := io_putL e
      exact L.iof i d2 e2
    own := own
    apart := fun i j a d d' e1 e2 s1 s2 => by
      have old : ∀ (m : Nat) x, ow (putL (is.zip outs) env) m = some x → ∃ y, ow env m = some y := fun m x e => by
        by_cases hm : m ∈ is
        · exact ho m hm
        · rw [ow_putL_ne (by rw [keys]; exact hm)] at e; exact ⟨x, e⟩
      obtain ⟨y1, f1⟩ := old i d e1
      obtain ⟨y2, f2⟩ := old j d' e2
      exact L.apart i j a y1 y2 f1 f2 s1 s2 }
end
/-- a def that may be called by its name, with its promise -/
structure Cal (P : Program) (w : World) (K : PySem.W.Frag) (mg : Str → Option Value) (base : Heap) (x : Str) (k : Nat) (ms : List Mo) (sp : FSp) : Prop where
  at_ : ∃ f fd ps, FnG P w K mg base k f fd ps (lift K mg ms sp) ∧ mg x = some (.ref f) ∧ PySem.W.keepIn K (.ref f) = true ∧ Binds K fd ps []
section
variable {X : Cx} {W : WX} {n : Nat}
theorem call_go {ts : List AK} {ms : List Mo} {sp : FSp} (hms : ts.map AK.mo = ms) {σ : L2.St} {H : Hp} {Q : VK} (h : tE X W (dCall sp ts) σ H Q) : tA X W ts σ H fun vs H1 => lift X.K X.mg ms sp vs H1 Q fun cls d H' => W cls d σ H' := by
  obtain ⟨B, F, env, Qd, R, A, ⟨nd, hro, q⟩, k⟩ := h
  refine A.goA q fun vs ds H1 F1 env1 a A1 q1 => ?_
  have L := a.ly
  have ho := ix_own a.ok
  have hA : ∀ c ∈ (ioIx ts).filterMap (adr σ), B.fr c = none ∧ F1 c = none := fun c hc => by
    obtain ⟨i, hi, e⟩ := filt_mem L hc
    obtain ⟨d, hd⟩ := ho i hi
    obtain ⟨c', z1, z2, z3, _⟩ := L.own i d hd
    rw [e] at z1; cases z1
    exact ⟨z3, z2⟩
  have hroA : ∀ i ∈ roIx ts, ∀ c d, ow env1 i = some d → σ[i]? = some (some (.ref c)) → c ∉ (ioIx ts).filterMap (adr σ) := by
    intro i hi c d hd hc hm
    obtain ⟨j, hj, ej⟩ := filt_mem L hm
    obtain ⟨d', hd'⟩ := ho j hj
    have := L.apart i j c d d' hd hd' hc ej
    subst this
    exact hro i hi hj
  have ain := args_in L hA a.ok hroA
  rw [hms] at ain
  refine ⟨F1, _, ds, _, _, L.sub, ⟨L.tb.tab, L.tb.nt, less_nt, L.tb.fn⟩, filt_nodup L ho nd, fun c hc => (hA c hc).2, ain, q1, fun v d H' F' outs b r q2 => ?_, fun ex cls dd H' F' outs b r q2 => ?_⟩
  · exact k v d H' F' _ ⟨L.called ho nd b, a.le.trans b.le, r⟩ q2
  · exact A.wi cls dd σ H' ⟨F', _, ex, L.called ho nd b, r, q2⟩
theorem j_call {x : Str} {p pos : Pos} {e : Expr} {es : List Expr} {k : Nat} {ms : List Mo} {sp : FSp} {ts : List AK} (c : Cal X.prog X.w X.K X.mg X.base x k ms sp) (g : Gd X W n) (hk : k ≤ n) (hg : Gl X x) (ha : JA X W (e :: es) ts) (hms : ts.map AK.mo = ms := by rfl)
    (nodbg : (x == ("__debug__" : Str)) = false := by decide) (he : starEach (e :: es) X.env = (false, eval e X.env) :: starEach es X.env := by rfl) (hpl : (backTo pos (starEach es X.env)).any (·.1) = false := by rfl) :
    JE X W (.Call (.Name x p) (e :: es) [] pos) (dCall sp ts) := by
  obtain ⟨f, fd, ps, F, hm, hkp, hb⟩ := c.at_
  exact ⟨PE.imp (pe_callG F g.gu (g.room.mono hk) hg hm hkp hb g.tk ha.pa nodbg he hpl) fun σ H Q h => call_go hms h⟩
/-- a def that may be called by its name, and hands a new object over -/
structure CalN (P : Program) (w : World) (K : PySem.W.Frag) (mg : Str → Option Value) (base : Heap) (x : Str) (k : Nat) (ms : List Mo) (sp : FSp) : Prop where
  at_ : ∃ f fd ps, FnG P w K mg base k f fd ps (liftN K mg ms sp) ∧ mg x = some (.ref f) ∧ PySem.W.keepIn K (.ref f) = true ∧ Binds K fd ps []
theorem frN {K : PySem.W.Frag} {B : Base} {σ : L2.St} {H F : Hp} {env : Ev} (L : Ly K B σ H F env) {p : Addr} (h : untb (H p) = none) : B.fr p = none := by
  cases q : B.fr p with
  | none => rfl
  | some o =>
    rw [L.keep p o q, untb_of (fun ps hz => L.tb.ft p ps (by rw [q, hz]))] at h
    cases h
theorem call_goN {ts : List AK} {ms : List Mo} {sp : FSp} (hms : ts.map AK.mo = ms) {σ : L2.St} {H : Hp} {Q : VK} (h : tN X W (dCall sp ts) σ H Q) : tA X W ts σ H fun vs H1 => liftN X.K X.mg ms sp vs H1 Q fun cls d H' => W cls d σ H' := by
  obtain ⟨B, F, env, Qd, R, A, ⟨nd, hro, q⟩, k⟩ := h
  refine A.goA q fun vs ds H1 F1 env1 a A1 q1 => ?_
  have L := a.ly
  have ho := ix_own a.ok
  have hA : ∀ c ∈ (ioIx ts).filterMap (adr σ), B.fr c = none ∧ F1 c = none := fun c hc => by
    obtain ⟨i, hi, e⟩ := filt_mem L hc
    obtain ⟨d, hd⟩ := ho i hi
    obtain ⟨c', z1, z2, z3, _⟩ := L.own i d hd
    rw [e] at z1; cases z1
    exact ⟨z3, z2⟩
  have hroA : ∀ i ∈ roIx ts, ∀ c d, ow env1 i = some d → σ[i]? = some (some (.ref c)) → c ∉ (ioIx ts).filterMap (adr σ) := by
    intro i hi c d hd hc hm
    obtain ⟨j, hj, ej⟩ := filt_mem L hm
    obtain ⟨d', hd'⟩ := ho j hj
    have := L.apart i j c d d' hd hd' hc ej
    subst this
    exact hro i hi hj
  have ain := args_in L hA a.ok hroA
  rw [hms] at ain
  refine ⟨F1, _, ds, _, _, L.sub, ⟨L.tb.tab, L.tb.nt, less_nt, L.tb.fn⟩, filt_nodup L ho nd, fun c hc => (hA c hc).2, ain, q1, fun p d H' F' outs b p1 p2 p3 q2 => ?_, fun ex cls dd H' F' outs b r q2 => ?_⟩
  · refine k (.ref p) d H' F' _ ⟨L.called ho nd b, a.le.trans b.le, p, rfl, p1, frN L p2, p3, fun j d' hj hσ => ?_⟩ q2
    have old : ∃ y, ow env1 j = some y := by
      by_cases hm : j ∈ ioIx ts
      · exact ho j hm
      · rw [ow_putL_ne (fun hz => hm ((List.of_mem_zip (List.mem_map.mp hz).choose_spec.1).1 |> fun z => by
            have e := (List.mem_map.mp hz).choose_spec.2
            rw [← e]; exact z))] at hj
        exact ⟨d', hj⟩
    obtain ⟨y, hy⟩ := old
    obtain ⟨c, z1, _, _, z4⟩ := L.own j y hy
    obtain ⟨o, z5⟩ := z4.ob
    rw [hσ] at z1; cases z1
    cases z4 with
    | lst z6 _ => rw [z6] at p2; cases p2
    | dct z6 _ => rw [z6] at p2; cases p2
  · exact A.wi cls dd σ H' ⟨F', _, ex, L.called ho nd b, r, q2⟩
theorem jn_call {x : Str} {p pos : Pos} {e : Expr} {es : List Expr} {k : Nat} {ms : List Mo} {sp : FSp} {ts : List AK} (c : CalN X.prog X.w X.K X.mg X.base x k ms sp) (g : Gd X W n) (hk : k ≤ n) (hg : Gl X x) (ha : JA X W (e :: es) ts) (hms : ts.map AK.mo = ms := by rfl)
    (nodbg : (x == ("__debug__" : Str)) = false := by decide) (he : starEach (e :: es) X.env = (false, eval e X.env) :: starEach es X.env := by rfl) (hpl : (backTo pos (starEach es X.env)).any (·.1) = false := by rfl) :
    JN X W (.Call (.Name x p) (e :: es) [] pos) (dCall sp ts) := by
  obtain ⟨f, fd, ps, F, hm, hkp, hb⟩ := c.at_
  exact ⟨PE.imp (pe_callG F g.gu (g.room.mono hk) hg hm hkp hb g.tk ha.pa nodbg he hpl) fun σ H Q h => call_goN hms h⟩
end
end BX
/-! D11 -/
namespace BX
open PySem PySem.Spec L2
/-! errors: made, raised, caught, looked at -/

/-! ### making one -/
theorem heap_made {H : Hp} {a dx : Addr} {o1 o2 o3 o4 : HO} (ha : H a = none) (hd : dx ≠ a) : upd (del (upd (upd (upd H a o1) dx o2) a o3) a) dx o4 = upd H dx o4 := by
  funext b
  by_cases h1 : b = dx
  · subst h1; rw [upd_same, upd_same]
  · rw [upd_ne h1, upd_ne h1]
    by_cases h2 : b = a
    · subst h2; rw [del_same, ha]
    · rw [del_ne h2, upd_ne h2, upd_ne h1, upd_ne h2]
/-- __init__(self, f): self.f = f -/
def spKeep (K : PySem.W.Frag) (f : Str) : Sp := fun vs H Q _ => ∃ (a C : Addr) (y : V), vs = [.ref a, y] ∧ OexC K C ∧ PySem.W.findIn K (.ref C) f = some none ∧ H a = some (exo a C none) ∧ ∀ dx, H dx = none → dx ≠ a → Q .non (upd (upd H dx (exd dx [(f, y)])) a (exo a C (some dx)))
section
variable {P : Program} {base : Heap} {w : World} {mg : Str → Option Value} {K : PySem.W.Frag}
theorem keep_ok {f qual : Str} {st : Stmt} {fa : Addr} {fd : FuncData} {p1 p2 p3 p4 : Pos} (Fn : Fun K "__init__" qual st fa fd) (S : FnScope ["self", f] ["self", f] (defScope st)) (hb : defBody st = [.Assign [.Attribute (.Name "self" p1) f p2] (.Name f p3) p4])
    (v0 : Vis (defScope st) "self" := by exact Or.inl rfl) (v1 : Vis (defScope st) f := by exact Or.inl rfl) (hf : (f == ("__debug__" : Str)) = false := by decide) (hg : (f == ("__classdict__" : Str)) = false := by decide) (hs : ∀ env : PySem.Env, swapsWith (.Name f p3) (some (.Attribute (.Name "self" p1) f p2)) p4.line env = pure false := by intro _; rfl) : FnOk P w K mg base (L2.CX P w) 1 fa fd ["self", f] (spKeep K f) := by
  obtain ⟨oc, od, kV, doc, pm, an, cdv, ct, osl, efd, lk, hcd⟩ := Fn.ex
  subst efd
  refine fn_of (k := 0) lk hcd S (fun vs H Q E ⟨a, C, y, e, _⟩ => by rw [e]; rfl) (fun A outer s H vs Q E hr ⟨a, C, y, e, T, hno, ea, q⟩ => ?_)
  subst e
  rw [hb]
  refine ⟨_, pss_one (ps_ost (pe_var (i := 0) rfl v0) (pe_var (i := 1) rfl v1 hf hg) (hs _)), ?_⟩
  exact ⟨y, rfl, .ref a, rfl, a, C, rfl, T, hno, .inl ⟨ea, fun dx h1 h2 => q dx h1 h2⟩⟩
end
/-- an error class of the text, with one told value -/
structure ErrC (K : PySem.W.Frag) (mg : Str → Option Value) (c : Str) (C fI : Addr) : Prop where
  gC : mg c = some (.ref C)
  ox : OexC K C
  no : PySem.W.findIn K (.ref C) "told" = some none
  iC : PySem.W.findIn K (.ref C) "__init__" = some (some (.ref fI))
  tI : PySem.W.typeIn K (.ref fI) = some (.type "function")
  (ga : PySem.W.findIn K (.ref C) "__getattribute__" = some (some (.builtin "BaseException.__getattribute__")))
  (gg : PySem.W.findIn K (.ref C) "__getattr__" = some none)
  (hd : PySem.W.hasDictIn K C = true)
  ic : (PySem.W.clsIn K C).isSome = true
  ac : PySem.W.findIn K (.ref C) "__class__" = some (some (.builtin "object.__class__"))
  sg : PySem.W.specialIn K (.builtin "object.__class__") "__get__" = some (some (.builtin "getset_descriptor.__get__"))
  tk : PySem.W.takesIn K (.builtin "object.__class__") = some true
  mo : PySem.W.mroIn K C (.type "object") = some true
theorem ErrC.xf {K : PySem.W.Frag} {mg : Str → Option Value} {c : Str} {C fI : Addr} (e : ErrC K mg c C fI) : XfC K C := ⟨e.ga, e.gg, e.ox.exC, e.hd⟩
/-- raise C(e) -/
def sRaise (c : Str) (t : DE) : DS := fun D env => t env (fun d env1 => D.rs ⟨c, [("told", d)]⟩ env1) D.rs
section
variable {X : Cx} {W : WX} {B : Base} {σ : L2.St} {H F : Hp} {env : Ev} {R : Ex → Ev → Prop} {n : Nat}
theorem js_raise {c : Str} {C fI : Addr} {fd : FuncData} {e : Expr} {t : DE} {p pos pos' : Pos} (T : ErrC X.K X.mg c C fI) (F1 : FnOk X.prog X.w X.K X.mg X.base (L2.CX X.prog X.w) 1 fI fd ["self", "told"] (spKeep X.K "told")) (hb : Binds X.K fd ["self", "told"] []) (gd : Gd X W n) (hn : 2 ≤ n) (hg : Gl X c) (he : JE X W e t)
    (hdb : (c == ("__debug__" : Str)) = false := by decide) (hs : starEach (e :: []) X.env = (false, eval e X.env) :: starEach [] X.env := by rfl) (hpl : (backTo pos (starEach [] X.env)).any (·.1) = false := by rfl) :
    JS X W (.Raise (some (.Call (.Name c p) [e] [] pos)) none pos') (sRaise c t) := by
  refine ⟨PS.imp (ps_raise gd.calm gd.tk (pmk_oex (CX := L2.CX X.prog X.w) (dvs := []) (ds := []) T.ox T.iC T.tI F1 (gd.room.mono hn) hb .nil (passes_call gd.tk fun _ _ _ _ z => z.elim) hg T.gC (ja_d he ja_nil hs).pa hdb hs hpl)) fun D σ H ⟨B, F, env, d, A, q, k⟩ => ?_⟩
  have q' : dA [.d t] env (fun ds env1 => ∃ y, ds = [y] ∧ d.rs ⟨c, [("told", y)]⟩ env1) d.rs := by
    refine cast ?_ q
    show sRaise c t d env = t env (fun y env1 => ∃ z, [y] = [z] ∧ d.rs ⟨c, [("told", z)]⟩ env1) d.rs
    unfold sRaise
    congr 1
    funext y env1
    exact propext ⟨fun z => ⟨y, rfl, z⟩, fun ⟨z, e, h⟩ => by cases e; exact h⟩
  refine A.goA q' fun vs ds H1 F1 env1 a A1 ⟨y, ey, q1⟩ => ?_
  subst ey
  have ha := a.ok
  cases ha with
  | d r rest =>
  rename_i v vs'
  cases rest
  refine ⟨by show 1 ≤ 1000; decide, fun p hp => ?_⟩
  refine ⟨p, C, v, rfl, T.ox, T.no, upd_same, fun dx hdx hne => ?_⟩
  have h1 : H1 dx = none := by rw [upd_ne hne] at hdx; exact hdx
  refine ⟨rfl, dx, [("told", v)], upd_same, by rw [upd_ne hne, upd_same], h1, ?_⟩
  rw [heap_made hp hne]
  have L := A1.ly.newD (o := .xd [("told", v)]) h1
  exact A1.wi _ _ _ _ ⟨_, _, _, L, ⟨T.gC, dx, rfl, [("told", v)], upd_same, .cons ⟨rfl, r.le (Le.up (A1.ly.sub.free h1))⟩ .nil⟩, q1⟩
end
end BX
/-! D12 -/
namespace BX
open PySem PySem.Spec L2
section
variable {K : PySem.W.Frag} {B : Base} {σ : L2.St} {H F : Hp} {env : Ev}
/-- a slot that owns nothing from now on -/
theorem Ly.setG (L : Ly K B σ H F env) {i : Nat} {s : Sl} {x : Option V} (hv : ∀ d, s = .v d → ∃ y, x = some y ∧ Rp K F y d) (hx : ∀ o, s = .x o → x = some (.ref o.a) ∧ o.G K F)
    (h1 : ∀ d, s ≠ .o d := by intro d z; cases z) (h2 : ∀ d, s ≠ .io d := by intro d z; cases z) (h3 : ∀ d, s ≠ .ro d := by intro d z; cases z) : Ly K B (σ.set i x) H F (env.set i s) := by
  have at_ : ∀ (j : Nat) (t : Sl), (env.set i s)[j]? = some t → (i = j ∧ s = t ∧ (σ.set i x)[j]? = some x) ∨ (i ≠ j ∧ env[j]? = some t ∧ (σ.set i x)[j]? = σ[j]?) := by
    intro j t e
    by_cases hj : i = j
    · subst hj
      by_cases hl : i < env.length
      · rw [List.getElem?_set_self hl] at e; cases e
        exact .inl ⟨rfl, rfl, List.getElem?_set_self (by rw [L.len]; exact hl)⟩
      · rw [List.getElem?_eq_none (by simpa using hl)] at e; cases e
    · rw [List.getElem?_set_ne hj] at e
      exact .inr ⟨hj, e, List.getElem?_set_ne hj⟩
  have ow_ : ∀ (j : Nat) d, ow (env.set i s) j = some d → i ≠ j ∧ ow env j = some d ∧ (σ.set i x)[j]? = σ[j]? := by
    intro j d e
    unfold ow at e
    split at e
    · rename_i q
      rcases at_ j _ q with ⟨_, z, _⟩ | ⟨z1, z2, z3⟩
      · exact absurd z (h1 _)
      · exact ⟨z1, by unfold ow; rw [z2]; exact e, z3⟩
    · rename_i q
      rcases at_ j _ q with ⟨_, z, _⟩ | ⟨z1, z2, z3⟩
      · exact absurd z (h2 _)
      · exact ⟨z1, by unfold ow; rw [z2]; exact e, z3⟩
    · cases e
  exact {
    len := by rw [List.length_set, List.length_set]; exact L.len
    tb := L.tb
    sub := L.sub
    ext := L.ext
    new := L.new
    keep := L.keep
    val := fun j d e => by
      rcases at_ j _ e with ⟨_, z, z2⟩ | ⟨_, z, z2⟩
      · obtain ⟨y, q1, q2⟩ := hv d z
        exact ⟨y, by rw [z2, q1], q2⟩
      · rw [z2]; exact L.val j d z
    rd := fun j d e => by
      rcases at_ j _ e with ⟨_, z, z2⟩ | ⟨_, z, z2⟩
      · exact absurd z (h3 _)
      · rw [z2]; exact L.rd j d z
    rol := L.rol
    xs := fun j o e => by
      rcases at_ j _ e with ⟨_, z, z2⟩ | ⟨_, z, z2⟩
      · obtain ⟨q1, q2⟩ := hx o z
        exact ⟨by rw [z2, q1], q2⟩
      · rw [z2]; exact L.xs j o z
    iof := fun j d e => by
      rcases at_ j _ e with ⟨_, z, z2⟩ | ⟨_, z, z2⟩
      · exact absurd z (h2 _)
      · rw [z2]; exact L.iof j d z
    own := fun j d e => by
      obtain ⟨_, z1, z2⟩ := ow_ j d e
      rw [z2]; exact L.own j d z1
    apart := fun j k a d d' e1 e2 s1 s2 => by
      obtain ⟨_, z1, z2⟩ := ow_ j d e1
      obtain ⟨_, y1, y2⟩ := ow_ k d' e2
      rw [z2] at s1
      rw [y2] at s2
      exact L.apart j k a d d' z1 y1 s1 s2 }
theorem Ly.setE (L : Ly K B σ H F env) (i : Nat) : Ly K B (σ.set i none) H F (env.set i .e) := L.setG (fun d z => by cases z) fun o z => by cases z
theorem Ly.setX (L : Ly K B σ H F env) (i : Nat) {o : XO} (h : o.G K F) : Ly K B (σ.set i (some (.ref o.a))) H F (env.set i (.x o)) := L.setG (fun d z => by cases z) fun o' z => by cases z; exact ⟨rfl, h⟩
end
/-- the base moves up to where the data stands now -/
theorem Ly.rebase {K : PySem.W.Frag} {B : Base} {σ : L2.St} {H F : Hp} {env : Ev} (L : Ly K B σ H F env) : Ly K ⟨F, B.fr, B.ro, B.io⟩ σ H F env :=
  { len := L.len, tb := L.tb, sub := L.sub, ext := Le.refl _, new := fun b o e => .inr e, keep := L.keep, val := L.val, rd := L.rd, rol := L.rol, xs := L.xs, iof := L.iof, own := L.own, apart := L.apart }
theorem Ly.unbase {K : PySem.W.Frag} {B : Base} {σ σ' : L2.St} {H F H' F' : Hp} {env env' : Ev} (L : Ly K B σ H F env) (L' : Ly K ⟨F, B.fr, B.ro, B.io⟩ σ' H' F' env') : Ly K B σ' H' F' env' ∧ Le F F' :=
  ⟨{ len := L'.len, tb := L'.tb, sub := L'.sub, ext := L.ext.trans L'.ext, keep := L'.keep, val := L'.val, rd := L'.rd, rol := L'.rol, xs := L'.xs, iof := L'.iof, own := L'.own, apart := L'.apart
     new := fun b o e => by
      rcases L'.new b o e with z | z
      · exact .inl z
      · exact L.new b o z }, L'.ext⟩
/-! ### try: body / except c as n: suite -/
def sTry (c : Str) (others : List Str) (i : Nat) (tb : DS) (ts : EO → DS) : DS := fun D env => tb { D with rs := fun ex env1 => (ex.cls = c ∧ ∀ a d, ts ⟨a, d, ex⟩ { nx := fun env2 => D.nx (env2.set i .e), rt := D.rt, bk := fun env2 => D.bk (env2.set i .e), ct := fun env2 => D.ct (env2.set i .e), rs := fun _ _ => False, own := D.own } (env1.set i (.x (EO.x ⟨a, d, ex⟩)))) ∨ (ex.cls ∈ others ∧ D.rs ex env1) } env
section
variable {X : Cx} {W : WX} {B : Base} {σ : L2.St} {H F : Hp} {env : Ev} {R : Ex → Ev → Prop} {n : Nat}
theorem tS_cx {Y : Cx} {t : DS} {D : Ends} (h : tS X W t D σ H) (hK : X.K = Y.K := by rfl) (hm : X.mg = Y.mg := by rfl) : tS Y W t D σ H := by
  obtain ⟨B, F, env, d, A, q, k⟩ := h
  refine ⟨B, F, env, d, ⟨hK ▸ A.ly, ?_⟩, q, ⟨?_, ?_, ?_, ?_⟩⟩
  · rw [← hK, ← hm]; exact A.wi
  · rw [← hK]; exact k.nx
  · rw [← hK]; exact k.rt
  · rw [← hK]; exact k.bk
  · rw [← hK]; exact k.ct
/-! ### in the suite -/
/-- e.f -/
def dXf (o : EO) (i : Nat) (f : Str) : DE := fun env Q _ => env[i]? = some (.x o.x) ∧ ∃ d, o.ex.fs.lookup f = some d ∧ Q d env
theorem paired_lookup {K : PySem.W.Frag} {F : Hp} {f : Str} : ∀ {fs : List (Str × V)} {gs : List (Str × PyData)} {d : PyData}, Paired (fun (p : Str × V) (q : Str × PyData) => p.1 = q.1 ∧ Rp K F p.2 q.2) fs gs → gs.lookup f = some d → ∃ v, fs.lookup f = some v ∧ Rp K F v d
  | _, _, _, .nil, h => by cases h
  | (a, x) :: fs, (b, y) :: gs, d, .cons ⟨h1, h2⟩ r, h => by
    have h1 : a = b := h1
    subst h1
    simp only [List.lookup] at h ⊢
    split at h
    · cases h; exact ⟨x, rfl, h2⟩
    · exact paired_lookup r h
/-- isinstance(e, c2) -/
def rXi (K : PySem.W.Frag) (C : Addr) (o : EO) : List V → Hp → VK → Prop := fun xs H Q => ∃ (c : V) (cv : Value) (b : Bool) (fs : List (Str × V)), xs = [.ref o.a, c] ∧ (∀ u, RelV c u → u = cv) ∧ PySem.W.kitOne K (.ref C) cv = some b ∧ H o.d = some (.xd fs) ∧ Q (.bl b) H
def dXi (o : EO) (i : Nat) (b : Bool) : DE := fun env Q _ => env[i]? = some (.x o.x) ∧ Q (.bool b) env
end
end BX
/-! D14 -/
namespace BX
open PySem PySem.Spec L2
/-! ### several names at once: each gets data, or a new object of its own -/
inductive PK where
  | d (t : DE)
  | n (t : DE)
def dX : List PK → Ev → (List Sl → Ev → Prop) → (Ex → Ev → Prop) → Prop
  | [], env, Q, _ => Q [] env
  | .d t :: ts, env, Q, R => t env (fun d env1 => dX ts env1 (fun ss env2 => Q (.v d :: ss) env2) R) R
  | .n t :: ts, env, Q, R => t env (fun d env1 => dX ts env1 (fun ss env2 => Q (.o d :: ss) env2) R) R
/-- what is held, from one base to the next -/
inductive Hd (K : PySem.W.Frag) (F H : Hp) : Base → Base → List V → List Sl → Prop
  | nil {B : Base} : Hd K F H B B [] []
  | d {B B' : Base} {v : V} {vs : List V} {d : PyData} {ss : List Sl} : Rp K F v d → Hd K F H B B' vs ss → Hd K F H B B' (v :: vs) (.v d :: ss)
  | n {B B' : Base} {p : Addr} {o : HO} {vs : List V} {d : PyData} {ss : List Sl} : B.fr p = none → F p = none → Le B.ro B.fr → H p = some o → Ow K F H p d → Hd K F H ⟨B.F, upd B.fr p o, B.ro, B.io⟩ B' vs ss → Hd K F H B B' (.ref p :: vs) (.o d :: ss)
def AfX (X : Cx) (B : Base) (σ : L2.St) (F : Hp) (vs : List V) (ss : List Sl) (H' F' : Hp) (env' : Ev) : Prop := ∃ B', Hd X.K F' H' B B' vs ss ∧ Ly X.K B' σ H' F' env' ∧ Le F F'
def tX (X : Cx) (W : WX) (ts : List PK) : TA := fun σ H Q => ∃ B F env Qd R, At X W B σ H F env R ∧ dX ts env Qd R ∧ ∀ vs ss H' F' env', AfX X B σ F vs ss H' F' env' → Qd ss env' → Q vs H'
structure JX (X : Cx) (W : WX) (es : List Expr) (ts : List PK) : Prop where
  pa : PA X es (tX X W ts)
section
variable {X : Cx} {W : WX} {B : Base} {σ : L2.St} {H F : Hp} {env : Ev} {R : Ex → Ev → Prop} {n : Nat}
theorem jx_nil : JX X W [] [] := ⟨PA.imp pa_nil fun σ H Q ⟨B, F, env, Qd, R, A, q, k⟩ => k [] [] H F env ⟨B, .nil, A.ly, Le.refl _⟩ q⟩
theorem jx_d {e : Expr} {es : List Expr} {t : DE} {ts : List PK} (he : JE X W e t) (hr : JX X W es ts) (hs : starEach (e :: es) X.env = (false, eval e X.env) :: starEach es X.env := by rfl) : JX X W (e :: es) (.d t :: ts) :=
  ⟨PA.imp (pa_cons he.pe hr.pa hs) fun σ H Q ⟨B, F, env, Qd, R, A, q, k⟩ => A.go (t := t) q fun v d H1 F1 env1 a1 A1 q1 => ⟨B, F1, env1, _, R, A1, q1, fun vs ss H2 F2 env2 ⟨B', h1, h2, h3⟩ q2 => k (v :: vs) (.v d :: ss) H2 F2 env2 ⟨B', .d (a1.rp.le h3) h1, h2, a1.le.trans h3⟩ q2⟩⟩
def setσ : L2.St → List Nat → List V → L2.St
  | σ, i :: is, v :: vs => (setσ σ is vs).set i (some v)
  | σ, _, _ => σ
def setS : Ev → List Nat → List Sl → Ev
  | env, i :: is, s :: ss => (setS env is ss).set i s
  | env, _, _ => env
theorem Hd.store {K : PySem.W.Frag} {B B' : Base} {σ : L2.St} {H F : Hp} {env : Ev} {vs : List V} {ss : List Sl} (h : Hd K F H B B' vs ss) : ∀ {is : List Nat}, is.length = vs.length → Ly K B' σ H F env → Ly K B (setσ σ is vs) H F (setS env is ss) := by
  induction h with
  | nil => intro is _ L; cases is <;> exact L
  | d r _ ih =>
    intro is hl L
    cases is with
    | nil => simp at hl
    | cons i is => exact (ih (by simpa using hl) L).setV r
  | n f1 f2 f3 f4 ow _ ih =>
    intro is hl L
    cases is with
    | nil => simp at hl
    | cons i is =>
      have L1 := ih (is := is) (by simpa using hl) L
      refine (L1.unframe f1 f3).setO f2 f1 ow fun j d' e _ z => ?_
      obtain ⟨a, q1, _, q3, _⟩ := L1.own j d' e
      rw [z] at q1
      cases q1
      have q3 : upd _ _ _ _ = none := q3
      rw [upd_same] at q3
      cases q3
theorem Hd.len {K : PySem.W.Frag} {B B' : Base} {H F : Hp} {vs : List V} {ss : List Sl} (h : Hd K F H B B' vs ss) : vs.length = ss.length := by
  induction h with
  | nil => rfl
  | d _ _ ih => exact congrArg (· + 1) ih
  | n _ _ _ _ _ _ ih => exact congrArg (· + 1) ih
def sPar (is : List Nat) (ts : List PK) : DS := fun D env => dX ts env (fun ss env1 => ss.length = is.length ∧ D.nx (setS env1 is ss)) D.rs
theorem js_par {x y : Str} {a b : Expr} {px py pt : Pos} {kt k2 : Nat} {pt2 pos : Pos} {t1 t2 : PK} (i j : Nat) (gd : Gd X W n) (hi : X.N[i]? = some x) (hj : X.N[j]? = some y) (ha : JX X W [a, b] [t1, t2]) (hij : i ≠ j := by decide) (hx : X.env.scope.names.lookup x = some .local := by rfl) (hy : X.env.scope.names.lookup y = some .local := by rfl)
    (hw : swappedStores [.Tuple [.Name x px, .Name y py] kt pt] (.Tuple [a, b] k2 pt2) X.env = pure (some [x, y]) := by rfl) (hs : swapsWithSole [.Tuple [.Name x px, .Name y py] kt pt] (.Tuple [a, b] k2 pt2) pos.line X.env = pure false := by rfl) :
    JS X W (.Assign [.Tuple [.Name x px, .Name y py] kt pt] (.Tuple [a, b] k2 pt2) pos) (sPar [i, j] [t1, t2]) :=
  ⟨PS.imp (ps_par gd.calm gd.nd hi hj hij hx hy ha.pa hw hs) fun D σ H ⟨B, F, env, d, A, q, k⟩ => ⟨B, F, env, _, d.rs, A, q, fun vs ss H' F' env' ⟨B', h1, h2, h3⟩ ⟨hl, q1⟩ => by
    have hvl : vs.length = 2 := by rw [h1.len, hl]; rfl
    have L := h1.store (is := [i, j]) (by rw [hvl]; rfl) h2
    match vs, hvl, L with
    | [v, w], _, L =>
      refine ⟨v, w, rfl, ?_⟩
      have L' : Ly X.K B ((σ.set j (some w)).set i (some v)) H' F' (setS env' [i, j] ss) := L
      rw [List.set_comm _ _ (Ne.symm hij)] at L'
      exact k.nx _ H' F' _ L' h3 q1⟩⟩
theorem js_par3 {x y z : Str} {a b c : Expr} {px py pz pt : Pos} {kt k2 : Nat} {pt2 pos : Pos} {t1 t2 t3 : PK} (i j l : Nat) (gd : Gd X W n) (hi : X.N[i]? = some x) (hj : X.N[j]? = some y) (hl : X.N[l]? = some z) (ha : JX X W [a, b, c] [t1, t2, t3]) (hij : i ≠ j := by decide) (hil : i ≠ l := by decide) (hjl : j ≠ l := by decide)
    (hx : X.env.scope.names.lookup x = some .local := by rfl) (hy : X.env.scope.names.lookup y = some .local := by rfl) (hz : X.env.scope.names.lookup z = some .local := by rfl)
    (hw : swappedStores [.Tuple [.Name x px, .Name y py, .Name z pz] kt pt] (.Tuple [a, b, c] k2 pt2) X.env = pure (some [x, y, z]) := by rfl) (hs : swapsWithSole [.Tuple [.Name x px, .Name y py, .Name z pz] kt pt] (.Tuple [a, b, c] k2 pt2) pos.line X.env = pure false := by rfl) :
    JS X W (.Assign [.Tuple [.Name x px, .Name y py, .Name z pz] kt pt] (.Tuple [a, b, c] k2 pt2) pos) (sPar [i, j, l] [t1, t2, t3]) :=
  ⟨PS.imp (ps_par3 gd.calm gd.nd hi hj hl hij hil hjl hx hy hz ha.pa hw hs) fun D σ H ⟨B, F, env, d, A, q, k⟩ => ⟨B, F, env, _, d.rs, A, q, fun vs ss H' F' env' ⟨B', h1, h2, h3⟩ ⟨hl, q1⟩ => by
    have hvl : vs.length = 3 := by rw [h1.len, hl]; rfl
    have L := h1.store (is := [i, j, l]) (by rw [hvl]; rfl) h2
    match vs, hvl, L with
    | [u, v, w], _, L =>
      refine ⟨u, v, w, rfl, ?_⟩
      have L' : Ly X.K B (((σ.set l (some w)).set j (some v)).set i (some u)) H' F' (setS env' [i, j, l] ss) := L
      rw [List.set_comm _ _ (Ne.symm hij), List.set_comm _ _ (Ne.symm hil), List.set_comm _ _ (Ne.symm hjl)] at L'
      exact k.nx _ H' F' _ L' h3 q1⟩⟩
end
end BX
/-! D13 -/
namespace BX
open PySem PySem.Spec L2
/-! ### set(xs): what the update loop leaves, for whatever walk gives numbers and texts -/
/-- what a set holds that held f, behind the keys of a list -/
def addKs : List Key → (Key → Bool) → Key → Bool
  | [], f => f
  | k :: r, f => addKs r fun x => f x || decide (x = k)
def inKs (ks : List Key) (k : Key) : Bool := ks.any fun x => decide (x = k)
section
variable {P : Program} {w : World} {A : Around} {I S : Addr} {fp wr : List Addr} {G : Array GenState → Array GenState → Prop} {n : Nat} {Pv : Nat → Value → Prop} {St : Nat → Shared → Prop} {R : Result → Shared → Prop}
/-- the set as it is made, empty -/
abbrev set0 (led : Bool) : Obj := { cls := .type "set", dict := none, data := .set #[] 0 (.fresh 0 0 led) }
end
section
variable {P : Program} {w : World} {A : Around} {E : Value → Shared → Prop} {Q : Value → Shared → Prop} {s : Shared} {ks : List Key} {x : Addr}
/-- what is asked of the end: the new set holds the keys, and all that stood ahead stands still -/
def SetEnd (P : Program) (w : World) (s : Shared) (ks : List Key) (Q : Value → Shared → Prop) : Prop :=
  ∀ h' tk c, h'.SetOf (mixKind P w) s.heap.objs.size (inKs ks) c → (∀ b o, s.heap.get? b = some o → h'.get? b = some o) → Q (.ref s.heap.objs.size) { s with heap := h', toks := tk }
end
end BX
/-! D15 -/
namespace BX
open PySem PySem.Spec L2
section
variable {X : Cx} {W : WX} {B : Base} {σ : L2.St} {H F : Hp} {env : Ev} {R : Ex → Ev → Prop} {n : Nat}
/-! ### - e -/
def dNeg (t : DE) : DE := fun env Q R => t env (fun d env1 => ∃ i, d = .int i ∧ Q (.int (-i)) env1) R
theorem j_neg {e : Expr} {t : DE} {pos : Pos} (h : JE X W e t) : JE X W (.UnaryOp .USub e pos) (dNeg t) :=
  ⟨PE.imp (pe_un un_neg h.pe) fun σ H Q ⟨B, F, env, Qd, R, A, q, k⟩ => A.go (t := t) q fun v d H1 F1 env1 a A1 ⟨i, e1, q1⟩ => by
    subst e1
    have r := a.rp
    cases r
    exact ⟨i, rfl, k _ _ H1 F1 env1 ⟨a.ly, a.le, .int _⟩ q1⟩⟩
/-! ### names of the module -/
theorem j_glob {x : Str} {v : V} {u : Value} {d : PyData} {pos : Pos} (hg : Gl X x) (hm : X.mg x = some u) (r : RelV v u) (hr : ∀ F, Rp X.K F v d) (hd : (x == ("__debug__" : Str)) = false := by decide) : JE X W (.Name x pos) (dC d) := j_const (pe_glob hg hm r hd) hr
/-- a table of the module with text keys -/
structure KTab (K : PySem.W.Frag) (w : World) (d : Addr) (tbl : List (Str × PyData)) : Prop where
  kd : ∃ es n, KDict K w d es n
  get : ∀ z, ∃ r, PySem.W.nsIn K d z = some r ∧ match tbl.lookup z with
    | none => r = none
    | some y => ∃ u v, r = some u ∧ RelV v u ∧ ∀ F, Rp K F v y
def inTab (tbl : List (Str × PyData)) (neg : Bool) (t : DE) : DE := fun env Q R => t env (fun x env1 => ∃ z, x = .str z ∧ Q (.bool (if neg = true then !(tbl.lookup z).isSome else (tbl.lookup z).isSome)) env1) R
def ixTab (tbl : List (Str × PyData)) (t : DE) : DE := fun env Q R => t env (fun x env1 => ∃ z y, x = .str z ∧ tbl.lookup z = some y ∧ Q y env1) R
/-! ### texts -/
def leS : PyData → PyData → (PyData → Prop) → Prop
  | .str i, .str j, k => k (.bool (!decide (j.cps.toList < i.cps.toList)))
  | _, _, _ => False
theorem o_leS : OpS X (compareOp .LtE) leS := ⟨_, op_le_str, fun W B σ H F env R x y dx dy k Q A rx ry q z => by
  unfold leS at q
  split at q
  · cases rx
    cases ry
    exact ⟨_, _, rfl, rfl, z _ _ H F (A.af (.bl _)) q⟩
  · exact q.elim⟩
def strsOf : List PyData → Option (List Str)
  | [] => some []
  | .str x :: r => (strsOf r).map (x :: ·)
  | _ => none
/-- sep.join(xs) -/
def dJoin (sep : Str) (t : DE) : DE := fun env Q R => t env (fun d env1 => ∃ ds xs, itemsD d = some ds ∧ strsOf ds = some xs ∧ (xs.map (·.length)).sum + xs.length * sep.length ≤ 16777216 ∧ Q (.str (Txt.join sep xs)) env1) R
/-! ### {} -/
def dD0 : DE := fun env Q _ => Q (.dict []) env
/-! ### list(a text) -/
def listSD : List PyData → (PyData → Prop) → Prop
  | [.str x], k => x.cps.size ≤ sizeLine ∧ k (.list (signs x))
  | _, _ => False
/-! ### repr -/
def reprD : List PyData → (PyData → Prop) → Prop
  | [d], k => (d.canLay0 = true ∧ d.depth ≤ 64 ∧ PyData.showable d = true ∧ d.shown.length ≤ sizeLine) ∧ k (.str d.shown)
  | _, _ => False
end
end BX
/-! D16 -/
namespace BX
open PySem PySem.Spec L2
/-! ### sets of numbers and texts: made of a list or tuple, asked -/
def keysOf : List PyData → Option (List Key)
  | [] => some []
  | .str x :: r => (keysOf r).map (Sum.inr x :: ·)
  | .int i :: r => (keysOf r).map (Sum.inl i :: ·)
  | _ => none
def setX (P : Program) (w : World) (a : Addr) (ks : List Key) : XO := ⟨a, fun _ F => ∃ c, F a = some (SetK P w a (inKs ks) c), fun l ⟨c, h⟩ => ⟨c, l _ _ h⟩⟩
section
variable {X : Cx} {W : WX} {B : Base} {σ : L2.St} {H F : Hp} {env : Ev} {R : Ex → Ev → Prop} {n : Nat}
/-- x = set(e) -/
def sSetK (P : Program) (w : World) (i : Nat) (t : DE) : DS := fun D env => t env (fun d env1 => ∃ ds ks, itemsD d = some ds ∧ keysOf ds = some ks ∧ ks.length + 1 < scanBound ∧ ∀ a, D.nx (env1.set i (.x (setX P w a ks)))) D.rs
/-- e in known -/
def dInS (P : Program) (w : World) (neg : Bool) (i : Nat) (t : DE) : DE := fun env Q R => t env (fun x env1 => ∃ k a ks, x = keyD k ∧ env1[i]? = some (.x (setX P w a ks)) ∧ Q (.bool (if neg = true then !inKs ks k else inKs ks k)) env1) R
end
end BX
/-! D17 -/
namespace BX
open PySem PySem.Spec L2
/-- a name of the module that stands for data -/
structure GlD (K : PySem.W.Frag) (mg : Str → Option Value) (x : Str) (d : PyData) : Prop where
  ex : ∃ v u, mg x = some u ∧ RelV v u ∧ ∀ F, Rp K F v d
structure IniOk (P : Program) (w : World) (K : PySem.W.Frag) (mg : Str → Option Value) (base : Heap) (fI : Addr) (f : Str) : Prop where
  ex : ∃ fd, FnOk P w K mg base (L2.CX P w) 1 fI fd ["self", f] (spKeep K f) ∧ Binds K fd ["self", f] []
theorem Gd.u66 {X : Cx} {W : WX} {n : Nat} (g : Gd X W n) : X.A.units + 66 < cLine := by have := g.room.un; omega
section
variable {X : Cx} {W : WX} {B : Base} {σ : L2.St} {H F : Hp} {env : Ev} {R : Ex → Ev → Prop} {n : Nat}
theorem j_globD {x : Str} {d : PyData} {pos : Pos} (h : GlD X.K X.mg x d) (hg : Gl X x) (hd : (x == ("__debug__" : Str)) = false := by decide) : JE X W (.Name x pos) (dC d) := by
  obtain ⟨v, u, h1, h2, h3⟩ := h
  exact j_glob hg h1 h2 h3 hd
theorem js_raiseI {c : Str} {C fI : Addr} {e : Expr} {t : DE} {p pos pos' : Pos} (T : ErrC X.K X.mg c C fI) (F1 : IniOk X.prog X.w X.K X.mg X.base fI "told") (gd : Gd X W n) (hn : 2 ≤ n) (hg : Gl X c) (he : JE X W e t)
    (hdb : (c == ("__debug__" : Str)) = false := by decide) (hs : starEach (e :: []) X.env = (false, eval e X.env) :: starEach [] X.env := by rfl) (hpl : (backTo pos (starEach [] X.env)).any (·.1) = false := by rfl) :
    JS X W (.Raise (some (.Call (.Name c p) [e] [] pos)) none pos') (sRaise c t) := by
  obtain ⟨fd, h1, h2⟩ := F1
  exact js_raise T h1 h2 gd hn hg he hdb hs hpl
/-- f(a new object), lent to f, and not wanted back -/
def dCall1 (sp : FSp) (t : DE) : DE := fun env Q R => t env (fun d env1 => sp [d] (fun r _ => Q r env1) fun ex _ => R ex env1) R
/-! ### comparisons as tests -/
def dTst (t : DE) : DT := fun env Q R => t env (fun d env1 => ∃ b, d = .bool b ∧ Q b env1) R
theorem j_cmpT {a b : Expr} {ta tb : DE} {pos : Pos} {op : CmpOp} {f : PyData → PyData → (PyData → Prop) → Prop} (o : OpS X (compareOp op) f) (ha : JE X W a ta) (hb : JE X W b tb) (hm : behindInMarks op b = false := by rfl) : JT X W (.Compare a [op] [b] pos) (dTst (dBin f ta tb)) := by
  obtain ⟨r, h1, h2⟩ := o.go
  refine ⟨PT.imp (pt_cmpR h1 ha.pe hb.pe hm) fun σ H Q ⟨B, F, env, Qd, R, A, q, k⟩ => ?_⟩
  show tOp r (tE X W ta) (tE X W tb) σ H fun x H' => ∃ k, x = .bl k ∧ Q k H'
  refine bin_go h2 σ H _ ⟨B, F, env, _, R, A, q, fun v d H1 F1 env1 a1 ⟨b, e, q1⟩ => ?_⟩
  subst e
  have r1 := a1.rp
  cases r1
  exact ⟨b, rfl, k b H1 F1 env1 a1.ly a1.le q1⟩
theorem j_chainT {a b c : Expr} {ta tb tc : DE} {pos : Pos} {op op' : CmpOp} {f f' : PyData → PyData → (PyData → Prop) → Prop} (o : OpS X (compareOp op) f) (o' : OpS X (compareOp op') f') (ha : JE X W a ta) (hb : JE X W b tb) (hc : JE X W c tc)
    (hm : lastMarks [op, op'] [b, c] = false := by rfl) : JT X W (.Compare a [op, op'] [b, c] pos) (dTst (dChain f f' ta tb tc)) := by
  obtain ⟨r, h1, h2⟩ := o.go
  obtain ⟨r', h1', h2'⟩ := o'.go
  refine ⟨PT.imp (pt_chain h1 h1' ha.pe hb.pe hc.pe hm) fun σ H Q ⟨B, F, env, Qd, R, A, q, k⟩ => ?_⟩
  have q : dChain f f' ta tb tc env (fun d env1 => ∃ b, d = .bool b ∧ Qd b env1) R := q
  refine A.go (t := ta) q fun v1 d1 H1 F1 env1 a1 A1 q1 => A1.go (t := tb) q1 fun v2 d2 H2 F2 env2 a2 A2 q2 => ?_
  refine h2 W B σ H2 F2 env2 R v1 v2 d1 d2 _ _ A2 (a1.rp.le a2.le) a2.rp q2 fun v d H3 F3 a3 q3 => ?_
  obtain ⟨b, e, q3⟩ := q3
  subst e
  have r3 := a3.rp
  cases r3
  refine ⟨b, rfl, ?_⟩
  have A3 : At X W B σ H3 F3 env2 R := ⟨a3.ly, A2.wi⟩
  have le3 := (a1.le.trans a2.le).trans a3.le
  cases b with
  | true =>
    refine iteT (A3.go (t := tc) ((if_pos rfl).mp q3) fun v4 d4 H4 F4 env4 a4 A4 q4 => ?_)
    refine h2' W B σ H4 F4 env4 R v2 v4 d2 d4 _ _ A4 (a2.rp.le (a3.le.trans a4.le)) a4.rp q4 fun v5 d5 H5 F5 a5 q5 => ?_
    obtain ⟨b5, e5, q5⟩ := q5
    subst e5
    have r5 := a5.rp
    cases r5
    exact ⟨b5, rfl, k _ H5 F5 env4 a5.ly ((le3.trans a4.le).trans a5.le) q5⟩
  | false =>
    obtain ⟨b5, e5, q5⟩ := (if_neg Bool.false_ne_true).mp q3
    cases e5
    exact iteF ⟨false, rfl, k _ H3 F3 env2 a3.ly le3 q5⟩
end
end BX
/-! D18 -/
namespace BX
open PySem PySem.Spec L2
section
variable {X : Cx} {W : WX} {B : Base} {σ : L2.St} {H F : Hp} {env : Ev} {R : Ex → Ev → Prop} {n : Nat} {tg : Expr}
/-! ### a slice, a tuple, a walk of a list in a slot that is not data -/
def dSlP (i : Nat) (tl th : DO) : DE := fun env Q R => (pk env i).isSome = true ∧ tl env (fun lo env2 => th env2 (fun hi env3 => ∃ xs, pk env3 i = some (.list xs) ∧ Q (.list (cutD xs lo hi)) env3) R) R
/-- what a list in such a slot is -/
theorem Ly.pkL {K : PySem.W.Frag} (L : Ly K B σ H F env) {i : Nat} {ds : List PyData} {v : V} (h : pk env i = some (.list ds)) (hv : σ[i]? = some (some v)) : ∃ a xs, v = .ref a ∧ SqL K H a xs ∧ RpAll K F xs ds := by
  rcases L.pkR h hv with r | ⟨a, xs, es, e1, e2, s, r⟩ | ⟨a, kvs, ks, _, e2, _⟩
  · cases r with
    | lst s r => exact ⟨_, _, rfl, SqL.of (L.sub _ _ s), r⟩
  · cases e2
    exact ⟨a, xs, e1, s, r⟩
  · cases e2
theorem j_slP {e : Expr} {elo ehi : Option Expr} (i : Nat) {tl th : DO} {pos p2 : Pos} (he : PE X e (tVar i)) (hl : JO X W elo tl) (hh : JO X W ehi th) : JE X W (.Subscript e (.Slice elo ehi none p2) pos) (dSlP i tl th) := by
  refine ⟨PE.imp (pe_slice sl_list he hl.po hh.po) fun σ H Q ⟨B, F, env, Qd, R, A, ⟨h0, q⟩, k⟩ => ?_⟩
  obtain ⟨d0, h0⟩ := Option.isSome_iff_exists.mp h0
  obtain ⟨v, hv⟩ := A.ly.pkV h0
  refine ⟨v, hv, A.goO (t := tl) q fun lo H2 F2 env2 l2 A2 q2 => A2.goO (t := th) q2 fun hi H3 F3 env3 l3 A3 ⟨xs, hx, q3⟩ => ?_⟩
  obtain ⟨a, vs, rfl, s, r⟩ := A3.ly.pkL hx hv
  refine ⟨a, vs, rfl, s, fun p hp => ?_⟩
  obtain ⟨F', _, af⟩ := (A3.laid hp (.lst upd_same (r.cut lo hi))).af
  exact k _ _ _ _ _ ⟨af.ly, (l2.trans l3).trans af.le, af.rp⟩ q3
def dTupP (i : Nat) : DE := fun env Q _ => ∃ xs, pk env i = some (.list xs) ∧ Q (.tuple xs) env
theorem j_tupP {x : Str} {e : Expr} (i : Nat) {p pos : Pos} (hg : Gl X x) (hm : X.mg x = none) (hv : bootBuiltins x = some (.type "tuple")) (he : PE X e (tVar i)) (hn : x ≠ Str.ofString "__name__" := by decide) (hd : (x == Str.ofString "__debug__") = false := by decide)
    (hs : starEach [e] X.env = (false, eval e X.env) :: starEach [] X.env := by rfl) (hp : ((backTo pos (starEach [] X.env)).any fun x => x.1) = false := by rfl) : JE X W (.Call (.Name x p) [e] [] pos) (dTupP i) :=
  ⟨PE.imp (pe_callTy call_tupleZ hg hm hv (pa_cons he pa_nil hs) hn hd hs hp) fun σ H Q ⟨B, F, env, Qd, R, A, ⟨xs, hx, q⟩, k⟩ => by
    obtain ⟨v, hv⟩ := A.ly.pkV hx
    obtain ⟨a, vs, rfl, s, r⟩ := A.ly.pkL hx hv
    refine ⟨_, hv, a, vs, rfl, .inl ⟨s, fun l ob hl ho => ?_⟩⟩
    have af := A.laidT hl ho r
    exact k _ _ _ _ _ ⟨af.ly, af.le, af.rp⟩ q⟩
def iRo (i : Nat) : DI := fun env Q _ => ∃ es, env[i]? = some (.ro es) ∧ Q es env
theorem ji_ro {e : Expr} (i : Nat) (he : PE X e (tVar i)) : JI X W tg e (iRo i) :=
  ⟨PI.imp (pi_seq he) fun σ H Q ⟨B, F, env, Qd, R, A, ⟨es, hx, q⟩, k⟩ => by
    obtain ⟨a, xs, h1, h2, h3⟩ := A.ly.rd i _ hx
    have stay : ∀ {H' : Hp}, Le B.fr H' → SqL X.K H' a xs := fun l => (A.ly.rol.trans l).sqL h2
    refine ⟨_, h1, a, rfl, .inl ⟨⟨xs, stay A.ly.keep⟩, k es _ H F env A.ly (Le.refl _) ⟨fun H' _ l => ⟨xs, stay l, by rw [h3.length]; exact Nat.le_refl _⟩, fun j H' hj _ l => ⟨xs, xs[j]'(by rw [h3.length]; exact hj), stay l, List.getElem?_eq_getElem _⟩, fun j d H1 x H2 hd _ l ⟨e1, hy⟩ => ?_⟩ q⟩⟩
    obtain ⟨v, g1, g2⟩ := h3.get hd
    have z := hy xs (stay l)
    rw [g1] at z
    cases z
    exact .inl ⟨e1, g2⟩⟩
/-! ### a list unpacked -/
def gLs (n : Nat) (gs : DGs) : DG := fun d env Q => ∃ ds, d = .list ds ∧ ds.length = n ∧ gs ds env Q
theorem jg_lst {es : List Expr} {k : Nat} {gs : DGs} {pos : Pos} {m : Nat} (hc : X.calm = true) (h : JGs X W es gs) (hn : (assignEach es X.env).length = m := by rfl) (hst : (assignEach es X.env).findIdx? (·.1) = none := by rfl) : JG X W (.Tuple es k pos) (gLs m gs) :=
  ⟨PG.imp (pg_unl hc h.pg hn hst) fun v σ H Q ⟨B, F, env, d, R, Qe, A, r, ⟨ds, e, hl, q⟩, k⟩ => by
    subst e
    cases r with
    | lst s r => exact ⟨_, _, rfl, SqL.of (A.ly.sub _ _ s), by rw [r.length]; exact hl, B, F, env, ds, R, Qe, A, r, q, k⟩⟩
/-! ### x = y = e -/
def sSet2 (i j : Nat) (t : DE) : DS := fun D env => t env (fun d env1 => D.nx ((env1.set i (.v d)).set j (.v d))) D.rs
theorem js_set2 {t1 t2 e : Expr} {t : DE} {pos : Pos} (i j : Nat) (he : JE X W e t) (h1 : PG X t1 (gName i)) (h2 : PG X t2 (gName j)) (ha : (assignEach [t1, t2] X.env).map (·.2) = [assign t1 X.env, assign t2 X.env] := by rfl) (hw : swappedStores [t1, t2] e X.env = pure none := by rfl) :
    JS X W (.Assign [t1, t2] e pos) (sSet2 i j t) :=
  ⟨PS.imp (ps_asg2 he.pe h1 h2 ha hw) fun D σ H ⟨B, F, env, d, A, q, k⟩ => A.go (t := t) q fun v x H1 F1 env1 a A1 q1 => k.nx _ H1 F1 _ ((a.ly.setV a.rp).setV a.rp) a.le q1⟩
/-! ### min of a list of numbers -/
def intsOf : List PyData → Option (List Int)
  | [] => some []
  | .int i :: r => (intsOf r).map (i :: ·)
  | _ => none
theorem ints_of {K : PySem.W.Frag} {F : Hp} : ∀ {ds : List PyData} {vs : List V} {ns : List Int}, RpAll K F vs ds → intsOf ds = some ns → vs = ns.map V.int
  | [], _, _, .nil, h => by cases h; rfl
  | d :: ds, _, ns, .cons a b, h => by
    cases d with
    | int i =>
      cases a
      have h : (intsOf ds).map (i :: ·) = some ns := h
      cases e : intsOf ds with
      | none => (rw [e] at h; cases h)
      | some r => rw [e] at h; cases h; rw [ints_of b e]; rfl
    | _ => cases h
def minLD : List PyData → (PyData → Prop) → Prop
  | [.list xs], k => ∃ ns, intsOf xs = some ns ∧ 0 < ns.length ∧ ∀ m, m ∈ ns → (∀ y ∈ ns, m ≤ y) → k (.int m)
  | _, _ => False
theorem c_minL (hc : X.calm = true) : CallS X (.builtin "min") minLD := by
  refine ⟨_, cr_min hc, fun W B σ H F env R vs ds k Q A r q z => ?_⟩
  unfold minLD at q
  split at q
  · obtain ⟨ns, e, hl, q⟩ := q
    match r with
    | .cons rv .nil =>
      cases rv with
      | lst s r =>
        have := ints_of r e
        subst this
        exact ⟨_, ns, rfl, SqL.of (A.ly.sub _ _ s), hl, fun m h1 h2 => z _ _ H F (A.af (.int _)) (q m h1 h2)⟩
  · exact q.elim
/-! ### [x] * n as a new list -/
def dMulN (ta tb : DE) : DE := fun env Q R => ta env (fun x env1 => tb env1 (fun y env2 => ∃ xs m, x = .list xs ∧ y = .int m ∧ (-(2 ^ 63) ≤ m ∧ m < 2 ^ 63 ∧ xs.length * m.toNat ≤ sizeLine) ∧ Q (.list (List.replicate m.toNat xs).flatten) env2) R) R
theorem jn_mul {a b : Expr} {ta tb : DE} {pos : Pos} (ha : JE X W a ta) (hb : JE X W b tb) : JN X W (.BinOp a .Mult b pos) (dMulN ta tb) :=
  ⟨PE.imp (pe_op op_rep ha.pe hb.pe) fun σ H Q ⟨B, F, env, Qd, R, A, q, k⟩ => A.go (t := ta) q fun v1 d1 H1 F1 env1 a1 A1 q1 => A1.go (t := tb) q1 fun v2 d2 H2 F2 env2 a2 A2 ⟨xs, m, e1, e2, ⟨c1, c2, c3⟩, q2⟩ => by
    subst e1 e2
    have r1 := a1.rp.le a2.le
    have r2 := a2.rp
    cases r1 with
    | lst s r =>
      cases r2
      refine ⟨_, m, _, rfl, rfl, A2.ly.sub _ _ s, c1, c2, by rw [r.length]; exact c3, fun p hp => ?_⟩
      have z := A2.laid hp (.lst upd_same (r.flat m.toNat))
      exact k _ _ _ _ _ ⟨z.ly, (a1.le.trans a2.le).trans z.le, z.ow⟩ q2⟩
end
end BX
/-! D19 -/
namespace BX
open PySem PySem.Spec L2 PyProof.Rows
/-! ### tuple * n, for every n: once, or nothing to repeat, is the tuple itself; never is a new empty one -/
theorem mul_same (l : Addr) (us : Array Value) (n : Nat) (dd : Option Addr) (sl : Array (Option Value)) (x : Int) (u : Tok) (c0 : (decide (x < -(2 ^ 63)) || decide (x ≥ 2 ^ 63)) = false) (c1 : (us.isEmpty || x == 1) = true) :
    Meets (Builtin.«tuple.__mul__» ⟨[.ref l, .int x u], []⟩) (fun _ R s => s.heap.get? l = some { cls := .type "tuple", dict := dd, data := .seq us n, slots := sl } ∧ R (.ok (.ret (.ref l))) s) := by
  refine .of_wp fun prog w A R s ⟨hl, h⟩ => ?_
  rcases s with ⟨hp, g, d, tk, os⟩
  have f1 := AutoSeq1.idx_int
  (wp_walk using wpAny_loadPart' hl)
  simp only [c0, Bool.false_eq_true, if_false]
  (wp_walk using wpAny_loadPart' hl)
  simp only [c1, if_true]
  (wp_walk using wpAny_loadPart' hl)
  exact ⟨_, rfl, h⟩
theorem mul_none (l : Addr) (us : Array Value) (n : Nat) (dd : Option Addr) (sl : Array (Option Value)) (x : Int) (u : Tok) (c0 : (decide (x < -(2 ^ 63)) || decide (x ≥ 2 ^ 63)) = false) (c1 : (us.isEmpty || x == 1) = false) (c2 : (decide (x ≤ 0) || us.isEmpty) = true) :
    Meets (Builtin.«tuple.__mul__» ⟨[.ref l, .int x u], []⟩) (fun _ R s => s.heap.get? l = some { cls := .type "tuple", dict := dd, data := .seq us n, slots := sl } ∧
      R (.ok (.ret (.ref s.heap.objs.size))) { s with heap := s.heap.push { cls := .type "tuple", data := .seq #[] } }) := by
  refine .of_wp fun prog w A R s ⟨hl, h⟩ => ?_
  rcases s with ⟨hp, g, d, tk, os⟩
  have f1 := AutoSeq1.idx_int
  (wp_walk using wpAny_loadPart' hl)
  simp only [c0, Bool.false_eq_true, if_false]
  (wp_walk using wpAny_loadPart' hl)
  exact ⟨_, rfl, h⟩
def rMulE (K : PySem.W.Frag) : R2 := fun x y H Q => ∃ l k xs, x = .ref l ∧ y = .int k ∧ SqT K H l xs ∧ -1000 ≤ k ∧ (k ≤ 1000 ∧ (k ≤ 1 ∨ xs = [])) ∧ ((xs = [] ∨ k = 1) → Q x H) ∧ (xs ≠ [] → k ≤ 0 → NewT H Q [])
section
variable {X : Cx}
theorem op_mulE : OpR X (binaryOp .Mult) (rMulE X.K) := by
  (intro pins s σ H x y v u Q I rx ry h)
  obtain ⟨l, k, xs, rfl, rfl, sq, h1, ⟨h2, h9⟩, qs, qn⟩ := h
  cases rx
  obtain ⟨t, rfl⟩ := ry
  obtain ⟨its, r, ⟨⟨cls, dd, data, sl⟩, ho, hc, n, hd⟩, _⟩ := I.tuple sq
  simp only at hc hd
  subst hc hd
  have len := r.length
  have c0 : (decide (k < -(2 ^ 63)) || decide (k ≥ 2 ^ 63)) = false := Bool.or_eq_false_iff.mpr ⟨decide_eq_false (by omega), decide_eq_false (by omega)⟩
  have road : ∀ {E : Value → Shared → Prop} {Q : Value → Shared → Prop}, wpAny (model X.prog X.w) X.A (call (.builtin "tuple.__mul__") [.ref l, .int k t]) Q E s → wpAny (model X.prog X.w) X.A (binaryOp .Mult (.ref l) (.int k t)) Q E s := fun go =>
    wpAny_binaryOp_repeat_ref (T := "tuple") (U := "int") (by decide) ⟨_, ho, rfl⟩ (fun s' => typeIs_int s' k t) noFill_tuple_mul F.fills_int_mul F.slot_int_rmul repeat_tuple F.slot_int_index.lookup
      (call_meets F.slot_int_rmul (typeIs_int s k t) F.entry_int_rmul (F.args_int_rmul_2 _ _) (int_rmul_tuple k t l its.toArray n dd sl) ⟨ho, rfl, ⟨_, ho, rfl⟩, go⟩)
  cases c1 : (its.toArray.isEmpty || k == 1) with
  | true =>
    refine road (call_meets F.slot_tuple_mul ⟨_, ho, rfl⟩ F.entry_tuple_mul (F.args_tuple_mul_2 _ _) (mul_same l its.toArray n dd sl k t c0 c1) ⟨ho, ?_⟩)
    refine ⟨.ref l, H, I, rfl, qs ?_⟩
    rcases Bool.or_eq_true_iff.mp c1 with e | e
    · left
      cases its with
      | nil => exact List.eq_nil_of_length_eq_zero len
      | cons a b => cases e
    · exact .inr (by simpa using e)
  | false =>
    obtain ⟨e1, e2⟩ := Bool.or_eq_false_iff.mp c1
    have hx : xs ≠ [] := fun z => by
      subst z
      have z : its = [] := List.eq_nil_of_length_eq_zero len.symm
      subst z
      cases e1
    have hk : k ≤ 0 := by
      have : ¬ k = 1 := by simpa using e2
      have := h9.resolve_right hx
      omega
    have c2 : (decide (k ≤ 0) || its.toArray.isEmpty) = true := by rw [decide_eq_true hk, Bool.true_or]
    refine road (call_meets F.slot_tuple_mul ⟨_, ho, rfl⟩ F.entry_tuple_mul (F.args_tuple_mul_2 _ _) (mul_none l its.toArray n dd sl k t c0 c1 c2) ⟨ho, ?_⟩)
    exact pushZ (us := []) I (by decide) .nil (qn hx hk)
def mulTD : PyData → PyData → (PyData → Prop) → Prop
  | .tuple xs, .int n, k => (-1000 ≤ n ∧ n ≤ 1000 ∧ xs.length ≤ 1000) ∧ k (.tuple (List.replicate n.toNat xs).flatten)
  | _, _, _ => False
theorem o_mulT : OpS X (binaryOp .Mult) mulTD := by
  have small : OpS X (binaryOp .Mult) (fun x y k => ∃ xs n, x = .tuple xs ∧ y = .int n ∧ -1000 ≤ n ∧ (n ≤ 1000 ∧ (n ≤ 1 ∨ xs = [])) ∧ k (.tuple (List.replicate n.toNat xs).flatten)) := by
    refine ⟨_, op_mulE, fun W B σ H F env R x y dx dy k Q A rx ry q z => ?_⟩
    obtain ⟨xs, n, rfl, rfl, h1, h2, q⟩ := q
    cases ry
    have rx0 := rx
    cases rx with
    | tup s r =>
      refine ⟨_, n, _, rfl, rfl, A.ly.sub.sqT s, h1, ⟨h2.1, h2.2.imp id fun e => by subst e; cases r; rfl⟩, fun e => ?_, fun e h3 p ob hp ho => ?_⟩
      · have e2 : (List.replicate n.toNat xs).flatten = xs := by
          rcases e with e | e
          · subst e
            cases r
            generalize n.toNat = m
            induction m with
            | zero => rfl
            | succ m ih => rw [List.replicate_succ, List.flatten_cons, ih]; rfl
          · subst e
            simp
        rw [e2] at q
        exact z _ _ _ _ ⟨A.ly, .refl _, rx0⟩ q
      · have e2 : n.toNat = 0 := by omega
        rw [e2] at q
        exact z _ _ _ _ (A.laidT hp ho .nil) q
  have great : OpS X (binaryOp .Mult) (fun x y k => ∃ xs n, x = .tuple xs ∧ y = .int n ∧ xs ≠ [] ∧ 2 ≤ n ∧ n ≤ 1000 ∧ xs.length ≤ 1000 ∧ k (.tuple (List.replicate n.toNat xs).flatten)) := by
    refine ⟨_, op_mulZ, fun W B σ H F env R x y dx dy k Q A rx ry q z => ?_⟩
    obtain ⟨xs, n, rfl, rfl, h1, h2, h3, h4, q⟩ := q
    cases ry
    cases rx with
    | tup s r =>
      refine ⟨_, n, _, rfl, rfl, A.ly.sub.sqT s, fun e => h1 ?_, ⟨h2, by omega, by rw [r.length]; exact Nat.le_trans (Nat.mul_le_mul (show n.toNat ≤ 1000 by omega) h4) (by decide)⟩, fun p ob hp ho => z _ _ _ _ (A.laidT hp ho (r.flat n.toNat)) q⟩
      rw [e] at r
      cases r
      rfl
  refine (small.or (h := fun x y k => ∃ xs n, x = .tuple xs ∧ y = .int n ∧ (-1000 ≤ n ∧ n ≤ 1000 ∧ xs.length ≤ 1000) ∧ k (.tuple (List.replicate n.toNat xs).flatten)) great fun x y k ⟨xs, n, e1, e2, ⟨h1, h2, h3⟩, q⟩ => ?_).imp fun x y k h => ?_
  · cases xs with
    | nil => exact .inl ⟨[], n, e1, e2, h1, ⟨h2, .inr rfl⟩, q⟩
    | cons a b =>
      rcases Int.lt_or_le n 2 with h | h
      · exact .inl ⟨_, n, e1, e2, h1, ⟨h2, .inl (by omega)⟩, q⟩
      · exact .inr ⟨_, n, e1, e2, (by intro z; cases z), h, h2, h3, q⟩
  · unfold mulTD at h
    split at h
    · exact ⟨_, _, rfl, rfl, h⟩
    · exact h.elim
end
end BX
/-! DH -/
/-! the end: what the top has left of the module, and the law's own call -/
namespace BX
open PySem PySem.Spec L2
/-- a def of the module, as the top has left it -/
structure DefAt (K : PySem.W.Frag) (mg : Str → Option Value) (x : Str) (st : Stmt) (ps : List Str) (f : Addr) (fd : FuncData) : Prop where
  fn : Fun K x x st f fd
  gm : mg x = some (.ref f)
  bq : ∀ us : List Value, us.length = ps.length → bindArgs fd ⟨us, []⟩ = pure (ps.zip us)
  ns : PySem.W.nsIn K mainGlobals x = some (some (.ref f))
section
variable {P : Program} {w : World} {K : PySem.W.Frag} {mg : Str → Option Value} {base : Heap} {x : Str} {st : Stmt} {f : Addr} {fd : FuncData} {N ps : List Str} {k : Nat} {ms : List Mo} {sp : FSp} {body : DS}
/-- such a def may be called, by its body's data -/
theorem cal_of (D : DefAt K mg x st ps f fd) (S : FnScope N ps (defScope st)) (hms : ms.length = ps.length) (hb : ∀ (cdv : Value) (A : Around) (outer : List PySem.Env) (s : Shared) (H : Hp) (E : XK), Gd (cxB P w K mg base N x st f cdv A outer s H E) (wB E) k → JSs (cxB P w K mg base N x st f cdv A outer s H E) (wB E) (defBody st) body)
    (hsp : ∀ ds Qd Rd, sp ds Qd Rd → body { nx := fun env => ∃ outs, outE 0 ms env = some outs ∧ Qd .none outs, rt := fun d env => ∃ outs, outE 0 ms env = some outs ∧ Qd d outs, rs := fun ex env => ∃ outs, outE 0 ms env = some outs ∧ Rd ex outs } (startE N.length ms ds)) : Cal P w K mg base x (k + 1) ms sp :=
  ⟨f, fd, ps, def_ok D.fn S hms hb hsp, D.gm, D.fn.kp, .all D.bq⟩
theorem calN_of (D : DefAt K mg x st ps f fd) (S : FnScope N ps (defScope st)) (hms : ms.length = ps.length) (hb : ∀ (cdv : Value) (A : Around) (outer : List PySem.Env) (s : Shared) (H : Hp) (E : XK), Gd (cxB P w K mg base N x st f cdv A outer s H E) (wB E) k → JSs (cxB P w K mg base N x st f cdv A outer s H E) (wB E) (defBody st) body)
    (hsp : ∀ ds Qd Rd, sp ds Qd Rd → body { nx := fun _ => False, rt := fun d env => ∃ outs, outE 0 ms env = some outs ∧ Qd d outs, rs := fun ex env => ∃ outs, outE 0 ms env = some outs ∧ Rd ex outs, own := true } (startE N.length ms ds)) : CalN P w K mg base x (k + 1) ms sp :=
  ⟨f, fd, ps, def_okN D.fn S hms hb hsp, D.gm, D.fn.kp, .all D.bq⟩
end
section
variable {K : PySem.W.Frag}
/-- values of the module, as data -/
inductive VsD (K : PySem.W.Frag) : List Value → List PyData → Prop
  | nil : VsD K [] []
  | cons {u : Value} {v : V} {d : PyData} {us : List Value} {ds : List PyData} : RelV v u → (∀ F, Rp K F v d) → VsD K us ds → VsD K (u :: us) (d :: ds)
theorem VsD.all {us : List Value} {ds : List PyData} (h : VsD K us ds) : ∃ vs, Vals vs us ∧ ∀ F, RpAll K F vs ds := by
  induction h with
  | nil => exact ⟨[], .nil, fun _ => .nil⟩
  | cons r q _ ih =>
    obtain ⟨vs, h1, h2⟩ := ih
    exact ⟨_ :: vs, .cons r h1, fun F => .cons (q F) (h2 F)⟩
/-- the rows of a table of the module -/
inductive TabD (K : PySem.W.Frag) (P : Params) : List DictEntry → List (Str × PyData) → Prop
  | nil : TabD K P [] []
  | cons {h : Int} {x : Str} {t : Tok} {u : Value} {v : V} {d : PyData} {es : List DictEntry} {ps : List (Str × PyData)} : h = PyData.keyHash P x → RelV v u → (∀ F, Rp K F v d) → TabD K P es ps → TabD K P (⟨h, .str x t, u⟩ :: es) ((x, d) :: ps)
theorem TabD.lit {P : Params} {es : List DictEntry} {ps : List (Str × PyData)} (h : TabD K P es ps) : PySem.W.KeysLit P es := by
  induction h with
  | nil => trivial
  | cons e _ _ _ ih => exact ⟨⟨_, _, rfl, e⟩, ih⟩
theorem TabD.find {P : Params} {es : List DictEntry} {ps : List (Str × PyData)} (h : TabD K P es ps) (z : Str) : es.any (·.refKey) = false ∧ match ps.lookup z with
    | none => es.find? (·.key.isStr z) = none
    | some d => ∃ e v, es.find? (·.key.isStr z) = some e ∧ RelV v e.val ∧ ∀ F, Rp K F v d := by
  induction h with
  | nil => exact ⟨rfl, rfl⟩
  | @cons h x t u v d es ps e r q _ ih =>
    refine ⟨by rw [List.any_cons, ih.1]; rfl, ?_⟩
    rw [List.lookup_cons]
    by_cases hz : z = x
    · subst hz
      rw [beq_self_eq_true]
      exact ⟨⟨h, .str z t, u⟩, v, by rw [List.find?_cons]; simp [Value.isStr], r, q⟩
    · have h1 : (z == x) = false := by simpa using hz
      have h2 : (Value.str x t).isStr z = false := by
        show (x == z) = false
        simpa using fun y => hz y.symm
      rw [h1, List.find?_cons]
      simp only [h2]
      exact ih.2
theorem ktab_mk {w : World} {d : Addr} {es : List DictEntry} {n : Nat} {tbl : List (Str × PyData)} (l : K.lookup d = some ⟨.type "dict", none, .dict ⟨es⟩ n, #[]⟩) (low : (d == sysModules) = false) (h : TabD K w.params es tbl) : KTab K w d tbl := by
  refine ⟨⟨_, _, l, h.lit, low⟩, fun z => ?_⟩
  obtain ⟨h1, h2⟩ := h.find z
  unfold PySem.W.nsIn
  rw [l]
  dsimp only
  cases hz : tbl.lookup z with
  | none =>
    rw [hz] at h2
    rw [h2, h1]
    exact ⟨_, rfl, rfl⟩
  | some y =>
    rw [hz] at h2
    obtain ⟨e, v, g1, g2, g3⟩ := h2
    rw [g1]
    exact ⟨_, rfl, _, v, rfl, g2, g3⟩
end
section
variable {K : PySem.W.Frag} {h : Heap} {mg : Str → Option Value} {x : Str}
end
theorem keepH {A R : Prop} (a : A) (go : A → R) : R := go a
end BX
/-! D20 -/
namespace BX
open PySem PySem.Spec L2
section
variable {X : Cx} {W : WX} {n : Nat}
/-! ### what is never reached -/
def dNever : DE := fun _ _ _ => False
theorem j_never {e : Expr} : JE X W e dNever := ⟨⟨fun pins s σ H Q I q => by
  obtain ⟨B, F, env, Qd, R, A, q, k⟩ := q
  exact q.elim⟩⟩
/-! ### a call that leaves the last arguments to the defaults -/
structure CalF (P : Program) (w : World) (K : PySem.W.Frag) (mg : Str → Option Value) (base : Heap) (x : Str) (k : Nat) (ms : List Mo) (sp : FSp) (dds : List PyData) : Prop where
  at_ : ∃ f fd ps ds dvs, FnG P w K mg base k f fd ps (lift K mg (ms ++ dds.map fun _ => .d) sp) ∧ mg x = some (.ref f) ∧ PySem.W.keepIn K (.ref f) = true ∧ Binds K fd ps ds ∧ Vals dvs ds ∧ ∀ F, RpAll K F dvs dds
theorem argsIn_app {K : PySem.W.Frag} {F fr H : Hp} {ms : List Mo} {vs : List V} {ds : List PyData} {A : List Addr} {dvs : List V} {dds : List PyData} (h : ArgsIn K F fr H ms vs ds A) (r : RpAll K F dvs dds) : ArgsIn K F fr H (ms ++ dds.map fun _ => .d) (vs ++ dvs) (ds ++ dds) A := by
  induction h with
  | nil =>
    induction dds generalizing dvs with
    | nil => cases r; exact .nil
    | cons d dds ih =>
      cases r with
      | cons a b => exact .d a (ih b)
  | d a _ ih => exact .d a ih
  | io a b _ ih => exact .io a b ih
  | ro a b _ ih => exact .ro a b ih
  | fx a _ ih => exact .fx a ih
theorem lift_app {K : PySem.W.Frag} {mg : Str → Option Value} {ms : List Mo} {sp : FSp} {vs : List V} {H : Hp} {Q : VK} {E : XK} {dvs : List V} {dds : List PyData} (r : ∀ F, RpAll K F dvs dds) (h : lift K mg ms (fun ds => sp (ds ++ dds)) vs H Q E) : lift K mg (ms ++ dds.map fun _ => .d) sp (vs ++ dvs) H Q E := by
  obtain ⟨F, A, ds, Qd, Rd, h1, h0, h2, h3, h4, h5, h6, h7⟩ := h
  exact ⟨F, A, ds ++ dds, Qd, Rd, h1, h0, h2, h3, argsIn_app h4 (r F), h5, h6, h7⟩
theorem pe_callD {k : Nat} {f : Addr} {fd : FuncData} {ps : List Str} {sp : Sp} {ds : List Value} {dvs : List V} {x : Str} {p pos : Pos} {e : Expr} {es : List Expr} {t : TA} (F : FnG X.prog X.w X.K X.mg X.base k f fd ps sp) (hA : X.A.guards = some []) (room : Room k X.A) (hg : Gl X x) (hm : X.mg x = some (.ref f)) (hk : PySem.W.keepIn X.K (.ref f) = true) (hb : Binds X.K fd ps ds) (hd : Vals dvs ds)
    (tk : Takes X W) (ha : PA X (e :: es) t) (hdb : (x == ("__debug__" : Str)) = false) (he : starEach (e :: es) X.env = (false, eval e X.env) :: starEach es X.env) (hpl : (backTo pos (starEach es X.env)).any (·.1) = false) :
    PE X (.Call (.Name x p) (e :: es) [] pos) (fun σ H Q => t σ H fun vs H1 => sp (vs ++ dvs) H1 Q fun cls d H' => W cls d σ H') := by
  constructor
  intro pins s σ H Q iv rd
  refine wpAny_Call_Name_kw (ld_glob iv hg hm ?_ hdb)
  refine PySem.W.callWith_K iv.ok.mod.kin hk (thn (ha.run pos pins s σ H _ iv rd) ?_) he hpl
  rintro us s1 ⟨vs, H1, J, rel, q⟩
  have rel2 : Vals (vs ++ dvs) (us ++ ds) := rel.append hd
  refine ⟨J.kIn, wpAny_call (codeAny_mono (F.run X.A hA room X.stack s1 H1 J.env0 ⟨us, []⟩ (us ++ ds) (vs ++ dvs) (hb s1 us J.kIn (by rw [← rel2.length]; exact F.len _ _ _ _ q)) rel2 Q _ q) ?_)⟩
  intro r s2 q2
  match r, q2 with
  | .error er, q2 => exact tk er s2 (XE.of_call J (fun _ _ _ z => z) q2)
  | .ok (.ret u), q2 => exact J.after q2
theorem j_callF {x : Str} {p pos : Pos} {e : Expr} {es : List Expr} {k : Nat} {ms : List Mo} {sp : FSp} {dds : List PyData} {ts : List AK} (c : CalF X.prog X.w X.K X.mg X.base x k ms sp dds) (g : Gd X W n) (hk : k ≤ n) (hg : Gl X x) (ha : JA X W (e :: es) ts) (hms : ts.map AK.mo = ms := by rfl)
    (nodbg : (x == ("__debug__" : Str)) = false := by decide) (he : starEach (e :: es) X.env = (false, eval e X.env) :: starEach es X.env := by rfl) (hpl : (backTo pos (starEach es X.env)).any (·.1) = false := by rfl) :
    JE X W (.Call (.Name x p) (e :: es) [] pos) (dCall (fun ds => sp (ds ++ dds)) ts) := by
  obtain ⟨f, fd, ps, ds, dvs, F, hm, hkp, hb, hd, hr⟩ := c.at_
  refine ⟨PE.imp (pe_callD F g.gu (g.room.mono hk) hg hm hkp hb hd g.tk ha.pa nodbg he hpl) fun σ H Q h => ?_⟩
  obtain ⟨B, F, env, Qd, R, A, q, k⟩ := call_go hms h
  exact ⟨B, F, env, Qd, R, A, q, fun vs d H' F' env' a z => lift_app hr (k vs d H' F' env' a z)⟩
end
end BX
/-! D21 -/
/-! a def whose last parameter has a number as its default -/
namespace BX
open PySem PySem.Spec L2
structure FunV (K : PySem.W.Frag) (x qual : Str) (st : Stmt) (f : Addr) (fd : FuncData) : Prop where
  ex : ∃ (dV kV doc pm oc cdv ct : Value) (od an : Option Addr) (osl : Array (Option Value)),
    fd = PySem.W.fnOf x qual (defArgs st) (defBody st) (defScope st) dV kV doc pm an cdv ct ∧ K.lookup f = some ⟨oc, od, .func fd, osl⟩ ∧ PySem.W.codeIn K cdv qual = true
  kpt : PySem.W.keepIn K (.ref f) = true
section
variable {P : Program} {base : Heap} {w : World} {mg : Str → Option Value} {K : PySem.W.Frag}
theorem fnG_V {x qual : Str} {st : Stmt} {f : Addr} {fd : FuncData} {N ps : List Str} {k : Nat} {sp : Sp} (Fn : FunV K x qual st f fd) (S : FnScope N ps (defScope st)) (len : ∀ vs H Q E, sp vs H Q E → vs.length = ps.length)
    (bd : ∀ (cdv : Value) (A : Around), A.guards = some [] → ∀ (outer : List PySem.Env) (s : Shared) (H : Hp) (vs : List V) (Q : VK) (E : XK), Room k (A.deeper (PyProof.Rows.envOfC qual (defScope st) s.heap.objs.size f cdv)) → sp vs H Q E →
      ∃ t, PSs (cxOf (L2.CX P w) P w K mg base N qual (defScope st) f cdv A outer s H E) (defBody st) t ∧ t { nx := fun _ H' => Q .non H', rt := Q } (L2.start N vs) H) : FnG P w K mg base (k + 1) f fd ps sp := by
  obtain ⟨dV, kV, doc, pm, oc, cdv, ct, od, an, osl, efd, lk, hcd⟩ := Fn.ex
  subst efd
  refine ⟨len, ?_⟩
  intro A hg room outer s H env args us vs bind rel Q E pr
  have n1 := len vs H Q E pr
  have inK : K.In s.heap := env.mod.kin.keeps (fun b o q => (env.bs b o q).1)
  have noLim : s.heap.NoLimit := env.mod.nolimit.keeps (fun b o q => (env.bs b o q).1)
  refine codeAny_call_function room.depth (inK f _ lk) rfl S.co S.gen rfl (PySem.W.codeRec_of inK hcd) (bind _ _ _ _ ?_)
  refine wpAny_newFunctionEnv_cells S.kind ?_ ?_
  · rintro ⟨nm, vl⟩ mem
    cases S.par nm (List.of_mem_zip mem).1 with
    | inl q => exact Or.inl q
    | inr q => exact Or.inr ⟨q, PySem.W.cellsFrom_some _ _ _ (Or.inl q)⟩
  · intro en hen s1 ic
    subst hen
    refine ⟨noLim.keeps ic.toInCall.keep, codeAny_func ?_⟩
    obtain ⟨t, pt, rd⟩ := bd cdv A hg outer s H vs Q E (room.deeper _) pr
    have iv := inv_start (CX := L2.CX P w) (E := E) S room.hd env n1 rel ic
    refine wpAny_mono (pt.run [] s1 _ H _ iv rd) ?_ (fun e s' q => q)
    intro fl s' sp'
    cases fl with
    | ret u =>
      obtain ⟨v, τ, G, J, rv, q⟩ := sp'
      exact ⟨v, G, J.os, J.bare, J.base, J.hok, rv, q⟩
    | next =>
      obtain ⟨τ, G, J, q⟩ := sp'
      exact ⟨V.non, G, J.os, J.bare, J.base, J.hok, rfl, q⟩
    | brk => obtain ⟨_, _, _, q⟩ := sp'; exact q.elim
    | cont => obtain ⟨_, _, _, q⟩ := sp'; exact q.elim
end
theorem def_okV {P : Program} {w : World} {K : PySem.W.Frag} {mg : Str → Option Value} {base : Heap} {x qual : Str} {st : Stmt} {f : Addr} {fd : FuncData} {N ps : List Str} {k : Nat} {ms : List Mo} {sp : FSp} {body : DS} (Fn : FunV K x qual st f fd) (S : FnScope N ps (defScope st)) (hms : ms.length = ps.length)
    (hbody : ∀ (cdv : Value) (A : Around) (outer : List PySem.Env) (s : Shared) (H : Hp) (E : XK), Gd (cxB P w K mg base N qual st f cdv A outer s H E) (wB E) k → JSs (cxB P w K mg base N qual st f cdv A outer s H E) (wB E) (defBody st) body)
    (hsp : ∀ ds Qd Rd, sp ds Qd Rd → body { nx := fun env => ∃ outs, outE 0 ms env = some outs ∧ Qd .none outs, rt := fun d env => ∃ outs, outE 0 ms env = some outs ∧ Qd d outs, rs := fun ex env => ∃ outs, outE 0 ms env = some outs ∧ Rd ex outs } (startE N.length ms ds)) :
    FnG P w K mg base (k + 1) f fd ps (lift K mg ms sp) := by
  have hpN : ps.length ≤ N.length := by
    have := congrArg List.length S.pre
    rw [List.length_take] at this
    omega
  refine fnG_V Fn S (fun vs H Q E ⟨F, A, ds, Qd, Rd, _, _, _, _, h, _⟩ => by rw [h.lens.1]; exact hms) (fun cdv A hgu outer s H vs Q E hr h => ?_)
  obtain ⟨F, Ad, ds, Qd, Rd, hFH, tb, nd, hA, ha, hs, hQ, hE⟩ := h
  have gd : Gd (cxB P w K mg base N qual st f cdv A outer s H E) (wB E) k := ⟨rfl, S.nd, hr, takes_of rfl rfl rfl rfl, passes_of rfl, hgu⟩
  refine ⟨_, (hbody cdv A outer s H E gd).ps, ?_⟩
  have L0 := Ly.start (N := N) hFH tb nd hA ha (by omega)
  have back : ∀ σ' H' F' env' outs, Ly K ⟨F, less H Ad, less H Ad, ioAt 0 ms Ad⟩ σ' H' F' env' → outE 0 ms env' = some outs → Back K F H Ad F' H' outs := fun σ' H' F' env' outs L e =>
    ⟨L.ext, L.sub, L.keep, L.tb, L.new, outs_of L ha (fun j _ => rfl) e⟩
  refine ⟨⟨F, less H Ad, less H Ad, ioAt 0 ms Ad⟩, F, _, { nx := fun env => ∃ outs, outE 0 ms env = some outs ∧ Qd .none outs, rt := fun d env => ∃ outs, outE 0 ms env = some outs ∧ Qd d outs, rs := fun ex env => ∃ outs, outE 0 ms env = some outs ∧ Rd ex outs }, ⟨L0, ?_⟩, hsp ds Qd Rd hs, ⟨?_, ?_, ?_, ?_⟩⟩
  · rintro cls d σ' H' ⟨F', env', ex, L, hx, outs, e, q⟩
    exact hE ex cls d H' F' outs (back _ _ _ _ _ L e) hx q
  · rintro σ' H' F' env' L _ ⟨outs, e, q⟩
    exact hQ .non .none H' F' outs (back _ _ _ _ _ L e) .non q
  · rintro σ' H' F' env' v d L _ r ⟨outs, e, q⟩
    exact hQ v d H' F' outs (back _ _ _ _ _ L e) r q
  · rintro σ' H' F' env' L _ q; exact q
  · rintro σ' H' F' env' L _ q; exact q
/-- such a def, as the top has left it: its last parameter is i where it isn't given -/
structure DefAtV (K : PySem.W.Frag) (mg : Str → Option Value) (x : Str) (st : Stmt) (ps : List Str) (i : Int) (f : Addr) (fd : FuncData) : Prop where
  fn : FunV K x x st f fd
  gm : mg x = some (.ref f)
  bd : ∃ t, Binds K fd ps [.int i t]
theorem calF_of {P : Program} {w : World} {K : PySem.W.Frag} {mg : Str → Option Value} {base : Heap} {x : Str} {st : Stmt} {f : Addr} {fd : FuncData} {N ps : List Str} {k : Nat} {ms : List Mo} {sp : FSp} {body : DS} {i : Int} (D : DefAtV K mg x st ps i f fd) (S : FnScope N ps (defScope st)) (hms : (ms ++ [Mo.d]).length = ps.length)
    (hb : ∀ (cdv : Value) (A : Around) (outer : List PySem.Env) (s : Shared) (H : Hp) (E : XK), Gd (cxB P w K mg base N x st f cdv A outer s H E) (wB E) k → JSs (cxB P w K mg base N x st f cdv A outer s H E) (wB E) (defBody st) body)
    (hsp : ∀ ds Qd Rd, sp ds Qd Rd → body { nx := fun env => ∃ outs, outE 0 (ms ++ [Mo.d]) env = some outs ∧ Qd .none outs, rt := fun d env => ∃ outs, outE 0 (ms ++ [Mo.d]) env = some outs ∧ Qd d outs, rs := fun ex env => ∃ outs, outE 0 (ms ++ [Mo.d]) env = some outs ∧ Rd ex outs } (startE N.length (ms ++ [Mo.d]) ds)) : CalF P w K mg base x (k + 1) ms sp [.int i] := by
  obtain ⟨t, b⟩ := D.bd
  exact ⟨f, fd, ps, [.int i t], [.int i], def_okV (ms := ms ++ [Mo.d]) D.fn S hms hb hsp, D.gm, D.fn.kpt, b, .cons ⟨t, rfl⟩ .nil, fun F => .cons (.int i) .nil⟩
end BX
/-! F7 -/
/-! except clauses with a name each, one behind the other -/
namespace BX
open PySem PySem.Spec L2 PyProof.Rows
/-- ends behind a suite: its name is unbound -/
def goneE (D : L2.Ends) (i : Nat) : L2.Ends := { nx := fun σ H => D.nx (σ.set i none) H, rt := D.rt, bk := fun σ H => D.bk (σ.set i none) H, ct := fun σ H => D.ct (σ.set i none) H }
structure CN where
  c : Value
  i : Nat
  ts : Addr → Value → Option Addr → TS
def wNm (K : PySem.W.Frag) (Wo : WX) (D : L2.Ends) : List CN → WX
  | [] => Wo
  | q :: r => fun cls d σ H => ∃ b, PySem.W.exmOne K cls q.c = some b ∧ (b = true → ∀ a, H a = none → q.ts a cls d (goneE D q.i) (σ.set q.i (some (.ref a))) H) ∧ (b = false → wNm K Wo D r cls d σ H)
inductive HN (X : Cx) : List ExceptHandler → List CN → Prop
  | nil : HN X [] []
  | cons {x n : Str} {q : CN} {b0 : Stmt} {suite : List Stmt} {np p : Pos} {hds : List ExceptHandler} {l : List CN} (hc : Names X x q.c) (hi : X.N[q.i]? = some n) (hk : X.env.kindOf n = some .local)
      (hs : ∀ a oe cls d pn, Zc cls d oe → (∃ vs, oe.data = .fields vs) → PSs (X.suite a ((a, oe) :: pn)) (b0 :: suite) (q.ts a cls d)) (r : HN X hds l) : HN X (.ExceptHandler (some (.Name x np)) (some n) (b0 :: suite) p :: hds) (q :: l)
/-- an exception has come down in s; sI is the state without it -/
structure Down (X : Cx) (pins : List (Addr × Obj)) (B : Heap) (a : Addr) (cls : Value) (d : Option Addr) (σ : L2.St) (H : Hp) (sI s : Shared) : Prop where
  I : Inv X pins σ H sI
  nb : ∀ b o, sI.heap.get? b = some o → b ∉ frs X.stack → B.get? b = some o
  up : sI.heap.UpToSlots s.heap
  fl : HandSPX.FlyingZ B X.stack a (Zc cls d) s.heap
  na : H a = none
  os : s.os = sI.os
  ag : AllBare s.gens
section
variable {X : Cx} {pins : List (Addr × Obj)} {B : Heap} {a : Addr} {cls : Value} {d : Option Addr} {σ : L2.St} {H : Hp} {sI s : Shared}
theorem Down.inv (w : Down X pins B a cls d σ H sI s) : Inv X pins σ H s := w.I.landed w.nb w.fl.1 w.up w.os w.ag
theorem Down.obj (w : Down X pins B a cls d σ H sI s) (hs : X.stack = X.env :: X.outer) (hf : X.env.frame = some X.env.locals) : ∃ oe vs, s.heap.get? a = some oe ∧ Zc cls d oe ∧ oe.data = .fields vs ∧ a ≠ X.env.locals ∧ a ∉ X.fs := by
  have fl := w.fl
  obtain ⟨oe, vs, g, z, dt⟩ := fl.there
  have off : a ∉ frs (X.env :: X.outer) := by
    intro hm
    rw [← hs] at hm
    obtain ⟨_, o2, g2, no⟩ := fl.2.2.1.mem hm
    cases g.symm.trans g2
    exact no _ dt
  refine ⟨oe, vs, g, z, dt, ?_, ?_⟩
  · rintro rfl
    exact off (List.mem_filterMap.mpr ⟨_, List.mem_cons_self, hf⟩)
  · intro hm
    obtain ⟨e, m1, m2⟩ := List.mem_filterMap.mp hm
    exact off (List.mem_filterMap.mpr ⟨e, List.mem_cons_of_mem _ m1, m2⟩)
theorem Down.goes (w : Down X pins B a cls d σ H sI s) {h : Heap} (fl : HandSPX.FlyingZ B X.stack a (Zc cls d) h) (up : s.heap.UpToSlots h) : Down X pins B a cls d σ H sI { s with heap := h } := ⟨w.I, w.nb, w.up.trans up, fl, w.na, w.os, w.ag⟩
/-- the clauses are gone through -/
theorem Down.thru {Wo : WX} {D : L2.Ends} (hs : X.stack = X.env :: X.outer) (hf : X.env.frame = some X.env.locals) (hN : X.N.Nodup) (tk : Takes X Wo) (w : Down X pins B a cls d σ H sI s) {hds : List ExceptHandler} {l : List CN} (hn : HN X hds l) (q : wNm X.K Wo D l cls d σ H) :
    wpAny (model X.prog X.w) X.A (handleBy (.ref a) X.env hds) (SP X pins D) X.xe s := by
  induction hn with
  | nil =>
    refine wpAny_handleBy_nil ?_
    have fl := w.fl
    obtain ⟨_, _, _, oe, vs, T, oT, ts, g, _, dt, g1, _⟩ := id fl
    unfold PySem.passOn
    refine wpAny_bind (wpAny_field g dt g1 ?_)
    rw [if_neg (by simp : ¬ ((Value.ref T == Value.none) = true))]
    have up : wpAny (model X.prog X.w) X.A (setFlight (.ref a) X.env.frame) (fun _ s4 => wpAny (model X.prog X.w) X.A (throw (.ref a) : Sem Flow) (SP X pins D) X.xe s4) X.xe s := by
      rw [hf]
      exact HandSPX.setFlight_upZ fl fun h held u => wpAny_throw (tk _ _ ⟨a, B, sI, pins, σ, H, cls, d, rfl, w.I, w.nb, w.up.trans u, .inr (.inr held), w.na, w.os, w.ag, q⟩)
    first
      | exact wpAny_bind (wpAny_pure (wpAny_bind up))
      | exact wpAny_bind up
  | @cons x n y b0 suite np p hds l hc hi hk hsu r ih =>
    obtain ⟨b, m, yes, no⟩ := q
    obtain ⟨oe, vs, g, z, dt, nL, nF⟩ := w.obj hs hf
    have S := w.inv.suite g dt w.na nL nF
    refine wpAny_handleBy_cons (codeAny_handlers_test ?_) nofun
    have LT : PySem.W.Looks (model X.prog X.w) s.heap (typeOf (.ref a)) cls := fun _ _ _ _ k q => wpAny_typeOf_ref (k _ _ g) (by rw [z.1]; exact q)
    have LM := PySem.W.exm_one (M := model X.prog X.w) w.inv.kIn LT m
    have load : ∀ {Q : Value → Shared → Prop} {E : Value → Shared → Prop}, Q y.c s → wpAny (model X.prog X.w) (X.A.mark (some (.ref a))) (eval (.Name x np) X.env) Q E s := by
      intro Q E q
      rcases hc with ⟨hg, hd, hm | ⟨hm, hv, hnn⟩⟩
      · exact ld_glob (X := X.suite a ((a, oe) :: (X.pn ++ pins))) S hg hm q hd
      · exact ld_blt (X := X.suite a ((a, oe) :: (X.pn ++ pins))) S hg hm hv q hnn hd
    refine load (LM.here ?_)
    cases b with
    | false => exact ih (no rfl)
    | true =>
      refine codeAny_handlers_suite_as (HandSPX.lands_againZ w.fl fun h fl up => ?_)
      have w2 := w.goes fl up
      obtain ⟨oe2, vs2, g2, z2, dt2, _, _⟩ := w2.obj hs hf
      have S2 := w2.inv.suite g2 dt2 w.na nL nF
      refine store_ok (X := X.suite a ((a, oe2) :: (X.pn ++ pins))) (v := .ref a) S2 hN hi (.inl hk) rfl (fun s5 S5 => ?_) (.inr hk)
      have off : ∀ {σ6 : L2.St} {H6 : Hp} {s6 : Shared} {Q : Shared → Prop}, Inv (X.suite a ((a, oe2) :: (X.pn ++ pins))) [] σ6 H6 s6 → (∀ s7, Inv X pins (σ6.set y.i none) H6 s7 → Q s7) → wpAny (model X.prog X.w) X.A (do bindName X.env n .none; unbindBehindTheSuite X.env n p) (fun _ s7 => Q s7) X.xe s6 :=
        fun S6 k => gone_ok (S6.unsuite w.I.ok) hN hi hk k
      refine wpAny_mono ((hsu a oe2 cls d (X.pn ++ pins) z2 ⟨_, dt2⟩).run [] s5 _ H _ S5 (yes rfl a w.na)) (fun f s6 e => ?_) fun _ _ e => e.elim
      cases f with
      | ret u =>
        obtain ⟨v, σ6, H6, S6, rv, e⟩ := e
        exact off S6 fun s7 J => ⟨v, _, _, J, rv, e⟩
      | next =>
        obtain ⟨σ6, H6, S6, e⟩ := e
        exact off S6 fun s7 J => ⟨_, _, J, e⟩
      | cont =>
        obtain ⟨σ6, H6, S6, e⟩ := e
        exact off S6 fun s7 J => ⟨_, _, J, e⟩
      | brk =>
        obtain ⟨σ6, H6, S6, e⟩ := e
        exact off S6 fun s7 J => ⟨_, _, J, e⟩
theorem ps_try_nm {body : List Stmt} {h0 : ExceptHandler} {hds : List ExceptHandler} {l : List CN} {pos : Pos} {tb : WX → TS} {Wo : WX} (hs : X.stack = X.env :: X.outer) (hf : X.env.frame = some X.env.locals) (hN : X.N.Nodup) (tk : Takes X Wo)
    (hb : ∀ (W : WX) (pn : List (Addr × Obj)) (xe : Value → Shared → Prop), Takes (X.tr pn xe) W → PassesOwn (model X.prog X.w) X.A X.env xe → PSs (X.tr pn xe) body (tb W)) (hn : HN X (h0 :: hds) l) :
    PS X (.Try body (h0 :: hds) [] [] pos) (fun D σ H => tb (wNm X.K Wo D l) D σ H) := ⟨fun pins s σ H D I h => by
  have ok := I.ok
  refine wpAny_Try_except (wpAny_mono ((hb (wNm X.K Wo D l) (X.pn ++ pins) (fun e s₁ => wpAny (model X.prog X.w) X.A (noteFrame e X.env) (fun _ s₂ => wpAny (model X.prog X.w) X.A (setFlight e none) (fun _ s₃ => wpAny (model X.prog X.w) X.A (handleBy e X.env (h0 :: hds)) (SP X pins D) X.xe s₃) X.xe s₂) X.xe s₁) ?_ PassesOwn.looking).run [] s σ H D (I.toTry _) h) (fun f s1 e => ?_) fun _ _ e => e)
  · rintro u s' ⟨a, B, sI, pins', σ', H', cls, d, rfl, J, nb, up, sky, na, os, ag, q⟩
    have sky : Sky B (X.env :: X.outer) a (Zc cls d) X.env.locals s'.heap := by rw [← hs]; exact sky
    refine Sky.land Zc.steady (by rw [ok.frames, hs]) hf sky fun h fl u2 => ?_
    rw [← hs] at fl
    exact Down.thru (s := { s' with heap := h }) hs hf hN tk ⟨J.ofTry ok, nb, up.trans u2, fl, na, os, ag⟩ hn q
  · cases f with
    | ret u =>
      obtain ⟨v, σ', H', J, r, q⟩ := e
      exact ⟨v, σ', H', J.ofTry ok, r, q⟩
    | next =>
      obtain ⟨σ', H', J, q⟩ := e
      exact wpAny_execs_nil ⟨σ', H', J.ofTry ok, q⟩
    | brk =>
      obtain ⟨σ', H', J, q⟩ := e
      exact ⟨σ', H', J.ofTry ok, q⟩
    | cont =>
      obtain ⟨σ', H', J, q⟩ := e
      exact ⟨σ', H', J.ofTry ok, q⟩⟩
end
end BX
/-! F8 -/
/-! error classes of the text over OverflowError: made, with any fields that __init__ stores -/
namespace BX
open PySem PySem.Spec L2 PyProof.Rows
abbrev ofTail : List Value := [.type "OverflowError", .type "ArithmeticError", .type "Exception", .type "BaseException", .type "object"]
structure OofC (K : PySem.W.Frag) (C : Addr) : Prop where
  cls : ∃ nm q N bs bm sn sub ab col dd k0 k1 k2 k3 k5, K.lookup C = some (excClassObj nm q C N bs bm true sn sub ab col dd k0 k1 k2 k3 k5 "OverflowError.__new__") ∧ PySem.W.excTail ofTail bm = true
  sa : PySem.W.findIn K (.ref C) "__setattr__" = some (some (.builtin "object.__setattr__"))
  exC : PySem.W.subIn K (.ref C) (.type "BaseException") = some true
  tyC : PySem.W.typeIn K (.ref C) = some (.type "type")
  kC : PySem.W.keepIn K (.ref C) = true
section
variable {K : PySem.W.Frag} {C : Addr}
theorem OofC.over (T : OofC K C) : PySem.W.excOver K C ofTail = true ∧ PySem.W.hasDictIn K C = true := by
  obtain ⟨nm, q, N, bs, bm, sn, sub, ab, col, dd, k0, k1, k2, k3, k5, hC, hb⟩ := T.cls
  have e : PySem.W.clsIn K C = some { name := nm, bases := bs, mro := .ref C :: bm, ns := N, qualname := q, hasDict := true, slotNames := sn, subclasses := sub, abstract := ab, collection := col, hasDel := false } := by
    unfold PySem.W.clsIn; rw [hC] <;> rfl
  constructor
  · unfold PySem.W.excOver
    rw [e]
    show (C == C && PySem.W.excTail ofTail bm) = true
    rw [hb]; simp
  · unfold PySem.W.hasDictIn
    rw [e]; rfl
end
/-! ### a field is stored -/
section
open PySem.W Builtin Builtin.ObjectAttr
variable {prog : Program} {w : World} {A : Around} {E : Value → Shared → Prop} {hp : Heap} {g : Array GenState} {d : Drawn} {t : Nat} {os : OsState} {K : PySem.W.Frag} {x C : Addr} {t1 : Addr} {f : Str} {u : Value} {Q : Unit → Shared → Prop}
abbrev exR (C t1 : Addr) (dd : Option Addr) : Obj := { cls := .ref C, dict := dd, data := .fields #[.ref t1, .none, .none, .none, .bool false, .none] }
end
section
variable {X : Cx} {pins : List (Addr × Obj)} {σ : L2.St} {H : Hp} {s : Shared} {a C dx : Addr} {f : Str} {y : V} {u : Value} {fs : List (Str × V)} {Q : Unit → Shared → Prop} {E : Value → Shared → Prop} {A : Around}
end
/-- self.f = e in such a class's __init__ -/
def tOfs (K : PySem.W.Frag) (f : Str) (to te : TE) : TS := fun D σ H => te σ H fun y H1 => to σ H1 fun x H2 => ∃ a C : Addr, x = .ref a ∧ OofC K C ∧ PySem.W.findIn K (.ref C) f = some none ∧
  ((H2 a = some (exo a C none) ∧ ∀ dx, H2 dx = none → dx ≠ a → D.nx σ (upd (upd H2 dx (exd dx [(f, y)])) a (exo a C (some dx)))) ∨
    ∃ (dx : Addr) (fs : List (Str × V)), H2 a = some (exo a C (some dx)) ∧ H2 dx = some (exd dx fs) ∧ fs.length ≤ 900 ∧ D.nx σ (upd H2 dx (exd dx ((f, y) :: fs))))
end BX
/-! F9 -/
/-! an error with two fields of one value is raised; several named clauses -/
namespace BX
open PySem PySem.Spec L2
/-- __init__(self, x): self.f = x; self.g = x -/
def spKeep2 (K : PySem.W.Frag) (f g : Str) : Sp := fun vs H Q _ => ∃ (a C : Addr) (y : V), vs = [.ref a, y] ∧ OofC K C ∧ PySem.W.findIn K (.ref C) f = some none ∧ PySem.W.findIn K (.ref C) g = some none ∧ H a = some (exo a C none) ∧
  ∀ dx, H dx = none → dx ≠ a → Q .non (upd (upd (upd H dx (exd dx [(f, y)])) a (exo a C (some dx))) dx (exd dx [(g, y), (f, y)]))
section
variable {P : Program} {base : Heap} {w : World} {mg : Str → Option Value} {K : PySem.W.Frag}
end
/-- what an error's readings want of its class -/
structure ErrR (K : PySem.W.Frag) (C : Addr) : Prop where
  xf : XfC K C
  ic : (PySem.W.clsIn K C).isSome = true
  ac : PySem.W.findIn K (.ref C) "__class__" = some (some (.builtin "object.__class__"))
  sg : PySem.W.specialIn K (.builtin "object.__class__") "__get__" = some (some (.builtin "getset_descriptor.__get__"))
  tk : PySem.W.takesIn K (.builtin "object.__class__") = some true
  mo : PySem.W.mroIn K C (.type "object") = some true
structure ErrM (K : PySem.W.Frag) (mg : Str → Option Value) (c f g : Str) (C fI : Addr) : Prop where
  gC : mg c = some (.ref C)
  ox : OofC K C
  nf : PySem.W.findIn K (.ref C) f = some none
  ng : PySem.W.findIn K (.ref C) g = some none
  iC : PySem.W.findIn K (.ref C) "__init__" = some (some (.ref fI))
  tI : PySem.W.typeIn K (.ref fI) = some (.type "function")
  r : ErrR K C
theorem ErrC.r {K : PySem.W.Frag} {mg : Str → Option Value} {c : Str} {C fI : Addr} (e : ErrC K mg c C fI) : ErrR K C := ⟨e.xf, e.ic, e.ac, e.sg, e.tk, e.mo⟩
/-- raise C(e), C keeping e in all its fields -/
def sRaiseF (c : Str) (fs : List Str) (t : DE) : DS := fun D env => t env (fun d env1 => D.rs ⟨c, fs.map fun f => (f, d)⟩ env1) D.rs
section
variable {X : Cx} {W : WX} {B : Base} {σ : L2.St} {H F : Hp} {env : Ev} {R : Ex → Ev → Prop} {n : Nat}
/-- e.f, of any error -/
theorem j_xfR {m f : Str} {C : Addr} {o : EO} {oe : Obj} {pn : List (Addr × Obj)} {p pos : Pos} {i : Nat} (T : ErrR X.K C) (hno : PySem.W.findIn X.K (.ref C) f = some none) (hz : Zc (.ref C) (some o.d) oe) (hf : ∃ vs, oe.data = .fields vs) (he : PE (X.suite o.a ((o.a, oe) :: pn)) (.Name m p) (tVar i)) (hb : attributeBase (.Name m p) f X.env (eval (.Name m p) X.env) = eval (.Name m p) X.env := by rfl) :
    JE (X.suite o.a ((o.a, oe) :: pn)) W0 (.Attribute (.Name m p) f pos) (dXf o i f) :=
  ⟨PE.imp (pe_xf T.xf hno hz hf he hb) fun σ H Q ⟨B, F, env, Qd, R, A, ⟨e, d, hd, q⟩, k⟩ => by
    obtain ⟨h1, fs, h2, h3⟩ := A.ly.xs i o.x e
    obtain ⟨v, h4, h5⟩ := paired_lookup h3 hd
    exact ⟨.ref o.a, h1, rfl, rfl, o.d, fs, v, rfl, A.ly.sub _ _ h2, h4, k v d H F env (A.af h5) q⟩⟩
/-! ### several clauses -/
/-- which classes an error of which class is of: its own alone -/
def ApartX (K : PySem.W.Frag) (mg : Str → Option Value) (cs : List Str) : Prop := ∀ x ∈ cs, ∀ y ∈ cs, ∀ u v, mg x = some u → mg y = some v → PySem.W.exmOne K u v = some (decide (x = y))
structure CD where
  c : Str
  i : Nat
  ts : EO → DS
def endX (D : DEnds) (i : Nat) : DEnds := { nx := fun e => D.nx (e.set i .e), rt := D.rt, bk := fun e => D.bk (e.set i .e), ct := fun e => D.ct (e.set i .e), rs := fun _ _ => False, own := D.own }
def wCD (cs : List Str) (D : DEnds) : List CD → Ex → Ev → Prop
  | [] => fun ex env => ex.cls ∈ cs ∧ D.rs ex env
  | q :: r => fun ex env => (ex.cls = q.c ∧ ∀ a d, q.ts ⟨a, d, ex⟩ (endX D q.i) (env.set q.i (.x (EO.x ⟨a, d, ex⟩)))) ∨ (ex.cls ≠ q.c ∧ ex.cls ∈ cs ∧ wCD cs D r ex env)
def sTryN (cs : List Str) (l : List CD) (tb : DS) : DS := fun D env => tb { D with rs := wCD cs D l } env
inductive CsOk (X : Cx) (cs : List Str) : List ExceptHandler → List CD → List CN → Prop
  | nil : CsOk X cs [] [] []
  | cons {c m : Str} {C : Addr} {i : Nat} {ts : EO → DS} {b0 : Stmt} {suite : List Stmt} {np p : Pos} {hds : List ExceptHandler} {l : List CD} {l' : List CN} (gC : X.mg c = some (.ref C)) (hc : c ∈ cs) (hg : Gl X c) (hi : X.N[i]? = some m) (hk : X.env.kindOf m = some .local) (hdb : (c == ("__debug__" : Str)) = false)
      (hs : ∀ (o : EO) (oe : Obj) (pn : List (Addr × Obj)), o.ex.cls = c → Zc (.ref C) (some o.d) oe → (∃ vs, oe.data = .fields vs) → JSs (X.suite o.a ((o.a, oe) :: pn)) W0 (b0 :: suite) (ts o)) (r : CsOk X cs hds l l') :
      CsOk X cs (.ExceptHandler (some (.Name c np)) (some m) (b0 :: suite) p :: hds) (⟨c, i, ts⟩ :: l) (⟨.ref C, i, fun a cls d D σ H => cls = .ref C ∧ ∃ o : EO, o.a = a ∧ d = some o.d ∧ o.ex.cls = c ∧ tS X W0 (ts o) D σ H⟩ :: l')
theorem CsOk.hn {cs : List Str} {hds : List ExceptHandler} {l : List CD} {l' : List CN} (h : CsOk X cs hds l l') : HN X hds l' := by
  induction h with
  | nil => exact .nil
  | @cons c m C i ts b0 suite np p hds l l' gC hc hg hi hk hdb hs r ih =>
    refine .cons ⟨hg, hdb, .inl gC⟩ hi hk (fun a oe cls d pn hz hf => ⟨fun pins s σ H D I ⟨e1, o, e2, e3, e4, h⟩ => ?_⟩) ih
    subst e1 e2 e3
    exact (hs o oe pn e4 hz hf).ps.run pins s σ H D I (tS_cx h)
theorem CsOk.wish {cs : List Str} {hds : List ExceptHandler} {l : List CD} {l' : List CN} (h : CsOk X cs hds l l') (ap : ApartX X.K X.mg cs) {d : DEnds} {D : L2.Ends} (A : At X W B σ H F env d.rs) (k : EndsOk X B F d D)
    {cls : Value} {dd : Option Addr} {σ' : L2.St} {H' F' : Hp} {env' : Ev} {ex : Ex} (L : Ly X.K ⟨F, B.fr, B.ro, B.io⟩ σ' H' F' env') (hm : X.mg ex.cls = some cls) (hx : ∃ da, dd = some da ∧ XD X.K F' da ex) (q : wCD cs d l ex env') : wNm X.K W D l' cls dd σ' H' := by
  induction h with
  | nil =>
    obtain ⟨da, e, xd⟩ := hx
    exact A.wi cls dd σ' H' ⟨F', env', ex, (A.ly.unbase L).1, ⟨hm, da, e, xd⟩, q.2⟩
  | @cons c m C i ts b0 suite np p hds l l' gC hc hg hi hk hdb hs r ih =>
    obtain ⟨da, e, xd⟩ := hx
    have le0 : Le F F' := (A.ly.unbase L).2
    rcases q with ⟨ec, q⟩ | ⟨nc, mc, q⟩
    · have ec : ex.cls = c := ec
      have hcl : cls = .ref C := by rw [ec, gC] at hm; exact (Option.some.inj hm).symm
      subst hcl
      refine ⟨true, by rw [ap c hc c hc _ _ gC gC]; simp, fun _ a ha => ?_, fun z => by cases z⟩
      refine ⟨rfl, ⟨a, da, ex⟩, rfl, e, ec, B, F', _, _, ⟨(A.ly.unbase L).1.setX i (o := EO.x ⟨a, da, ex⟩) xd, fun _ _ _ _ ⟨_, _, _, _, _, z⟩ => z.elim⟩, q a da, ⟨?_, ?_, ?_, ?_⟩⟩
      · intro σ2 H2 F2 env2 L2' le q2
        exact k.nx _ H2 F2 _ (L2'.setE i) (le0.trans le) q2
      · intro σ2 H2 F2 env2 v x L2' le rv q2
        exact k.rt _ H2 F2 _ v x L2' (le0.trans le) rv q2
      · intro σ2 H2 F2 env2 L2' le q2
        exact k.bk _ H2 F2 _ (L2'.setE i) (le0.trans le) q2
      · intro σ2 H2 F2 env2 L2' le q2
        exact k.ct _ H2 F2 _ (L2'.setE i) (le0.trans le) q2
    · have nc : ex.cls ≠ c := nc
      exact ⟨false, by rw [ap _ mc c hc _ _ hm gC]; simp [nc], (fun z => by cases z), fun _ => ih q⟩
theorem js_tryN {cs : List Str} {h0 : ExceptHandler} {hds : List ExceptHandler} {l : List CD} {l' : List CN} {body : List Stmt} {pos : Pos} {tb : DS} (ap : ApartX X.K X.mg cs) (gd : Gd X W n)
    (hb : ∀ (W' : WX) (pn : List (Addr × Obj)) (xe : Value → Shared → Prop), Gd (X.tr pn xe) W' n → JSs (X.tr pn xe) W' body tb) (hh : CsOk X cs (h0 :: hds) l l') (hs : X.stack = X.env :: X.outer := by rfl) (hf : X.env.frame = some X.env.locals := by rfl) :
    JS X W (.Try body (h0 :: hds) [] [] pos) (sTryN cs l tb) := by
  refine ⟨PS.imp (ps_try_nm (tb := fun W' => tS X W' tb) hs hf gd.nd gd.tk (fun W' pn xe tk po => PSs.imp (hb W' pn xe ⟨gd.calm, gd.nd, gd.room, tk, po, gd.gu⟩).ps fun D σ H h => tS_cx h) hh.hn) fun D σ H ⟨B, F, env, d, A, q, k⟩ => ?_⟩
  refine ⟨⟨F, B.fr, B.ro, B.io⟩, F, env, { d with rs := _ }, ⟨A.ly.rebase, ?_⟩, q, ⟨?_, ?_, ?_, ?_⟩⟩
  · rintro cls dd σ' H' ⟨F', env', ex, L, ⟨hm, hx⟩, r⟩
    exact hh.wish ap A k L hm hx r
  · intro σ2 H2 F2 env2 L2' le q2
    exact k.nx _ H2 F2 _ (A.ly.unbase L2').1 le q2
  · intro σ2 H2 F2 env2 v x L2' le rv q2
    exact k.rt _ H2 F2 _ v x (A.ly.unbase L2').1 le rv q2
  · intro σ2 H2 F2 env2 L2' le q2
    exact k.bk _ H2 F2 _ (A.ly.unbase L2').1 le q2
  · intro σ2 H2 F2 env2 L2' le q2
    exact k.ct _ H2 F2 _ (A.ly.unbase L2').1 le q2
end
end BX
/-! E10 -/
/-! what the top has left, by names: defs, data, tables, error classes; told by one look of the kernel's -/
noncomputable section
namespace TB
open PySem PySem.Spec PyProof.Rows L2 BX
abbrev Frag := PySem.W.Frag
/-- what is asked -/
structure Cfg where
  free : List Str
  defs : List (Str × Stmt × Option Int)
  data : List (Str × PyData)
  tabs : List (Str × List (Str × PyData))
  ttabs : List (Str × List (List Str × PyData))
  errs : List (Str × Str × Stmt)
  errs2 : List (Str × Str × Stmt × Str × Str × Str) := []
  apart : List Str := []
  isis : List (Str × Str × Bool) := []
  lams : List Str := []
  ftabs : List (Str × List (Str × Str)) := []

/-! ### data -/
def tupItems (K : Frag) (u : Value) : Option (List Value) := match u with
  | .ref a => (match K.lookup a with
    | some ⟨.type c, none, .seq its _, _⟩ => (match decide (c = "tuple"), Nat.ble its.toList.length 4000 with
      | true, true => some its.toList
      | _, _ => none)
    | _ => none)
  | _ => none
theorem tupItems_ok {K : Frag} {u : Value} {us : List Value} (h : tupItems K u = some us) : ∃ a o n sl, u = .ref a ∧ K.lookup a = some ⟨.type "tuple", none, .seq ⟨us⟩ n, sl⟩ ∧ us.length ≤ sizeLine ∧ o = a := by
  unfold tupItems at h
  cases u with
  | ref a =>
    dsimp only at h
    cases e : K.lookup a with
    | none => (rw [e] at h; cases h)
    | some o =>
      obtain ⟨oc, od, dt, sl⟩ := o
      rw [e] at h
      cases oc with
      | type c =>
       cases od with
       | some _ => cases dt <;> cases h
       | none =>
        cases dt with
        | seq its n =>
          dsimp only at h
          cases e1 : decide (c = "tuple") with
          | false => rw [e1] at h; cases h
          | true =>
            cases e2 : Nat.ble its.toList.length 4000 with
            | false => rw [e1, e2] at h; cases h
            | true =>
              rw [e1, e2] at h
              cases h
              have ec : c = "tuple" := of_decide_eq_true e1
              subst ec
              exact ⟨a, a, n, sl, rfl, e, Nat.le_trans (Nat.le_of_ble_eq_true e2) (by decide), rfl⟩
        | _ => cases h
      | _ => cases h
  | _ => cases h
mutual
def datB (K : Frag) : PyData → Value → Bool
  | .int j, u => (match u with
    | .int i _ => decide (i = j)
    | _ => false)
  | .str y, u => (match u with
    | .str x _ => decide (x = y)
    | _ => false)
  | .none, u => (match u with
    | .none => true
    | _ => false)
  | .bool b, u => (match u with
    | .bool c => decide (c = b)
    | _ => false)
  | .tuple ds, u => (match tupItems K u with
    | some us => datBs K ds us
    | none => false)
  | .list _, _ => false
  | .dict _, _ => false
def datBs (K : Frag) : List PyData → List Value → Bool
  | [], us => (match us with
    | [] => true
    | _ => false)
  | d :: ds, us => (match us with
    | u :: us => datB K d u && datBs K ds us
    | [] => false)
end
mutual
theorem datB_ok {K : Frag} : ∀ (d : PyData) {u : Value}, datB K d u = true → ∃ v, RelV v u ∧ ∀ F, Rp K F v d
  | .int j, u, h => by
    unfold datB at h
    cases u with
    | int i t =>
      have e : i = j := of_decide_eq_true h
      subst e
      exact ⟨.int i, ⟨t, rfl⟩, fun _ => .int i⟩
    | _ => cases h
  | .str y, u, h => by
    unfold datB at h
    cases u with
    | str x t =>
      have e : x = y := of_decide_eq_true h
      subst e
      exact ⟨.str x, ⟨t, rfl⟩, fun _ => .str x⟩
    | _ => cases h
  | .none, u, h => by
    unfold datB at h
    cases u with
    | none => exact ⟨.non, rfl, fun _ => .non⟩
    | _ => cases h
  | .bool b, u, h => by
    unfold datB at h
    cases u with
    | bool c =>
      have e : c = b := of_decide_eq_true h
      subst e
      exact ⟨.bl c, rfl, fun _ => .bl c⟩
    | _ => cases h
  | .tuple ds, u, h => by
    unfold datB at h
    cases e : tupItems K u with
    | none => (rw [e] at h; cases h)
    | some us =>
      rw [e] at h
      obtain ⟨a, _, n, sl, rfl, l, hl, _⟩ := tupItems_ok e
      obtain ⟨vs, g1, g2⟩ := datBs_ok ds h
      exact ⟨.ref a, rfl, fun F => .tup (.inr ⟨_, _, _, l, rfl, rfl, rfl, hl, g1⟩) (g2 F)⟩
  | .list _, _, h => by
    unfold datB at h
    cases h
  | .dict _, _, h => by
    unfold datB at h
    cases h
theorem datBs_ok {K : Frag} : ∀ (ds : List PyData) {us : List Value}, datBs K ds us = true → ∃ vs, Vals vs us ∧ ∀ F, RpAll K F vs ds
  | [], us, h => by
    unfold datBs at h
    cases us with
    | nil => exact ⟨[], .nil, fun _ => .nil⟩
    | cons _ _ => cases h
  | d :: ds, us, h => by
    unfold datBs at h
    cases us with
    | nil => cases h
    | cons u us =>
      obtain ⟨h1, h2⟩ := Bool.and_eq_true_iff.mp h
      obtain ⟨v, a1, a2⟩ := datB_ok d h1
      obtain ⟨vs, b1, b2⟩ := datBs_ok ds h2
      exact ⟨v :: vs, .cons a1 b1, fun F => .cons (a2 F) (b2 F)⟩
end
/-! ### tables -/
def entsOf (K : Frag) (d : Addr) : Option (List DictEntry) := match K.lookup d with
  | some ⟨.type c, none, .dict es _, sl⟩ => (match decide (c = "dict"), sl.toList, Nat.beq d sysModules with
    | true, [], false => some es.toList
    | _, _, _ => none)
  | _ => none
theorem entsOf_ok {K : Frag} {d : Addr} {es : List DictEntry} (h : entsOf K d = some es) : ∃ n, K.lookup d = some ⟨.type "dict", none, .dict ⟨es⟩ n, #[]⟩ ∧ (d == sysModules) = false := by
  unfold entsOf at h
  cases e : K.lookup d with
  | none => (rw [e] at h; cases h)
  | some o =>
    obtain ⟨oc, od, dt, sl⟩ := o
    rw [e] at h
    cases oc with
    | type c =>
      cases od with
      | some _ => cases dt <;> cases h
      | none =>
        cases dt with
        | dict es n =>
          dsimp only at h
          obtain ⟨sl⟩ := sl
          cases e1 : decide (c = "dict") with
          | false => rw [e1] at h; cases h
          | true =>
            cases sl with
            | cons _ _ => rw [e1] at h; cases h
            | nil =>
              cases e2 : Nat.beq d sysModules with
              | true => rw [e1, e2] at h; cases h
              | false =>
                rw [e1, e2] at h
                cases h
                have ec : c = "dict" := of_decide_eq_true e1
                subst ec
                refine ⟨n, rfl, ?_⟩
                show (d == sysModules) = false
                rw [beq_eq_false_iff_ne]
                intro q
                rw [q] at e2
                cases e2
        | _ => cases h
    | _ => cases od <;> cases dt <;> cases h
/-- rows by texts; the hashes apart -/
def rowsB (K : Frag) : List DictEntry → List (Str × PyData) → Bool
  | [], [] => true
  | e :: es, (x, d) :: ps => (match e.key with
    | .str y _ => decide (y = x) && (datB K d e.val && rowsB K es ps)
    | _ => false)
  | _, _ => false
theorem rowsB_ok {K : Frag} {P : Params} : ∀ {es : List DictEntry} {ps : List (Str × PyData)}, rowsB K es ps = true → es.map (·.hash) = ps.map (fun p => PyData.keyHash P p.1) → TabD K P es ps
  | [], [], _, _ => .nil
  | [], _ :: _, h, _ => by simp [rowsB] at h
  | _ :: _, [], h, _ => by simp [rowsB] at h
  | e :: es, (x, d) :: ps, h, hh => by
    obtain ⟨eh, ek, ev⟩ := e
    unfold rowsB at h
    cases ek with
    | str y t =>
      obtain ⟨h1, h2⟩ := Bool.and_eq_true_iff.mp h
      obtain ⟨h3, h4⟩ := Bool.and_eq_true_iff.mp h2
      have e1 : y = x := of_decide_eq_true h1
      subst e1
      obtain ⟨v, r, q⟩ := datB_ok d h3
      simp only [List.map_cons, List.cons.injEq] at hh
      exact .cons hh.1 r q (rowsB_ok h4 hh.2)
    | _ => cases h
/-- rows by tuples of texts -/
def rowsT (K : Frag) : List DictEntry → List (List Str × PyData) → Bool
  | [], [] => true
  | e :: es, (xs, d) :: ps => (match tupItems K e.key with
    | some us => decide (strsOf us = some xs) && (datB K d e.val && rowsT K es ps)
    | none => false)
  | _, _ => false
/-- the rows of a module's table by tuples -/
inductive TabT (K : Frag) (w : World) : List DictEntry → List (List Str × PyData) → Prop
  | nil : TabT K w [] []
  | cons {h : Int} {a : Addr} {xs : List Str} {od : Option Addr} {us : List Value} {n : Nat} {sl : Array (Option Value)} {u : Value} {v : V} {d : PyData} {es : List DictEntry} {ps : List (List Str × PyData)} : h = reduceHash (Builtin.Tuple.tupleHashOf (xs.map (hashStr w))) → K.lookup a = some ⟨.type "tuple", od, .seq ⟨us⟩ n, sl⟩ → strsOf us = some xs →
      RelV v u → (∀ F, Rp K F v d) → TabT K w es ps → TabT K w (⟨h, .ref a, u⟩ :: es) ((xs, d) :: ps)
/-- a module's table by tuples of texts -/
structure KTabT (K : Frag) (w : World) (d : Addr) (tbl : List (List Str × PyData)) : Prop where
  ex : ∃ es n, K.lookup d = some ⟨.type "dict", none, .dict ⟨es⟩ n, #[]⟩ ∧ (d == sysModules) = false ∧ TabT K w es tbl
  nd : (tbl.map (·.1)).Nodup
end TB
/-! E11 -/
noncomputable section
namespace TB
open PySem PySem.Spec PyProof.Rows L2 BX He
/-! ### defs -/
def dflOk (K : Frag) (dV : Value) : Option Int → Bool
  | none => (match dV with
    | .none => true
    | _ => false)
  | some i => (match dV with
    | .ref T => (match K.lookup T with
      | some ⟨_, _, .seq its _, _⟩ => (match its.toList with
        | [.int j _] => decide (j = i)
        | _ => false)
      | _ => false)
    | _ => false)
def dfB (K : Frag) (q : Str × Stmt × Option Int) : Bool := eqO (PySem.W.nsIn K mainGlobals q.1) (some (some (.ref (ga K q.1)))) && (PySem.W.keepIn K (.ref (ga K q.1)) && match K.lookup (ga K q.1) with
  | some ⟨_, _, .func fd, _⟩ => PySem.W.codeIn K fd.code q.1 && dflOk K fd.defaults q.2.2
  | _ => false)
def dfV (q : Str × Stmt × Option Int) : FnW := some (q.1, q.1, defArgs q.2.1, .stmts (defBody q.2.1), defScope q.2.1, mainGlobals, [], builtinsNs)
section
variable {K : Frag} {h : Heap} {mg : Str → Option Value}
theorem dfB_ok {q : Str × Stmt × Option Int} (X : K.In h) (G : h.Ns mainGlobals mg) (c : dfB K q = true) (e : fnW K (q.1, none) = dfV q) :
    ∃ oc od dV kV doc pm an cdv ct osl, mg q.1 = some (.ref (ga K q.1)) ∧ K.lookup (ga K q.1) = some ⟨oc, od, .func (PySem.W.fnOf q.1 q.1 (defArgs q.2.1) (defBody q.2.1) (defScope q.2.1) dV kV doc pm an cdv ct), osl⟩ ∧ PySem.W.codeIn K cdv q.1 = true ∧ PySem.W.keepIn K (.ref (ga K q.1)) = true ∧ dflOk K dV q.2.2 = true := by
  obtain ⟨c1, c⟩ := ba c
  obtain ⟨c2, c3⟩ := ba c
  have g := PySem.W.mg_of X G (eqO_ok c1)
  unfold fnW at e
  have ef : fAd K (q.1, none) = ga K q.1 := rfl
  rw [ef] at e
  cases l : K.lookup (ga K q.1) with
  | none =>
    rw [l] at c3
    cases c3
  | some o =>
    obtain ⟨oc, od, dt, osl⟩ := o
    rw [l] at c3 e
    cases dt with
    | func fd =>
      obtain ⟨n1, n2, n3, n4, n5, n6, n7, n8, n9, n10, n11, n12, n13, n14, n15⟩ := fd
      have e2 : (some (n1, n2, n3, n4, n5, n6, n7, n15) : FnW) = some (q.1, q.1, defArgs q.2.1, .stmts (defBody q.2.1), defScope q.2.1, mainGlobals, [], builtinsNs) := e
      simp only [Option.some.injEq, Prod.mk.injEq] at e2
      obtain ⟨h1, h2, h3, h4, h5, h6, h7, h8⟩ := e2
      subst h1 h2 h3 h4 h5 h6 h7 h8
      obtain ⟨k1, k2⟩ := ba c3
      exact ⟨oc, od, n8, n9, n10, n11, n12, n13, n14, osl, g, rfl, k1, c2, k2⟩
    | _ => cases c3
theorem def_at {x : Str} {st : Stmt} {ps : List Str} (X : K.In h) (G : h.Ns mainGlobals mg) (c : dfB K (x, st, none) = true) (e : fnW K (x, none) = dfV (x, st, none))
    (b : ∀ (kV doc pm : Value) (an : Option Addr) (cdv ct : Value) (us : List Value), us.length = ps.length → bindArgs (PySem.W.fnOf x x (defArgs st) (defBody st) (defScope st) .none kV doc pm an cdv ct) ⟨us, []⟩ = pure (ps.zip us)) : ∃ fd, DefAt K mg x st ps (ga K x) fd := by
  obtain ⟨oc, od, dV, kV, doc, pm, an, cdv, ct, osl, g, l, k1, k2, k3⟩ := dfB_ok X G c e
  unfold dflOk at k3
  cases dV with
  | none => exact ⟨_, fun_mk l k1 k2, g, b kV doc pm an cdv ct, eqO_ok (ba c).1⟩
  | _ => cases k3
theorem def_atV {x : Str} {st : Stmt} {ps : List Str} {i : Int} (X : K.In h) (G : h.Ns mainGlobals mg) (c : dfB K (x, st, some i) = true) (e : fnW K (x, none) = dfV (x, st, some i))
    (b : ∀ (t : Tok) (T : Addr) (kV doc pm : Value) (an : Option Addr) (cdv ct : Value) (us : List Value), (us ++ [Value.int i t]).length = ps.length → ∃ k, bindArgs (PySem.W.fnOf x x (defArgs st) (defBody st) (defScope st) (.ref T) kV doc pm an cdv ct) ⟨us, []⟩ = seqItems? (.ref T) >>= k ∧ k (some ⟨[.int i t]⟩) = pure (ps.zip (us ++ [.int i t]))) : ∃ fd, DefAtV K mg x st ps i (ga K x) fd := by
  obtain ⟨oc, od, dV, kV, doc, pm, an, cdv, ct, osl, g, l, k1, k2, k3⟩ := dfB_ok X G c e
  unfold dflOk at k3
  cases dV with
  | ref T =>
    dsimp only at k3
    cases lt : K.lookup T with
    | none => rw [lt] at k3; cases k3
    | some o =>
      obtain ⟨oc2, od2, dt2, sl2⟩ := o
      rw [lt] at k3
      cases dt2 with
      | seq its m =>
        obtain ⟨its⟩ := its
        dsimp only at k3
        cases its with
        | nil => cases k3
        | cons u r =>
          cases u with
          | int j t =>
            cases r with
            | cons _ _ => cases k3
            | nil =>
              have ej : j = i := of_decide_eq_true k3
              subst ej
              refine ⟨_, ⟨⟨_, _, _, _, _, _, _, _, _, _, rfl, l, k1⟩, k2⟩, g, t, fun s us Y hl => ?_⟩
              obtain ⟨k, e1, e2⟩ := b t T kV doc pm an cdv ct us hl
              refine L2.BindsTo.of_looks fun M => ?_
              rw [e1]
              exact looks_items Y lt rfl (.of_pure e2)
          | _ => cases k3
      | _ => cases k3
  | _ => cases k3
end
/-! ### error classes -/
def exObj (K : Frag) (C : Addr) : Bool := match K.lookup C with
  | some ⟨.type t, _, .cls cd, sl⟩ => (match cd.mro, sl.toList with
    | .ref C' :: bm, [_, _, _, _, some (.builtin n), _] => decide (t = "type") && (Nat.beq C' C && (decide (n = "ValueError.__new__") && (!cd.hasDel && (cd.hasDict && PySem.HandSPX.refsVE bm))))
    | _, _ => false)
  | _ => false
theorem exObj_ok {K : Frag} {C : Addr} (h : exObj K C = true) : ∃ nm q N bs bm sn sub ab col dd k0 k1 k2 k3 k5, K.lookup C = some (excClassObj nm q C N bs bm true sn sub ab col dd k0 k1 k2 k3 k5 "ValueError.__new__") ∧ PySem.HandSPX.refsVE bm = true := by
  unfold exObj at h
  split at h
  · rename_i t dd cd sl ho
    split at h
    · rename_i C' bm k0 k1 k2 k3 n k5 hm hs
      simp only [Bool.and_eq_true, decide_eq_true_eq, Bool.not_eq_true'] at h
      obtain ⟨rfl, hC, rfl, hdel, hd, hv⟩ := h
      have eC : C' = C := Nat.eq_of_beq_eq_true hC
      subst eC
      obtain ⟨nm, bs, mro, ns, qn, hd', sn, sub, ab, col, del⟩ := cd
      dsimp only at hm hdel hd
      subst hm hdel hd
      obtain ⟨l⟩ := sl
      have hs : l = _ := hs
      subst hs
      exact ⟨nm, qn, ns, bs, bm, sn, sub, ab, col, dd, k0, k1, k2, k3, k5, ho, hv⟩
    · cases h
  · cases h
def optB (a : Option Bool) (b : Bool) : Bool := match a with
  | some c => decide (c = b)
  | none => false
theorem optB_ok {a : Option Bool} {b : Bool} (h : optB a b = true) : a = some b := by
  unfold optB at h
  cases a with
  | none => cases h
  | some c => exact congrArg some (of_decide_eq_true h)
def tyB (a : Option Value) (n : String) : Bool := match a with
  | some (.type m) => decide (m = n)
  | _ => false
theorem tyB_ok {a : Option Value} {n : String} (h : tyB a n = true) : a = some (.type n) := by
  unfold tyB at h
  cases a with
  | none => cases h
  | some v =>
    cases v with
    | type m => exact congrArg (fun z => some (Value.type z)) (of_decide_eq_true h)
    | _ => cases h
def bltB (a : Option (Option Value)) (n : String) : Bool := match a with
  | some (some (.builtin m)) => decide (m = n)
  | _ => false
theorem bltB_ok {a : Option (Option Value)} {n : String} (h : bltB a n = true) : a = some (some (.builtin n)) := by
  unfold bltB at h
  cases a with
  | none => cases h
  | some v =>
    cases v with
    | none => cases h
    | some v =>
      cases v with
      | builtin m => exact congrArg (fun z => some (some (Value.builtin z))) (of_decide_eq_true h)
      | _ => cases h
def noB (a : Option (Option Value)) : Bool := match a with
  | some none => true
  | _ => false
theorem noB_ok {a : Option (Option Value)} (h : noB a = true) : a = some none := by
  unfold noB at h
  cases a with
  | none => cases h
  | some v =>
    cases v with
    | none => rfl
    | some _ => cases h
def iniOf (K : Frag) (x : Str) : Addr := ma K (ga K x) "__init__"
def erB (K : Frag) (q : Str × Str × Stmt) : Bool := [
  eqO (PySem.W.nsIn K mainGlobals q.1) (some (some (.ref (ga K q.1)))),
  exObj K (ga K q.1),
  bltB (PySem.W.findIn K (.ref (ga K q.1)) "__setattr__") "object.__setattr__",
  optB (PySem.W.subIn K (.ref (ga K q.1)) (.type "BaseException")) true,
  tyB (PySem.W.typeIn K (.ref (ga K q.1))) "type",
  PySem.W.keepIn K (.ref (ga K q.1)),
  noB (PySem.W.findIn K (.ref (ga K q.1)) "told"),
  eqO (PySem.W.findIn K (.ref (ga K q.1)) "__init__") (some (some (.ref (iniOf K q.1)))),
  tyB (PySem.W.typeIn K (.ref (iniOf K q.1))) "function",
  bltB (PySem.W.findIn K (.ref (ga K q.1)) "__getattribute__") "BaseException.__getattribute__",
  noB (PySem.W.findIn K (.ref (ga K q.1)) "__getattr__"),
  PySem.W.hasDictIn K (ga K q.1),
  PySem.W.isClsIn K (ga K q.1),
  bltB (PySem.W.findIn K (.ref (ga K q.1)) "__class__") "object.__class__",
  bltB (PySem.W.specialIn K (.builtin "object.__class__") "__get__") "getset_descriptor.__get__",
  optB (PySem.W.takesIn K (.builtin "object.__class__")) true,
  optB (PySem.W.mroIn K (ga K q.1) (.type "object")) true,
  PySem.W.keepIn K (.ref (iniOf K q.1)),
  (match K.lookup (iniOf K q.1) with
    | some ⟨_, _, .func fd, _⟩ => PySem.W.codeIn K fd.code q.2.1 && dflOk K fd.defaults none
    | _ => false)].all id
def erV (q : Str × Str × Stmt) : FnW := some (("__init__" : Str), q.2.1, defArgs q.2.2, .stmts (defBody q.2.2), defScope q.2.2, mainGlobals, [], builtinsNs)
def erW (K : Frag) (q : Str × Str × Stmt) : FnW := match K.lookup (iniOf K q.1) with
  | some ⟨_, _, .func fd, _⟩ => some (fd.name, fd.qualname, fd.params, fd.body, fd.scope, fd.globals, fd.closure, fd.builtins)
  | _ => none
section
variable {K : Frag} {h : Heap} {mg : Str → Option Value}
theorem err_at {x q : Str} {st : Stmt} (X : K.In h) (G : h.Ns mainGlobals mg) (c : erB K (x, q, st) = true) (e : erW K (x, q, st) = erV (x, q, st)) (S : FnScope ["self", "told"] ["self", "told"] (defScope st))
    (hb : ∃ p1 p2 p3 p4, defBody st = [.Assign [.Attribute (.Name "self" p1) "told" p2] (.Name "told" p3) p4]) (v0 : Vis (defScope st) "self") (v1 : Vis (defScope st) "told")
    (ba2 : ∀ (kV doc pm : Value) (an : Option Addr) (cdv ct : Value) (us : List Value), us.length = 2 → bindArgs (PySem.W.fnOf "__init__" q (defArgs st) (defBody st) (defScope st) .none kV doc pm an cdv ct) ⟨us, []⟩ = pure ((["self", "told"] : List Str).zip us)) :
    ErrC K mg x (ga K x) (iniOf K x) ∧ ∀ (P : Program) (w : World) (base : Heap), IniOk P w K mg base (iniOf K x) "told" := by
  have c := List.all_eq_true.mp c
  have at_ : ∀ (i : Nat) (b : Bool), ([
    eqO (PySem.W.nsIn K mainGlobals x) (some (some (.ref (ga K x)))),
    exObj K (ga K x),
    bltB (PySem.W.findIn K (.ref (ga K x)) "__setattr__") "object.__setattr__",
    optB (PySem.W.subIn K (.ref (ga K x)) (.type "BaseException")) true,
    tyB (PySem.W.typeIn K (.ref (ga K x))) "type",
    PySem.W.keepIn K (.ref (ga K x)),
    noB (PySem.W.findIn K (.ref (ga K x)) "told"),
    eqO (PySem.W.findIn K (.ref (ga K x)) "__init__") (some (some (.ref (iniOf K x)))),
    tyB (PySem.W.typeIn K (.ref (iniOf K x))) "function",
    bltB (PySem.W.findIn K (.ref (ga K x)) "__getattribute__") "BaseException.__getattribute__",
    noB (PySem.W.findIn K (.ref (ga K x)) "__getattr__"),
    PySem.W.hasDictIn K (ga K x),
    PySem.W.isClsIn K (ga K x),
    bltB (PySem.W.findIn K (.ref (ga K x)) "__class__") "object.__class__",
    bltB (PySem.W.specialIn K (.builtin "object.__class__") "__get__") "getset_descriptor.__get__",
    optB (PySem.W.takesIn K (.builtin "object.__class__")) true,
    optB (PySem.W.mroIn K (ga K x) (.type "object")) true,
    PySem.W.keepIn K (.ref (iniOf K x)),
    (match K.lookup (iniOf K x) with
      | some ⟨_, _, .func fd, _⟩ => PySem.W.codeIn K fd.code q && dflOk K fd.defaults none
      | _ => false)] : List Bool)[i]? = some b → b = true := fun i b hb => c b (List.mem_of_getElem? hb)
  have last := at_ 18 _ rfl
  unfold erW at e
  cases l : K.lookup (iniOf K x) with
  | none =>
    rw [l] at last
    cases last
  | some o =>
    obtain ⟨oc, od, dt, osl⟩ := o
    rw [l] at last e
    cases dt with
    | func fd =>
      obtain ⟨n1, n2, n3, n4, n5, n6, n7, n8, n9, n10, n11, n12, n13, n14, n15⟩ := fd
      have e2 : (some (n1, n2, n3, n4, n5, n6, n7, n15) : FnW) = some (("__init__" : Str), q, defArgs st, .stmts (defBody st), defScope st, mainGlobals, [], builtinsNs) := e
      simp only [Option.some.injEq, Prod.mk.injEq] at e2
      obtain ⟨h1, h2, h3, h4, h5, h6, h7, h8⟩ := e2
      subst h1 h2 h3 h4 h5 h6 h7 h8
      obtain ⟨k1, k2⟩ := ba last
      unfold dflOk at k2
      cases n8 with
      | none =>
        have F : Fun K "__init__" _ st (iniOf K x) _ := fun_mk l k1 (at_ 17 _ rfl)
        have b := F.binds (ps := ["self", "told"]) fun kV doc pm an cdv ct us e => ba2 kV doc pm an cdv ct us e
        obtain ⟨p1, p2, p3, p4, hb⟩ := hb
        exact ⟨⟨PySem.W.mg_of X G (eqO_ok (at_ 0 _ rfl)), ⟨exObj_ok (at_ 1 _ rfl), bltB_ok (at_ 2 _ rfl), optB_ok (at_ 3 _ rfl), tyB_ok (at_ 4 _ rfl), at_ 5 _ rfl⟩, noB_ok (at_ 6 _ rfl), eqO_ok (at_ 7 _ rfl), tyB_ok (at_ 8 _ rfl), bltB_ok (at_ 9 _ rfl), noB_ok (at_ 10 _ rfl), at_ 11 _ rfl, at_ 12 _ rfl,
          bltB_ok (at_ 13 _ rfl), bltB_ok (at_ 14 _ rfl), optB_ok (at_ 15 _ rfl), optB_ok (at_ 16 _ rfl)⟩, fun P w base => ⟨_, keep_ok F S hb v0 v1, b⟩⟩
      | _ => cases k2
    | _ => cases last
end
/-! ### error classes over OverflowError, with two fields -/
def exObj2 (K : Frag) (C : Addr) : Bool := match K.lookup C with
  | some ⟨.type t, _, .cls cd, sl⟩ => (match cd.mro, sl.toList with
    | .ref C' :: bm, [_, _, _, _, some (.builtin n), _] => decide (t = "type") && (Nat.beq C' C && (decide (n = "OverflowError.__new__") && (!cd.hasDel && (cd.hasDict && PySem.W.excTail ofTail bm))))
    | _, _ => false)
  | _ => false
/-- q: the class, its __init__'s name, its text, the two fields, the parameter -/
def erB2 (K : Frag) (q : Str × Str × Stmt × Str × Str × Str) : Bool := [
  eqO (PySem.W.nsIn K mainGlobals q.1) (some (some (.ref (ga K q.1)))),
  exObj2 K (ga K q.1),
  bltB (PySem.W.findIn K (.ref (ga K q.1)) "__setattr__") "object.__setattr__",
  optB (PySem.W.subIn K (.ref (ga K q.1)) (.type "BaseException")) true,
  tyB (PySem.W.typeIn K (.ref (ga K q.1))) "type",
  PySem.W.keepIn K (.ref (ga K q.1)),
  noB (PySem.W.findIn K (.ref (ga K q.1)) q.2.2.2.1),
  eqO (PySem.W.findIn K (.ref (ga K q.1)) "__init__") (some (some (.ref (iniOf K q.1)))),
  tyB (PySem.W.typeIn K (.ref (iniOf K q.1))) "function",
  bltB (PySem.W.findIn K (.ref (ga K q.1)) "__getattribute__") "BaseException.__getattribute__",
  noB (PySem.W.findIn K (.ref (ga K q.1)) "__getattr__"),
  PySem.W.hasDictIn K (ga K q.1),
  PySem.W.isClsIn K (ga K q.1),
  bltB (PySem.W.findIn K (.ref (ga K q.1)) "__class__") "object.__class__",
  bltB (PySem.W.specialIn K (.builtin "object.__class__") "__get__") "getset_descriptor.__get__",
  optB (PySem.W.takesIn K (.builtin "object.__class__")) true,
  optB (PySem.W.mroIn K (ga K q.1) (.type "object")) true,
  PySem.W.keepIn K (.ref (iniOf K q.1)),
  (match K.lookup (iniOf K q.1) with
    | some ⟨_, _, .func fd, _⟩ => PySem.W.codeIn K fd.code q.2.1 && dflOk K fd.defaults none
    | _ => false),
  noB (PySem.W.findIn K (.ref (ga K q.1)) q.2.2.2.2.1)].all id
def erV2 (q : Str × Str × Stmt × Str × Str × Str) : FnW := some (("__init__" : Str), q.2.1, defArgs q.2.2.1, .stmts (defBody q.2.2.1), defScope q.2.2.1, mainGlobals, [], builtinsNs)
def erW2 (K : Frag) (q : Str × Str × Stmt × Str × Str × Str) : FnW := match K.lookup (iniOf K q.1) with
  | some ⟨_, _, .func fd, _⟩ => some (fd.name, fd.qualname, fd.params, fd.body, fd.scope, fd.globals, fd.closure, fd.builtins)
  | _ => none
/-- its __init__ -/
def IniOk2 (P : Program) (w : World) (K : Frag) (mg : Str → Option Value) (base : Heap) (fI : Addr) (m f g : Str) : Prop := ∃ fd : FuncData, FnOk P w K mg base (L2.CX P w) 1 fI fd ["self", m] (spKeep2 K f g) ∧ Binds K fd ["self", m] []
section
variable {K : Frag} {h : Heap} {mg : Str → Option Value}
end
/-! ### classes beside classes -/
def apB (K : Frag) (cs : List Str) : Bool := cs.all fun x => eqO (PySem.W.nsIn K mainGlobals x) (some (some (.ref (ga K x)))) && cs.all fun y => optB (PySem.W.exmOne K (.ref (ga K x)) (.ref (ga K y))) (decide (x = y))
theorem apart_at {K : Frag} {h : Heap} {mg : Str → Option Value} {cs : List Str} (X : K.In h) (G : h.Ns mainGlobals mg) (c : apB K cs = true) : ApartX K mg cs := fun x hx y hy u v eu ev => by
  obtain ⟨a1, a2⟩ := ba (List.all_eq_true.mp c x hx)
  obtain ⟨b1, _⟩ := ba (List.all_eq_true.mp c y hy)
  rw [PySem.W.mg_of X G (eqO_ok a1)] at eu
  rw [PySem.W.mg_of X G (eqO_ok b1)] at ev
  cases eu
  cases ev
  exact optB_ok (List.all_eq_true.mp a2 y hy)
def isB (K : Frag) (q : Str × Str × Bool) : Bool := eqO (PySem.W.nsIn K mainGlobals q.2.1) (some (some (.ref (ga K q.2.1)))) && optB (PySem.W.kitOne K (.ref (ga K q.1)) (.ref (ga K q.2.1))) q.2.2
end TB
/-! DT -/
/-! the law's own call, tables of code objects tracked -/
namespace BX
open PySem PySem.Spec L2
/-- what is asked of the tables at the start -/
structure TabsAt (K : PySem.W.Frag) (h : Heap) : Prop where
  emp : ∀ p ∈ tabsC K, h.get? p.2.1 = some { cls := .none, data := .fields #[] }
  out : ∀ p ∈ tabsC K, K.lookup p.2.1 = none
  hd : ∀ p ∈ tabsC K, PySem.W.CodeHd h p.1 p.2.1
  un : ∀ p ∈ tabsC K, ∀ r ∈ tabsC K, p.2.1 = r.2.1 → p.2.2 = r.2.2
structure LamB (K : PySem.W.Frag) (mg : Str → Option Value) (base : Heap) : Prop where
  tb : ∀ p ∈ tabsC K, LamX.TabB base mg p.1 p.2.1
  un : ∀ p ∈ tabsC K, ∀ r ∈ tabsC K, p.2.1 = r.2.1 → p.2.2 = r.2.2
theorem lawT {P : Program} {w : World} {K : PySem.W.Frag} {mg mb : Str → Option Value} {k : Nat} {fa a : Addr} {fd : FuncData} {x : Str} {sp : Sp} {s : Shared} {vs : List Value} {ns : List Int} (inK : K.In s.heap) (nsG : s.heap.Ns mainGlobals mg) (nsB : s.heap.Ns builtinsNs mb) (boot : ∀ y : Str, y ≠ "__name__" → mb y = bootBuiltins y)
    (lim : s.heap.NoLimit) (gens : s.gens = #[]) (T : TabsAt K s.heap) (bmain : ∃ (bm : Addr) (ob : Obj), mg "__builtins__" = some (.ref bm) ∧ bm ≠ builtinsNs ∧ s.heap.get? bm = some ob ∧ ob.cls = .type "module" ∧ ob.dict = some builtinsNs ∧ ob.data = .plain)
    (ha : s.heap.get? a = some { cls := .type "list", data := .seq vs.toArray }) (hi : PyProof.Rows.IntsAre vs ns) (hl : ns.length ≤ sizeLine) (room : Room k callerA)
    (F : ∀ base : Heap, K.In base → base.Ns mainGlobals mg → LamB K mg base → FnG P w K mg base k fa fd [x] sp) (bind : ∀ (t : Shared) (u : Value), BindsTo t fd ⟨[u], []⟩ [(x, u)])
    (pr : ∀ H : Hp, SqL K H a (ns.map V.int) → LamX.Tabs (tabsK K) H → sp [.ref a] H (fun v _ => v = .bl true) fun _ _ _ => False) :
    codeAny (model P w) callerA (.call (.ref fa) ⟨[.ref a], []⟩) (fun r t => r = .ok (.ret (.bool true)) ∧ OldK s.heap t.heap ∧ t.os = s.os ∧ PyProof.Rows.AllBare t.gens) s := by
  have rel := vals_ints hi
  have hlen := hi.length
  let Ps : List Addr := (tabsC K).map (·.2.1)
  let script : HO := .frz { cls := .type "list", data := .seq vs.toArray } (.lst (ns.map V.int))
  have tabAtP : ∀ b ∈ Ps, s.heap.get? b = some { cls := .none, data := .fields #[] } := fun b hb => by
    obtain ⟨p, hp, e⟩ := List.mem_map.mp hb
    rw [← e]; exact T.emp p hp
  have aOut : a ∉ Ps := fun z => by
    have q := tabAtP a z
    rw [ha] at q
    cases q
  have main : ∀ H : Hp, (∀ b o, H b = some o → (b = a ∧ o = script) ∨ (b ∈ Ps ∧ o = .tbl #[])) → (∀ b ∈ Ps, H b = some (.tbl #[])) → ((∃ o, H a = some o) → K.lookup a = none) → SqL K H a (ns.map V.int) → HOk P w H s.heap →
      codeAny (model P w) callerA (.call (.ref fa) ⟨[.ref a], []⟩) (fun r t => r = .ok (.ret (.bool true)) ∧ OldK s.heap t.heap ∧ t.os = s.os ∧ PyProof.Rows.AllBare t.gens) s := by
    intro H only tabs apart sq hok
    have free : ∀ {b : Addr} {o : Obj}, s.heap.get? b = some o → (∀ us n, o.data ≠ .seq us n) → o.data ≠ .fields #[] → H b = none := by
      intro b o e n1 n2
      cases q : H b with
      | none => rfl
      | some u =>
        rcases only b u q with ⟨e1, _⟩ | ⟨e1, _⟩
        · rw [e1, ha] at e
          cases e
          exact absurd rfl (n1 _ _)
        · rw [tabAtP b e1] at e
          cases e
          exact absurd rfl n2
    have dicts : ∀ {b : Addr} {o : Obj} {es : Array DictEntry} {ep : Nat}, s.heap.get? b = some o → o.data = .dict es ep → H b = none := by
      intro b o es ep q1 q2
      refine free q1 (fun us n z => ?_) fun z => ?_ <;> (rw [q2] at z; cases z)
    have spaces : ∀ {b : Addr} {m : Str → Option Value}, s.heap.Ns b m → (hidT s.heap H).Ns b m := by
      rintro b m ⟨o, es, ep, q1, q2, q3⟩
      exact ⟨o, es, ep, hidT_get q1 (dicts q1 q2), q2, q3⟩
    have kin : K.In (hidT s.heap H) := by
      intro b o q
      refine hidT_get (inK b o q) ?_
      cases q2 : H b with
      | none => rfl
      | some u =>
        rcases only b u q2 with ⟨hb, _⟩ | ⟨hb, _⟩
        · subst hb
          rw [apart ⟨u, q2⟩] at q
          cases q
        · obtain ⟨p, hp, e⟩ := List.mem_map.mp hb
          rw [← e, T.out p hp] at q
          cases q
    have hMod : Mod K mg (hidT s.heap H) := by
      obtain ⟨mc, l1, l2⟩ := lim
      exact ⟨kin, spaces nsG, ⟨mb, spaces nsB, boot⟩, ⟨mc, spaces l1, l2⟩⟩
    have lamB : LamB K mg (hidT s.heap H) := by
      refine ⟨fun p hp => ?_, T.un⟩
      have tp := T.emp p hp
      refine ⟨?_, ?_, fun z => ?_⟩
      · obtain ⟨o, us, file, tf, flags, tg, inF, text, tt, e1, r1, r2, r3, more⟩ := T.hd p hp
        refine ⟨o, us, file, tf, flags, tg, inF, text, tt, hidT_get e1 (free e1 (fun ws n z => ?_) fun z => ?_), r1, r2, r3, more⟩
        · rw [r2] at z; cases z
        · rw [r2] at z
          cases z
          simp at r3
      · obtain ⟨bm, ob, b1, b2, b3, b4, b5, b6⟩ := bmain
        refine ⟨bm, ob, b1, b2, fun q => ?_, fun q => ?_, hidT_get b3 (free b3 (fun ws n z => ?_) fun z => ?_), b4, b5, b6⟩
        · obtain ⟨o, es, ep, e, hd, _⟩ := nsG
          rw [q, e] at b3
          cases b3
          rw [hd] at b6
          cases b6
        · rw [q, tp] at b3
          cases b3
          cases b6
        · rw [b6] at z; cases z
        · rw [b6] at z; cases z
      · obtain ⟨o, es, ep, e, hd, _⟩ := nsG
        rw [z, tp] at e
        cases e
        cases hd
    have tabsH : LamX.Tabs (tabsK K) H := fun q hq => by
      obtain ⟨p, hp, e⟩ := List.mem_map.mp hq
      subst e
      exact .nil (tabs _ (List.mem_map_of_mem hp))
    have env : Env0 P w K mg (hidT s.heap H) callerA [] s H :=
      { frames := rfl, mod := hMod, bs := fun b o q => of_hidT q, bsz := Nat.le_of_eq (hidT_size s.heap H), funs := True.intro, frf := (fun b z => by cases z), hok := hok, bare := .of_eq gens }
    have go := (F _ kin (spaces nsG) lamB).run callerA rfl room [] s H env ⟨[.ref a], []⟩ [.ref a] [.ref a] (bind s (.ref a)) (.cons rfl .nil) (fun v _ => v = .bl true) (fun _ _ _ => False) (pr H sq tabsH)
    refine codeAny_mono go ?_
    intro r t q
    match r, q with
    | .error er, q =>
      obtain ⟨_, _, _, _, _, _, _, _, _, _, _, _, z⟩ := q
      exact z.elim
    | .ok (.ret u), q =>
      obtain ⟨v, G, q1, q2, un, q3, q4, q5⟩ := q
      have q5 : v = .bl true := q5
      subst q5
      have q4 : u = Value.bool true := q4
      subst q4
      have same : ∀ b o, b ∉ Ps → s.heap.get? b = some o → t.heap.get? b = some o := by
        intro b o nb e
        cases z : H b with
        | none => exact un.keep b o e z (fun y => by cases y) (fun y => by cases y)
        | some u =>
          rcases only b u z with ⟨e1, e2⟩ | ⟨e1, _⟩
          · subst e1
            subst e2
            rw [ha] at e
            cases e
            exact (q3 b _ (un.frzs b _ _ z)).1
          · exact absurd e1 nb
      have grown : ∀ p ∈ tabsC K, ∃ more : Array Value, t.heap.get? p.2.1 = some { cls := .none, data := .fields more } := by
        intro p hp
        obtain ⟨more, z⟩ := un.tbls p.2.1 #[] (tabs _ (List.mem_map_of_mem hp))
        exact ⟨_, q3 _ _ z⟩
      refine ⟨rfl, ⟨fun b o e => ?_, fun b o e => ?_⟩, q1, q2⟩
      · by_cases hb : b ∈ Ps
        · obtain ⟨p, hp, ep⟩ := List.mem_map.mp hb
          obtain ⟨more, hm⟩ := grown p hp
          subst ep
          rw [T.emp p hp] at e
          cases e
          exact .inr (.inl ⟨((T.hd p hp).tab (T.emp p hp)).isCodeTable, rfl, #[], more, rfl, by rw [Array.empty_append]; exact hm⟩)
        · exact .inl (same b o hb e)
      · by_cases hb : b ∈ Ps
        · obtain ⟨p, hp, ep⟩ := List.mem_map.mp hb
          obtain ⟨more, hm⟩ := grown p hp
          subst ep
          exact ⟨_, hm⟩
        · exact ⟨o, same b o hb e⟩
  let H0 : Hp := fun b => if b ∈ Ps then some (.tbl #[]) else none
  have h0 : ∀ b o, H0 b = some o → b ∈ Ps ∧ o = .tbl #[] := fun b o z => by
    by_cases hb : b ∈ Ps
    · have z : (if b ∈ Ps then some (HO.tbl #[]) else none) = some o := z
      rw [if_pos hb] at z
      cases z
      exact ⟨hb, rfl⟩
    · have z : (if b ∈ Ps then some (HO.tbl #[]) else none) = some o := z
      rw [if_neg hb] at z
      cases z
  have h1 : ∀ b ∈ Ps, H0 b = some (.tbl #[]) := fun b hb => if_pos hb
  have h2 : H0 a = none := if_neg aOut
  cases hk : K.lookup a with
  | some o =>
    have e := inK a o hk
    rw [ha] at e
    cases e
    refine main H0 (fun b o z => .inr (h0 b o z)) h1 (fun ⟨o, z⟩ => by rw [h2] at z; cases z) (.inr ⟨_, vs.toArray, _, hk, rfl, rfl, rfl, ?_, ?_⟩) (fun b o z => ?_)
    · rw [List.size_toArray, hlen]
      exact hl
    · rw [List.toList_toArray]
      exact rel
    · obtain ⟨hb, e⟩ := h0 b o z
      subst e
      exact tabAtP b hb
  | none =>
    refine main (upd H0 a script) (fun b o z => ?_) (fun b hb => ?_) (fun _ => hk) (.inl (.inr ⟨{ cls := .type "list", data := .seq vs.toArray }, upd_same⟩)) (fun b o z => ?_)
    · by_cases hb : b = a
      · subst hb
        rw [upd_same] at z
        cases z
        exact .inl ⟨rfl, rfl⟩
      · rw [upd_ne hb] at z
        exact .inr (h0 b o z)
    · rw [upd_ne (fun z => aOut (by rw [← z]; exact hb))]
      exact h1 b hb
    · by_cases hb : b = a
      · subst hb
        rw [upd_same] at z
        cases z
        exact ⟨ha, by rw [List.length_map]; exact hl, vs, _, rel, ha⟩
      · rw [upd_ne hb] at z
        obtain ⟨hb, e⟩ := h0 b o z
        subst e
        exact tabAtP b hb
end BX
/-! D22 -/
/-! f(lambda: e): a lambda handed to a def of the text -/
namespace BX
open PySem PySem.Spec L2 PyProof.Rows
/-! ### the code object in the table -/
section
variable {X : Cx} {pins : List (Addr × Obj)} {σ : L2.St} {H : Hp} {s : Shared}
/-- what stands behind the making of a lambda: only the table at P has changed, and tells the code object -/
structure Made (T : List (Addr × Str)) (P : Addr) (pos : Pos) (c' : Addr) (H H1 : Hp) : Prop where
  rest : ∀ b o, b ≠ P → H b = some o → H1 b = some o
  tabs : LamX.Tabs T H1
  told : ∃ ps, H1 P = some (.tbl ps) ∧ TriplesOk ps.toList ∧ codeAmong pos ps.toList = some (.ref c')
theorem lam_made {T : List (Addr × Str)} {c P : Addr} {params : Arguments} {body : Expr} {scope : Scope} {pos : Pos} {E Q : Value → Shared → Prop} (I : Inv X pins σ H s) (TB : LamX.TabB X.base X.mg c P) (hc : X.env.code = .ref c) (hm : (P, X.env.qual ++ "<lambda>") ∈ T)
    (hu : ∀ p ∈ T, p.1 = P → p.2 = X.env.qual ++ "<lambda>") (hT : LamX.Tabs T H) (hd : defaultsOf params X.env = ([], [])) (hf : ∀ y ∈ scope.names, y.2 = .free → ∃ c, X.env.cells.lookup y.1 = some c)
    (go : ∀ (f c' : Addr) (pm ctv : Value) (H1 : Hp) (s1 : Shared), Inv X pins σ H1 s1 → Made T P pos c' H H1 →
      s1.heap.get? f = some (PySem.W.kla_obj "<lambda>" (X.env.qual ++ "<lambda>") params body scope (cloFrom X.env.cells scope.names []) pm c' ctv) → H1 f = none → f ∉ frs X.stack → s.heap.objs.size ≤ f → Q (.ref f) s1) :
    wpAny (model X.prog X.w) X.A (eval (.Lambda params body scope pos) X.env) Q E s := by
  obtain ⟨ps, hP, tr, all⟩ := hT _ hm
  have atP : s.heap.get? P = some { cls := .none, data := .fields ps } := I.hok P _ hP
  have off : ∀ {f : Addr}, s.heap.objs.size ≤ f → f ∉ frs X.stack := fun {f} hf z => by
    rcases List.mem_cons.mp (I.stkSub _ z) with e | e
    · have w := I.lt
      rw [← e] at w
      exact absurd hf (Nat.not_le_of_lt w)
    · exact I.nofs hf e
  refine PySem.W.kla_eval hd ?_
  cases hit : codeAmong pos ps.toList with
  | some cv =>
    obtain ⟨c', rfl, _⟩ := all pos cv hit
    refine PySem.W.kla_makeFunctionHit (mg := X.mg) (c := c) (P := P) (ps := ps) (closure_ok hf) I.ok.glob (I.mod.glob.keeps I.bk) hc (TB.code.keeps I.bk) atP tr hit (TB.bm.keeps I.bk) fun ctv h' tk grow sz => ?_
    exact go h'.objs.size c' _ ctv H _ (I.kept (t' := tk) fun b o e => Heap.get?_push_of_some _ (grow b o e)) ⟨fun _ _ _ e => e, hT, ps, hP, tr, hit⟩ (Heap.get?_push_size _ rfl) (I.hok.fresh sz) (off sz) sz
  | none =>
    refine PySem.W.kla_makeFunction (mg := X.mg) (c := c) (P := P) (ps := ps) (closure_ok hf) I.ok.glob (I.mod.glob.keeps I.bk) hc (TB.code.keeps I.bk) atP tr hit TB.gP (TB.bm.keeps I.bk) fun c' ctv h' tk ext big low rec tab => ?_
    obtain ⟨c2, oc, vs, t, e2, g1, g2, g3⟩ := rec
    cases e2
    have sz : s.heap.objs.size ≤ h'.objs.size := by omega
    have new : H c' = none := I.hok.fresh big
    have hne : P ≠ c' := ne_of_none hP new
    have J := LamX.inv_table (t' := tk) (more := #[rawInt pos.line, rawInt pos.col, .ref c']) (h' := h'.push (PySem.W.kla_obj "<lambda>" (X.env.qual ++ "<lambda>") params body scope (cloFrom X.env.cells scope.names []) ((X.mg "__name__").getD .none) c' ctv)) I hP
      (fun b o hb e => Heap.get?_push_of_some _ (ext b o hb e)) (Heap.get?_push_of_some _ tab) big ⟨oc, vs, t, Heap.get?_push_of_some _ g1, g2, g3⟩
    have flat : (ps ++ #[rawInt pos.line, rawInt pos.col, .ref c']).toList = ps.toList ++ [rawInt pos.line, rawInt pos.col, .ref c'] := by simp
    have rest : ∀ b o, b ≠ P → H b = some o → upd (upd H P (.tbl (ps ++ #[rawInt pos.line, rawInt pos.col, .ref c']))) c' (LamX.CodeO c' (X.env.qual ++ "<lambda>")) b = some o := fun b o hb e => by
      rw [upd_ne (ne_of_none e new), upd_ne hb]; exact e
    have atP1 : upd (upd H P (.tbl (ps ++ #[rawInt pos.line, rawInt pos.col, .ref c']))) c' (LamX.CodeO c' (X.env.qual ++ "<lambda>")) P = some (.tbl (ps ++ #[rawInt pos.line, rawInt pos.col, .ref c'])) := by rw [upd_ne hne, upd_same]
    have code_ne : ∀ {b : Addr} {q : Str}, H b = some (LamX.CodeO b q) → b ≠ P := fun {b q} e z => by
      rw [z, hP] at e
      exact LamX.codeO_ne ps (Option.some.inj e).symm
    have tabs : LamX.Tabs T (upd (upd H P (.tbl (ps ++ #[rawInt pos.line, rawInt pos.col, .ref c']))) c' (LamX.CodeO c' (X.env.qual ++ "<lambda>"))) := by
      intro p hp
      by_cases hb : p.1 = P
      · rw [hu p hp hb, hb]
        refine ⟨_, atP1, by rw [flat]; exact PySem.TriplesOk_snoc _ _ _ _ tr, fun pos' cv hcv => ?_⟩
        rw [flat] at hcv
        rcases LamX.among_app _ tr hcv with z | z
        · obtain ⟨d, q1, q2⟩ := all pos' cv z
          exact ⟨d, q1, rest _ _ (code_ne q2) q2⟩
        · exact ⟨c', z, upd_same⟩
      · obtain ⟨qs, q1, q2, q3⟩ := hT p hp
        refine ⟨qs, rest _ _ hb q1, q2, fun pos' cv hcv => ?_⟩
        obtain ⟨d, q4, q5⟩ := q3 pos' cv hcv
        exact ⟨d, q4, rest _ _ (code_ne q5) q5⟩
    refine go h'.objs.size c' _ ctv _ _ J ⟨rest, tabs, _, atP1, by rw [flat]; exact PySem.TriplesOk_snoc _ _ _ _ tr, by rw [flat]; exact codeAmong_snoc _ tr hit⟩ (Heap.get?_push_size _ rfl) ?_ (off sz) sz
    rw [upd_ne (Nat.ne_of_gt low), upd_ne (Nat.ne_of_gt (Nat.lt_of_lt_of_le (Heap.lt_size atP) sz))]
    exact I.hok.fresh sz
end
end BX
namespace BX
open PySem PySem.Spec L2 PyProof.Rows
/-! ### its reading -/
/-- only what is data -/
def onlyV : Ev → Ev
  | [] => []
  | .v d :: r => .v d :: onlyV r
  | .x o :: r => .x o :: onlyV r
  | _ :: r => .e :: onlyV r
theorem onlyV_len : ∀ {env : Ev}, (onlyV env).length = env.length
  | [] => rfl
  | s :: r => by cases s <;> exact congrArg (· + 1) onlyV_len
theorem onlyV_at : ∀ {env : Ev} {i : Nat} {s : Sl}, (onlyV env)[i]? = some s → (∃ d, s = .v d ∧ env[i]? = some (.v d)) ∨ (∃ o, s = .x o ∧ env[i]? = some (.x o)) ∨ s = .e
  | [], _, _, h => by simp [onlyV] at h
  | t :: r, 0, s, h => by
    cases t with
    | v d => cases h; exact .inl ⟨d, rfl, rfl⟩
    | x o => cases h; exact .inr (.inl ⟨o, rfl, rfl⟩)
    | _ => cases h; exact .inr (.inr rfl)
  | t :: r, i + 1, s, h => by
    have h : (onlyV r)[i]? = some s := by cases t <;> exact h
    have := onlyV_at h
    simpa using this
abbrev TL := (PyData → Prop) → (Ex → Prop) → Prop
abbrev SpL := TL → (PyData → Prop) → (Ex → Prop) → Prop
/-- a lambda's body, as data: in the slots of the def that made it -/
def lamT (te : DE) (env : Ev) : TL := fun K E => te (onlyV env) (fun d _ => K d) fun ex _ => E ex
/-- a(), where slot i holds the lambda -/
def dAct (o : XO) (i : Nat) (tl : TL) : DE := fun env Q R => env[i]? = some (.x o) ∧ ∃ (Kd : PyData → Prop) (Ed : Ex → Prop), tl Kd Ed ∧ (∀ d, Kd d → Q d env) ∧ ∀ ex, Ed ex → R ex env
/-- x(lambda: te) -/
def dLam (sp : SpL) (te : DE) : DE := fun env Q R => sp (lamT te env) (fun d => Q d env) fun ex => R ex env
def lamO (F : Hp) (f : Addr) : XO := ⟨f, fun _ F' => Le F F', fun l h => h.trans l⟩
section
variable {X : Cx} {pins : List (Addr × Obj)} {σ : L2.St} {H F : Hp} {s : Shared} {B : Base} {env : Ev}
/-- the maker's state behind the making -/
theorem Ly.made {K : PySem.W.Frag} {H1 : Hp} {P c' : Addr} {pos : Pos} (L : Ly K B σ H F env) (M : Made (tabsK K) P pos c' H H1) (hP : ∃ ps, H P = some (.tbl ps)) : Ly K B σ H1 F env := by
  obtain ⟨ps, hP⟩ := hP
  have nF : ∀ b o, F b = some o → b ≠ P := fun b o e z => by
    have h := L.sub b o e
    rw [z, hP] at h
    cases h
    exact L.tb.nt b ps e
  have nfr : ∀ b o, B.fr b = some o → b ≠ P := fun b o e z => by
    have h := L.keep b o e
    rw [z, hP] at h
    cases h
    exact L.tb.ft b ps e
  exact {
    len := L.len
    sub := fun b o e => M.rest b o (nF b o e) (L.sub b o e)
    ext := L.ext
    new := L.new
    keep := fun b o e => M.rest b o (nfr b o e) (L.keep b o e)
    tb := ⟨M.tabs, L.tb.nt, L.tb.ft, fun f ob fd c e q => by
      have k := L.tb.fn f ob fd c e q
      exact M.rest _ _ (fun z => by rw [z, hP] at k; exact LamX.codeO_ne ps (Option.some.inj k).symm) k⟩
    val := L.val
    rd := L.rd
    rol := L.rol
    xs := L.xs
    iof := L.iof
    own := fun i d e => by
      obtain ⟨a, h1, h2, h3, h4⟩ := L.own i d e
      obtain ⟨u, q1, q2, _⟩ := h4.nt
      have hne : a ≠ P := fun z => by
        rw [z, hP] at q1
        cases q1
        exact q2 ps rfl
      exact ⟨a, h1, h2, h3, h4.le (Le.refl _) (by rw [q1]; exact M.rest a u hne q1)⟩
    apart := L.apart }
/-- the state in which a lambda's body begins -/
theorem Ly.lam {K : PySem.W.Frag} {BZ : Base} {σZ : L2.St} {HZ FZ H1 : Hp} {envZ : Ev} (L : Ly K B σ H1 F env) (LZ : Ly K BZ σZ HZ FZ envZ) (le : Le F FZ) : Ly K ⟨FZ, less HZ [], less HZ [], fun _ => none⟩ σ HZ FZ (onlyV env) where
  len := by rw [onlyV_len]; exact L.len
  sub := LZ.sub
  ext := Le.refl _
  new := fun b o e => .inr e
  keep := fun b o e => less_le (H := HZ) (A := []) b o e
  tb := ⟨LZ.tb.tab, LZ.tb.nt, fun b ps => less_nt (H := HZ) (A := []) b ps, LZ.tb.fn⟩
  val := fun i d e => by
    rcases onlyV_at e with ⟨d', e1, e2⟩ | ⟨o, e1, _⟩ | e1
    · cases e1
      obtain ⟨x, q1, q2⟩ := L.val i d e2
      exact ⟨x, q1, q2.le le⟩
    · cases e1
    · cases e1
  rd := fun i ds e => by rcases onlyV_at e with ⟨d', e1, _⟩ | ⟨o', e1, _⟩ | e1 <;> cases e1
  rol := Le.refl _
  xs := fun i o e => by
    rcases onlyV_at e with ⟨d', e1, _⟩ | ⟨o', e1, e2⟩ | e1
    · cases e1
    · cases e1
      obtain ⟨q1, q2⟩ := L.xs i o e2
      exact ⟨q1, o.mono le q2⟩
    · cases e1
  iof := fun i d e => by rcases onlyV_at e with ⟨d', e1, _⟩ | ⟨o', e1, _⟩ | e1 <;> cases e1
  own := fun i d e => by
    exfalso
    unfold ow at e
    split at e
    · rename_i q; rcases onlyV_at q with ⟨d', e1, _⟩ | ⟨o', e1, _⟩ | e1 <;> cases e1
    · rename_i q; rcases onlyV_at q with ⟨d', e1, _⟩ | ⟨o', e1, _⟩ | e1 <;> cases e1
    · cases e
  apart := fun i j a d d' e => by
    exfalso
    unfold ow at e
    split at e
    · rename_i q; rcases onlyV_at q with ⟨d', e1, _⟩ | ⟨o', e1, _⟩ | e1 <;> cases e1
    · rename_i q; rcases onlyV_at q with ⟨d', e1, _⟩ | ⟨o', e1, _⟩ | e1 <;> cases e1
    · cases e
end
end BX
namespace BX
open PySem PySem.Spec L2 PyProof.Rows
/-- a def that makes lambdas: its code object, with its table -/
structure LamAt (K : PySem.W.Frag) (mg : Str → Option Value) (base : Heap) (x : Str) (cdv : Value) : Prop where
  at_ : ∃ c P, cdv = .ref c ∧ LamX.TabB base mg c P ∧ (P, x ++ ".<locals>." ++ "<lambda>") ∈ tabsK K ∧ ∀ p ∈ tabsK K, p.1 = P → p.2 = x ++ ".<locals>." ++ "<lambda>"
theorem tabAt_ok {K : PySem.W.Frag} {x : Str} {t : Addr × Addr × Str} (h : tabAt K x = some t) : ∃ f oc od fd sl, PySem.W.nsIn K mainGlobals x = some (some (.ref f)) ∧ K.lookup f = some ⟨oc, od, .func fd, sl⟩ ∧ fd.code = .ref t.1 ∧ t.2.2 = fd.qualname ++ ".<locals>." ++ "<lambda>" := by
  unfold tabAt at h
  split at h
  · rename_i f e1
    split at h
    · rename_i oc od fd sl e2
      split at h
      · rename_i c e3
        split at h
        · split at h
          · cases h
            exact ⟨f, oc, od, fd, sl, e1, e2, e3, rfl⟩
          · cases h
        · cases h
      · cases h
    · cases h
  · cases h
theorem lamAt_of {K : PySem.W.Frag} {h base : Heap} {mg : Str → Option Value} {x : Str} {st : Stmt} {f : Addr} {fd : FuncData} (X : K.In h) (G : h.Ns mainGlobals mg) (hx : x ∈ lamNames) (ht : (tabAt K x).isSome = true) (Fn : Fun K x x st f fd) (gm : mg x = some (.ref f)) (LB : LamB K mg base) : LamAt K mg base x fd.code := by
  obtain ⟨t, ht⟩ := Option.isSome_iff_exists.mp ht
  obtain ⟨f', oc, od, fd', sl, e1, e2, e3, e4⟩ := tabAt_ok ht
  have e5 := PySem.W.mg_of X G e1
  rw [gm] at e5
  cases e5
  obtain ⟨oc', od', kV, doc, pm, an, cdv, ct, osl, efd, lk, hcd⟩ := Fn.ex
  rw [e2] at lk
  cases lk
  subst efd
  have hm : t ∈ tabsC K := List.mem_filterMap.mpr ⟨x, hx, ht⟩
  refine ⟨t.1, t.2.1, e3, LB.tb t hm, ?_, fun p hp e => ?_⟩
  · have e4 : t.2.2 = x ++ ".<locals>." ++ "<lambda>" := e4
    rw [← e4]
    exact List.mem_map_of_mem (f := (·.2)) hm
  · obtain ⟨r, hr, er⟩ := List.mem_map.mp hp
    subst er
    have e4 : t.2.2 = x ++ ".<locals>." ++ "<lambda>" := e4
    rw [← e4]
    exact LB.un r hr t hm e
/-- a def that gets a lambda and calls it -/
structure CalL (P : Program) (w : World) (K : PySem.W.Frag) (mg : Str → Option Value) (base : Heap) (x : Str) (k0 : Nat) (sp : SpL) : Prop where
  at_ : ∃ (st : Stmt) (a : Str) (N : List Str) (g : Addr) (fd : FuncData) (body : DE → DS), DefAt K mg x st [a] g fd ∧ FnScope N [a] (defScope st) ∧ N[0]? = some a ∧ Vis (defScope st) a ∧ (a == ("__debug__" : Str)) = false ∧ (a == ("__classdict__" : Str)) = false ∧
    (∀ (k : Nat), k0 ≤ k → ∀ (act : DE) (cdv : Value) (A : Around) (outer : List PySem.Env) (s : Shared) (H : Hp) (E : XK), (∀ (pn : List (Addr × Obj)) (xe : Value → Shared → Prop) (W' : WX) (p1 p2 : Pos), Gd ((cxB P w K mg base N x st g cdv A outer s H E).tr pn xe) W' k → JE ((cxB P w K mg base N x st g cdv A outer s H E).tr pn xe) W' (.Call (.Name a p1) [] [] p2) act) →
      Gd (cxB P w K mg base N x st g cdv A outer s H E) (wB E) k → JSs (cxB P w K mg base N x st g cdv A outer s H E) (wB E) (defBody st) (body act)) ∧
    ∀ (o : XO) (tl : TL) (Q : PyData → Prop) (R : Ex → Prop), sp tl Q R → body (dAct o 0 tl) { nx := fun _ => Q .none, rt := fun d _ => Q d, rs := fun ex _ => R ex } (.x o :: List.replicate (N.length - 1) .e)
section
variable {X : Cx} {W : WX} {n : Nat}
end
end BX
namespace BX
open PySem PySem.Spec L2 PyProof.Rows
abbrev finL (Q : PyData → Prop) (R : Ex → Prop) : DEnds := { nx := fun _ => Q .none, rt := fun d _ => Q d, rs := fun ex _ => R ex }
end BX
/-! D23 -/
/-! a table of the module that tells defs by texts: a name set to one of them, and called -/
namespace BX
open PySem PySem.Spec L2 PyProof.Rows
structure KTabF (K : PySem.W.Frag) (w : World) (d : Addr) (tbl : List (Str × Str)) : Prop where
  kd : ∃ es n, KDict K w d es n
  get : ∀ z, ∃ r, PySem.W.nsIn K d z = some r ∧ match tbl.lookup z with
    | none => r = none
    | some y => ∃ f, r = some (.ref f) ∧ PySem.W.nsIn K mainGlobals y = some (some (.ref f))
inductive TabF (K : PySem.W.Frag) (P : Params) : List DictEntry → List (Str × Str) → Prop
  | nil : TabF K P [] []
  | cons {h : Int} {x y : Str} {t : Tok} {f : Addr} {es : List DictEntry} {ps : List (Str × Str)} : h = PyData.keyHash P x → PySem.W.nsIn K mainGlobals y = some (some (.ref f)) → TabF K P es ps → TabF K P (⟨h, .str x t, .ref f⟩ :: es) ((x, y) :: ps)
section
variable {K : PySem.W.Frag} {P : Params}
theorem TabF.lit {es : List DictEntry} {ps : List (Str × Str)} (h : TabF K P es ps) : PySem.W.KeysLit P es := by
  induction h with
  | nil => trivial
  | cons e _ _ ih => exact ⟨⟨_, _, rfl, e⟩, ih⟩
theorem TabF.find {es : List DictEntry} {ps : List (Str × Str)} (h : TabF K P es ps) (z : Str) : es.any (·.refKey) = false ∧ match ps.lookup z with
    | none => es.find? (·.key.isStr z) = none
    | some y => ∃ e f, es.find? (·.key.isStr z) = some e ∧ e.val = .ref f ∧ PySem.W.nsIn K mainGlobals y = some (some (.ref f)) := by
  induction h with
  | nil => exact ⟨rfl, rfl⟩
  | @cons h x y t f es ps e r more ih =>
    refine ⟨by rw [List.any_cons, ih.1]; rfl, ?_⟩
    rw [List.lookup_cons]
    cases q : z == x with
    | true =>
      have q : z = x := eq_of_beq q
      subst q
      exact ⟨⟨h, .str z t, .ref f⟩, f, by rw [List.find?_cons]; simp [Value.isStr], rfl, r⟩
    | false =>
      have n : (Value.str x t).isStr z = false := by
        show (x == z) = false
        have q := ne_of_beq_false q
        exact beq_eq_false_iff_ne.mpr fun u => q u.symm
      rw [List.find?_cons]
      simp only [n]
      exact ih.2
theorem ktabF_mk {w : World} {d : Addr} {es : List DictEntry} {n : Nat} {tbl : List (Str × Str)} (l : K.lookup d = some ⟨.type "dict", none, .dict ⟨es⟩ n, #[]⟩) (low : (d == sysModules) = false) (h : TabF K w.params es tbl) : KTabF K w d tbl := by
  refine ⟨⟨_, _, l, h.lit, low⟩, fun z => ?_⟩
  obtain ⟨h1, h2⟩ := h.find z
  have look : PySem.W.nsIn K d z = (match es.find? (·.key.isStr z) with
    | some e => some (some e.val)
    | none => if es.any (·.refKey) = true then none else some none) := by
    unfold PySem.W.nsIn
    rw [l]
    rfl
  cases hz : tbl.lookup z with
  | none =>
    rw [hz] at h2
    rw [look, h2, h1]
    exact ⟨_, rfl, rfl⟩
  | some y =>
    rw [hz] at h2
    obtain ⟨e, f, g1, g2, g3⟩ := h2
    rw [look, g1]
    exact ⟨_, rfl, f, congrArg some g2, g3⟩
end
/-- y = TAB[e] -/
def sSetFn (tbl : List (Str × Str)) (i : Nat) (t : DE) : DS := fun D env => t env (fun d env1 => ∃ z x, d = .str z ∧ tbl.lookup z = some x ∧ ∀ a, D.nx (env1.set i (.x (foX x a)))) D.rs
/-- y(..), where slot i holds one of these defs -/
def dCallX (sps : List (Str × FSp)) (i : Nat) (ts : List AK) : DE := fun env Q R => ∃ x a sp, env[i]? = some (.x (foX x a)) ∧ sps.lookup x = some sp ∧ dCall sp ts env Q R
section
variable {X : Cx} {W : WX} {n : Nat}
end
end BX
namespace BX
open PySem PySem.Spec L2
theorem FnG.mono {P : Program} {w : World} {K : PySem.W.Frag} {mg : Str → Option Value} {base : Heap} {j k : Nat} {f : Addr} {fd : FuncData} {ps : List Str} {sp : Sp} (F : FnG P w K mg base j f fd ps sp) (h : j ≤ k) : FnG P w K mg base k f fd ps sp := ⟨F.len, fun A hg r => F.run A hg (r.mono h)⟩
theorem Cal.mono {P : Program} {w : World} {K : PySem.W.Frag} {mg : Str → Option Value} {base : Heap} {x : Str} {j k : Nat} {ms : List Mo} {sp : FSp} (c : Cal P w K mg base x j ms sp) (h : j ≤ k) : Cal P w K mg base x k ms sp := by
  obtain ⟨f, fd, ps, F, r⟩ := c.at_
  exact ⟨f, fd, ps, F.mono h, r⟩
end BX
/-! E12 -/
noncomputable section
namespace TB
open PySem PySem.Spec PyProof.Rows L2 BX He
/-! ### the look -/
def fnR (g : Addr → Option Obj) : Value → List Addr
  | .ref f => f :: (match g f with
    | some ⟨_, _, .func fd, _⟩ => refV fd.code ++ refV fd.defaults
    | _ => [])
  | _ => []
def clsR (g : Addr → Option Obj) (C : Addr) : List Addr := C :: (match g C with
  | some ⟨_, _, .cls cd, _⟩ => cd.mro.flatMap fun b => (match b with
    | .ref b => b :: (match g b with
      | some ⟨_, _, .cls cb, _⟩ => cb.ns :: (match g cb.ns with
        | some ⟨_, _, .dict es _, _⟩ => es.toList.flatMap fun e => fnR g e.val
        | _ => [])
      | _ => [])
    | _ => [])
  | _ => [])
def valR (g : Addr → Option Obj) : Nat → Value → List Addr
  | 0, v => refV v
  | n + 1, v => (match v with
    | .ref a => a :: (match g a with
      | some ⟨_, _, .seq its _, _⟩ => its.toList.flatMap (valR g n)
      | some ⟨_, _, .dict es _, _⟩ => es.toList.flatMap fun e => valR g n e.key ++ valR g n e.val
      | _ => [])
    | _ => [])
def glV (K : Frag) (x : Str) : Value := match PySem.W.nsIn K mainGlobals x with
  | some (some u) => u
  | _ => .none
def reach (g : Addr → Option Obj) (c : Cfg) : List Addr :=
  mainGlobals :: (((c.errs.map (·.1) ++ (c.errs2.map (·.1) ++ (c.apart ++ c.isis.map (·.2.1)))).flatMap fun q => clsR g (ga (frG g [mainGlobals]) q)) ++ ((c.data.flatMap fun q => valR g 4 (glV (frG g [mainGlobals]) q.1)) ++ ((c.tabs.flatMap fun q => valR g 4 (glV (frG g [mainGlobals]) q.1)) ++ ((c.ttabs.flatMap fun q => valR g 4 (glV (frG g [mainGlobals]) q.1)) ++
    ((c.ftabs.flatMap fun q => valR g 1 (glV (frG g [mainGlobals]) q.1)) ++ c.defs.flatMap fun q => fnR g (glV (frG g [mainGlobals]) q.1))))))
abbrev Obs : Type := Bool × List FnW × List (List Int)
def tabB (K : Frag) (q : Str × List (Str × PyData)) : Bool := eqO (PySem.W.nsIn K mainGlobals q.1) (some (some (.ref (ga K q.1)))) && match entsOf K (ga K q.1) with
  | some es => rowsB K es q.2
  | none => false
def ttabB (K : Frag) (q : Str × List (List Str × PyData)) : Bool := eqO (PySem.W.nsIn K mainGlobals q.1) (some (some (.ref (ga K q.1)))) && (decide (q.2.map (·.1)).Nodup && match entsOf K (ga K q.1) with
  | some es => rowsT K es q.2
  | none => false)
def hashes (K : Frag) (x : Str) : List Int := match entsOf K (ga K x) with
  | some es => es.map (·.hash)
  | none => []
def dtB (K : Frag) (q : Str × PyData) : Bool := match PySem.W.nsIn K mainGlobals q.1 with
  | some (some u) => datB K q.2 u
  | _ => false
def obsK (c : Cfg) (K : Frag) : Obs := ([c.free.all fun x => noB (PySem.W.nsIn K mainGlobals x), c.defs.all (dfB K), c.data.all (dtB K), c.tabs.all (tabB K), c.ttabs.all (ttabB K), c.errs.all (erB K), c.errs2.all (erB2 K), apB K c.apart, c.isis.all (isB K)].all id,
  (c.defs.map fun q => fnW K (q.1, none)) ++ (c.errs.map (erW K) ++ c.errs2.map (erW2 K)), (c.tabs.map fun q => hashes K q.1) ++ c.ttabs.map fun q => hashes K q.1)
def tupH (w : World) (xs : List Str) : Int := reduceHash (Builtin.Tuple.tupleHashOf (xs.map (hashStr w)))
def valK (c : Cfg) (w : World) : Obs := (true, c.defs.map dfV ++ (c.errs.map erV ++ c.errs2.map erV2), (c.tabs.map fun q => q.2.map fun p => PyData.keyHash w.params p.1) ++ c.ttabs.map fun q => q.2.map fun p => tupH w p.1)
def Says (c : Cfg) (w : World) (K : Frag) : Prop := obsK c K = valK c w
/-! ### tables of code objects -/
def emptyTab (o : Option Obj) : Bool := match o with
  | some ⟨.none, none, .fields ps, sl⟩ => (match ps.toList, sl.toList with
    | [], [] => true
    | _, _ => false)
  | _ => false
theorem emptyTab_ok {o : Option Obj} (h : emptyTab o = true) : o = some { cls := .none, data := .fields #[] } := by
  unfold emptyTab at h
  split at h
  · rename_i ps sl
    split at h
    · rename_i h1 h2
      have e1 : ps = #[] := by cases ps; exact congrArg _ h1
      have e2 : sl = #[] := by cases sl; exact congrArg _ h2
      rw [e1, e2]
    · cases h
  · cases h
def isRefB (v : Value) (P : Addr) : Bool := match v with
  | .ref Q => Nat.beq Q P
  | _ => false
def isStrB : Value → Bool
  | .str _ _ => true
  | _ => false
def isIntB : Value → Bool
  | .int _ _ => true
  | _ => false
def isBoolB : Value → Bool
  | .bool _ => true
  | _ => false
def hdB (K : Frag) (c P : Addr) : Bool := match K.lookup c with
  | some ⟨.type t, _, .fields vs, _⟩ => decide (t = "code") && ((match (vs[11]? : Option Value) with
    | some v => isRefB v P
    | none => false) && (isRefB (vs.getD 11 .none) P && (isStrB (vs.getD 18 .none) && (isIntB (vs.getD 7 .none) && (isBoolB (vs.getD 9 .none) && (isIntB (vs.getD 10 .none) && !Nat.beq c P))))))
  | _ => false
theorem isRefB_ok {v : Value} {P : Addr} (h : isRefB v P = true) : v = .ref P := by
  cases v with
  | ref Q => exact congrArg Value.ref (Nat.eq_of_beq_eq_true h)
  | _ => cases h
theorem isStrB_ok {v : Value} (h : isStrB v = true) : ∃ x t, v = .str x t := by
  cases v with
  | str x t => exact ⟨x, t, rfl⟩
  | _ => cases h
theorem isIntB_ok {v : Value} (h : isIntB v = true) : ∃ x t, v = .int x t := by
  cases v with
  | int x t => exact ⟨x, t, rfl⟩
  | _ => cases h
theorem isBoolB_ok {v : Value} (h : isBoolB v = true) : ∃ x, v = .bool x := by
  cases v with
  | bool x => exact ⟨x, rfl⟩
  | _ => cases h
theorem hdB_ok {K : Frag} {h : Heap} (X : K.In h) {c P : Addr} (b : hdB K c P = true) : PySem.W.CodeHd h c P := by
  unfold hdB at b
  split at b
  · rename_i t od vs sl e
    obtain ⟨b0, b⟩ := ba b
    obtain ⟨b1, b⟩ := ba b
    obtain ⟨b2, b⟩ := ba b
    obtain ⟨b3, b⟩ := ba b
    obtain ⟨b4, b⟩ := ba b
    obtain ⟨b5, b⟩ := ba b
    obtain ⟨b6, b7⟩ := ba b
    obtain ⟨x3, t3, e3⟩ := isStrB_ok b3
    obtain ⟨x4, t4, e4⟩ := isIntB_ok b4
    obtain ⟨x5, e5⟩ := isBoolB_ok b5
    obtain ⟨x6, t6, e6⟩ := isIntB_ok b6
    have et : t = "code" := of_decide_eq_true b0
    subst et
    refine ⟨_, vs, x3, t3, x4, t4, x5, x6, t6, X _ _ e, rfl, rfl, ?_, isRefB_ok b2, e3, e4, e5, e6, fun z => ?_⟩
    · cases q : (vs[11]? : Option Value) with
      | none => rw [q] at b1; cases b1
      | some v => rw [q] at b1; rw [isRefB_ok b1]
    · rw [z] at b7
      have : Nat.beq P P = true := Nat.beq_refl P
      rw [this] at b7
      cases b7
  · cases b
def noneB (o : Option Obj) : Bool := match o with
  | none => true
  | some _ => false
def obsT (K : Frag) (g : Addr → Option Obj) : Bool := ((tabsC K).all fun p => emptyTab (g p.2.1) && (noneB (K.lookup p.2.1) && hdB K p.1 p.2.1)) && (tabsC K).all fun p => (tabsC K).all fun r => !Nat.beq p.2.1 r.2.1 || decide (p.2.2 = r.2.2)
theorem obsT_ok {K : Frag} {h : Heap} (X : K.In h) (b : obsT K h.get? = true) : BX.TabsAt K h := by
  obtain ⟨b1, b2⟩ := ba b
  have a1 := List.all_eq_true.mp b1
  have a2 := List.all_eq_true.mp b2
  refine ⟨fun p hp => emptyTab_ok (ba (a1 p hp)).1, fun p hp => ?_, fun p hp => hdB_ok X (ba (ba (a1 p hp)).2).2, fun p hp r hr e => ?_⟩
  · have z := (ba (ba (a1 p hp)).2).1
    unfold noneB at z
    split at z
    · assumption
    · cases z
  · have z := List.all_eq_true.mp (a2 p hp) r hr
    rw [e] at z
    have w : Nat.beq r.2.1 r.2.1 = true := Nat.beq_refl _
    rw [w] at z
    exact of_decide_eq_true (by simpa using z)
theorem tabsAt_keeps {K : Frag} {h h' : Heap} (T : BX.TabsAt K h) (k : ∀ b o, h.get? b = some o → h'.get? b = some o) : BX.TabsAt K h' := ⟨fun p hp => k _ _ (T.emp p hp), T.out, fun p hp => (T.hd p hp).keeps k, T.un⟩
/-! ### tables of defs -/
def rowsF (K : Frag) : List DictEntry → List (Str × Str) → Bool
  | [], [] => true
  | e :: es, (x, y) :: ps => (match e.key, e.val with
    | .str z _, .ref f => decide (z = x) && (eqO (PySem.W.nsIn K mainGlobals y) (some (some (.ref f))) && rowsF K es ps)
    | _, _ => false)
  | _, _ => false
theorem rowsF_ok {K : Frag} {P : Params} : ∀ {es : List DictEntry} {ps : List (Str × Str)}, rowsF K es ps = true → es.map (·.hash) = ps.map (fun p => PyData.keyHash P p.1) → TabF K P es ps
  | [], [], _, _ => .nil
  | [], _ :: _, h, _ => by simp [rowsF] at h
  | _ :: _, [], h, _ => by simp [rowsF] at h
  | e :: es, (x, y) :: ps, h, hh => by
    obtain ⟨eh, ek, ev⟩ := e
    unfold rowsF at h
    cases ek with
    | str z t =>
      cases ev with
      | ref f =>
        obtain ⟨h1, h2⟩ := ba h
        obtain ⟨h3, h4⟩ := ba h2
        have e1 : z = x := of_decide_eq_true h1
        subst e1
        simp only [List.map_cons, List.cons.injEq] at hh
        exact .cons hh.1 (eqO_ok h3) (rowsF_ok h4 hh.2)
      | _ => cases h
    | _ => cases h
def ftabB (K : Frag) (q : Str × List (Str × Str)) : Bool := eqO (PySem.W.nsIn K mainGlobals q.1) (some (some (.ref (ga K q.1)))) && match entsOf K (ga K q.1) with
  | some es => rowsF K es q.2
  | none => false
def fHash (c : Cfg) (w : World) : List (List Int) := c.ftabs.map fun q => q.2.map fun p => PyData.keyHash w.params p.1
def FTab (K : Frag) (w : World) (q : Str × List (Str × Str)) : Prop := PySem.W.nsIn K mainGlobals q.1 = some (some (.ref (ga K q.1))) ∧ KTabF K w (ga K q.1) q.2
theorem ftab_ok {c : Cfg} {K : Frag} {w : World} (h : c.ftabs.all (ftabB K) = true) (e : c.ftabs.map (fun q => hashes K q.1) = fHash c w) : ∀ q ∈ c.ftabs, FTab K w q := fun q hq => by
  obtain ⟨b1, b2⟩ := ba (List.all_eq_true.mp h q hq)
  obtain ⟨i, hi⟩ := List.getElem?_of_mem hq
  have hh : hashes K q.1 = q.2.map fun p => PyData.keyHash w.params p.1 := by
    have z : (c.ftabs.map fun q => hashes K q.1)[i]? = (fHash c w)[i]? := by rw [e]
    unfold fHash at z
    rw [List.getElem?_map, List.getElem?_map, hi] at z
    exact Option.some.inj z
  unfold hashes at hh
  cases ee : entsOf K (ga K q.1) with
  | none => rw [ee] at b2; cases b2
  | some es =>
    rw [ee] at b2 hh
    obtain ⟨n, l, low⟩ := entsOf_ok ee
    exact ⟨eqO_ok b1, ktabF_mk l low (rowsF_ok b2 hh)⟩
/-! ### all that is looked at -/
abbrev ObsA : Type := Obs × Bool × List (List Int)
def obsA (c : Cfg) (K : Frag) (g : Addr → Option Obj) : ObsA := (obsK c K, obsT K g && ((c.lams.all fun x => (BX.tabAt K x).isSome) && c.ftabs.all (ftabB K)), c.ftabs.map fun q => hashes K q.1)
def hookC (c : Cfg) : PySem.W.Hook where
  α := ObsA
  obs := fun s => obsA c (frG s.heap.get? (reach s.heap.get? c)) s.heap.get?
  val := fun w => (valK c w, true, fHash c w)
  says := fun w h => ∃ K : Frag, K.In h ∧ Says c w K ∧ BX.TabsAt K h ∧ (∀ x ∈ c.lams, (BX.tabAt K x).isSome = true) ∧ ∀ q ∈ c.ftabs, FTab K w q
  of := fun w s e => by
    have e1 := congrArg (fun z : ObsA => z.1) e
    have e2 := congrArg (fun z : ObsA => z.2.1) e
    have e3 := congrArg (fun z : ObsA => z.2.2) e
    obtain ⟨b1, b2⟩ := ba (show (obsT _ _ && _) = true from e2)
    obtain ⟨b3, b4⟩ := ba b2
    exact ⟨_, frG_in, e1, obsT_ok frG_in b1, List.all_eq_true.mp b3, ftab_ok b4 e3⟩
  keeps := fun _ _ _ ⟨K, hK, c, t, l⟩ k => ⟨K, PySem.W.Frag.In.keeps hK k, c, tabsAt_keeps t k, l⟩
def obC (c : Cfg) (s : PySem.W.SharedT) : ObsA := obsA c (frG (HandSHeadRun.getT s) (reach (HandSHeadRun.getT s) c)) (HandSHeadRun.getT s)
theorem obC_eq (c : Cfg) (s : PySem.W.SharedT) : obC c s = (hookC c).obs s.abs := by
  have e : HandSHeadRun.getT s = s.abs.heap.get? := funext (HandSHeadRun.getT_eq s)
  unfold obC
  rw [e]
  rfl
section
variable {c : Cfg} {w : World} {K : Frag} {h : Heap} {mg : Str → Option Value}
theorem app_eq {α : Type} {a b a' b' : List α} (h : a ++ b = a' ++ b') (l : a.length = a'.length) : a = a' ∧ b = b' := List.append_inj h l
theorem Says.parts (s : Says c w K) : ((c.free.all fun x => noB (PySem.W.nsIn K mainGlobals x)) = true ∧ c.defs.all (dfB K) = true ∧ c.data.all (dtB K) = true ∧ c.tabs.all (tabB K) = true ∧ c.ttabs.all (ttabB K) = true ∧ c.errs.all (erB K) = true ∧ c.errs2.all (erB2 K) = true ∧ apB K c.apart = true ∧ c.isis.all (isB K) = true) ∧
    ((c.defs.map fun q => fnW K (q.1, none)) = c.defs.map dfV ∧ c.errs.map (erW K) = c.errs.map erV ∧ c.errs2.map (erW2 K) = c.errs2.map erV2) ∧ (c.tabs.map fun q => hashes K q.1) = (c.tabs.map fun q => q.2.map fun p => PyData.keyHash w.params p.1) ∧ (c.ttabs.map fun q => hashes K q.1) = c.ttabs.map fun q => q.2.map fun p => tupH w p.1 := by
  have e1 := congrArg (fun z : Obs => z.1) s
  have e2 := congrArg (fun z : Obs => z.2.1) s
  have e3 := congrArg (fun z : Obs => z.2.2) s
  have b := List.all_eq_true.mp (show [c.free.all fun x => noB (PySem.W.nsIn K mainGlobals x), c.defs.all (dfB K), c.data.all (dtB K), c.tabs.all (tabB K), c.ttabs.all (ttabB K), c.errs.all (erB K), c.errs2.all (erB2 K), apB K c.apart, c.isis.all (isB K)].all id = true from e1)
  have at_ : ∀ (i : Nat) (z : Bool), ([c.free.all fun x => noB (PySem.W.nsIn K mainGlobals x), c.defs.all (dfB K), c.data.all (dtB K), c.tabs.all (tabB K), c.ttabs.all (ttabB K), c.errs.all (erB K), c.errs2.all (erB2 K), apB K c.apart, c.isis.all (isB K)] : List Bool)[i]? = some z → z = true := fun i z hz => b z (List.mem_of_getElem? hz)
  obtain ⟨e21, e22⟩ := app_eq e2 (by simp)
  exact ⟨⟨at_ 0 _ rfl, at_ 1 _ rfl, at_ 2 _ rfl, at_ 3 _ rfl, at_ 4 _ rfl, at_ 5 _ rfl, at_ 6 _ rfl, at_ 7 _ rfl, at_ 8 _ rfl⟩, ⟨e21, app_eq e22 (by simp)⟩, app_eq e3 (by simp)⟩
theorem map_at {α β : Type} {f g : α → β} {l : List α} (h : l.map f = l.map g) {i : Nat} {a : α} (e : l[i]? = some a) : f a = g a := by
  have z : (l.map f)[i]? = (l.map g)[i]? := by rw [h]
  rw [List.getElem?_map, List.getElem?_map, e] at z
  exact Option.some.inj z
theorem Says.gone (s : Says c w K) (X : K.In h) (G : h.Ns mainGlobals mg) (i : Nat) {x : Str} (e : c.free[i]? = some x := by rfl) : mg x = none :=
  PySem.W.mg_none_of X G (noB_ok (List.all_eq_true.mp s.parts.1.1 x (List.mem_of_getElem? e)))
theorem Says.def_ (s : Says c w K) (i : Nat) {q : Str × Stmt × Option Int} (e : c.defs[i]? = some q := by rfl) : dfB K q = true ∧ fnW K (q.1, none) = dfV q :=
  ⟨List.all_eq_true.mp s.parts.1.2.1 q (List.mem_of_getElem? e), map_at s.parts.2.1.1 e⟩
theorem Says.dat (s : Says c w K) (X : K.In h) (G : h.Ns mainGlobals mg) (i : Nat) {x : Str} {d : PyData} (e : c.data[i]? = some (x, d) := by rfl) : GlD K mg x d := by
  have b := List.all_eq_true.mp s.parts.1.2.2.1 (x, d) (List.mem_of_getElem? e)
  unfold dtB at b
  dsimp only at b
  cases en : PySem.W.nsIn K mainGlobals x with
  | none => rw [en] at b; cases b
  | some o =>
    cases o with
    | none => rw [en] at b; cases b
    | some u =>
      rw [en] at b
      obtain ⟨v, r, q⟩ := datB_ok d b
      exact ⟨v, u, PySem.W.mg_of X G en, r, q⟩
theorem Says.tab (s : Says c w K) (X : K.In h) (G : h.Ns mainGlobals mg) (i : Nat) {x : Str} {t : List (Str × PyData)} (e : c.tabs[i]? = some (x, t) := by rfl) : mg x = some (.ref (ga K x)) ∧ KTab K w (ga K x) t := by
  obtain ⟨b1, b2⟩ := ba (List.all_eq_true.mp s.parts.1.2.2.2.1 (x, t) (List.mem_of_getElem? e))
  have hh := map_at s.parts.2.2.1 e
  unfold hashes at hh
  dsimp only at b1 b2 hh
  cases ee : entsOf K (ga K x) with
  | none => rw [ee] at b2; cases b2
  | some es =>
    rw [ee] at b2 hh
    obtain ⟨n, l, low⟩ := entsOf_ok ee
    exact ⟨PySem.W.mg_of X G (eqO_ok b1), ktab_mk l low (rowsB_ok b2 hh)⟩
theorem Says.err (s : Says c w K) (i : Nat) {q : Str × Str × Stmt} (e : c.errs[i]? = some q := by rfl) : erB K q = true ∧ erW K q = erV q :=
  ⟨List.all_eq_true.mp s.parts.1.2.2.2.2.2.1 q (List.mem_of_getElem? e), map_at s.parts.2.1.2.1 e⟩
theorem Says.apart (s : Says c w K) (X : K.In h) (G : h.Ns mainGlobals mg) : ApartX K mg c.apart := apart_at X G s.parts.1.2.2.2.2.2.2.2.1
end
/-! ### the law -/
theorem less_sq {K : Frag} {H : Hp} {a : Addr} {xs : List V} (s : SqL K H a xs) : SqL K (less H []) a xs := by
  rcases s with (s | ⟨o, s⟩) | s
  · exact SqL.of (less_out (by simp) s)
  · exact .inl (.inr ⟨o, less_out (by simp) s⟩)
  · exact .inr s
theorem walkE {l : PySem.W.OpenLaw} {q : Program} {loose : List Str} {XP : (Str → Option Value) → Heap → Prop} {YP : World → Heap → Prop} {d : DefRec} {x : Str} {k : Nat} {sp : FSp} (hn : l.most = some 63) (hdf : d.params.defaults = []) (hr : Room k callerA)
    (hsp : ∀ (ns : List Int) Q R, ns.length ≤ 63 → Q (.bool true) [] → sp [.list (ns.map .int)] Q R)
    (F : ∀ (w : World) (mg : Str → Option Value) (fa : Addr) (h : Heap), YP w h → h.Ns mainGlobals mg → mg d.name = some (.ref fa) → ∃ K : Frag, K.In h ∧ BX.TabsAt K h ∧ ∃ fd : FuncData, (∀ (s : Shared) (u : Value), BindsTo s fd ⟨[u], []⟩ [(x, u)]) ∧ ∀ base : Heap, BX.LamB K mg base → FnG l.prog w K mg base k fa fd [x] (lift K mg [.ro] sp)) :
    PySem.W.WalkO q loose XP YP l.row.toRowW d [] (fun g us => PySem.call g us) := by
  refine Att.attach_call hn hdf fun w s t mg mb fa o pm cd doc a vs ns G Y _ _ _ hmg ob nos few calm => ?_
  obtain ⟨K, KX, TA, fd, bind, fn⟩ := F w mg fa _ Y G.T.g hmg
  refine lawT KX G.T.g G.T.b G.T.builtins G.T.nolimit calm TA G.T.bmain ob nos (Nat.le_trans few (by decide)) hr (fun base _ _ => fn base) bind fun H sq tH => ?_
  have nums : ∀ (F : Hp) (ns : List Int), RpAll K F (ns.map V.int) (ns.map PyData.int) := fun F ns => by
    induction ns with
    | nil => exact .nil
    | cons i r ih => exact .cons (.int i) ih
  refine ⟨fun _ => none, [], [.list (ns.map .int)], fun d _ => d = .bool true, fun _ _ => False, fun _ _ z => (nomatch z), ⟨tH, fun _ _ z => (nomatch z), less_nt, fun _ _ _ _ _ z => (nomatch z)⟩, List.nodup_nil, fun _ z => (nomatch z), .ro (xs := ns.map V.int) (less_sq sq) (nums _ ns) .nil, hsp ns _ _ few rfl, ?_, fun _ _ _ _ _ _ _ _ z => z.elim⟩
  intro v d H' F' outs _ r e
  subst e
  cases r
  rfl
end TB
/-! F1 -/
/-! a module's table by tuples of texts, asked by get -/
namespace BX
open PySem PySem.Spec PyProof.Rows L2
section
variable {P : Program} {w : World} {K : PySem.W.Frag}
end
section
variable {X : Cx} {W : WX} {B : Base} {σ : L2.St} {H F : Hp} {env : Ev} {R : Ex → Ev → Prop} {n : Nat}
/-- what get gives -/
def getPost (K : PySem.W.Frag) (tbl : List (List Str × PyData)) (Q : VK) : List V → Hp → Prop := fun vs H2 => ∃ (a : Addr) (xs : List Str), vs = [.ref a] ∧ SqT K H2 a (xs.map V.str) ∧ (tbl.lookup xs = none → Q .non H2) ∧ ∀ dd, tbl.lookup xs = some dd → ∀ v, (∀ F, Rp K F v dd) → Q v H2
def tGetT (K : PySem.W.Frag) (tbl : List (List Str × PyData)) (te : TE) : TE := fun σ H Q => te σ H fun x H1 => getPost K tbl Q [x] H1
def dGetT (tbl : List (List Str × PyData)) (t : DE) : DE := fun env Q R => t env (fun x env1 => ∃ ds xs, x = .tuple ds ∧ strsOf ds = some xs ∧ Q ((tbl.lookup xs).getD .none) env1) R
end
end BX
/-! F2 -/
/-! a def called by keywords alone, in the order of its parameters -/
namespace BX
open PySem PySem.Spec PyProof.Rows L2
structure JK (X : Cx) (W : WX) (kws : List Keyword) (ts : List AK) : Prop where
  pk :  L2.PK X kws (tA X W ts)
/-- a def that may be called by its parameters' names -/
structure CalK (P : Program) (w : World) (K : PySem.W.Frag) (mg : Str → Option Value) (base : Heap) (x : Str) (k : Nat) (ms : List Mo) (sp : FSp) (ps : List Str) : Prop where
  at_ : ∃ f fd, FnG P w K mg base k f fd ps (lift K mg ms sp) ∧ mg x = some (.ref f) ∧ PySem.W.keepIn K (.ref f) = true ∧ ∀ us : List Value, us.length = ps.length → bindArgs fd ⟨[], ps.zip us⟩ = pure (ps.zip us)
section
variable {X : Cx} {W : WX} {n : Nat}
end
end BX
/-! F3 -/
/-! a = b = c = d = e -/
namespace BX
open PySem PySem.Spec PyProof.Rows L2
section
variable {X : Cx} {W : WX}
def sSet4 (i j l m : Nat) (t : DE) : DS := fun D env => t env (fun d env1 => D.nx ((((env1.set i (.v d)).set j (.v d)).set l (.v d)).set m (.v d))) D.rs
end
end BX
/-! F4 -/
/-! a < b < c < d -/
namespace BX
open PySem PySem.Spec L2
def tChain3 (r r' r'' : R2) (ta tb tc td : TE) : TE := fun σ H Q => ta σ H fun x H1 => tb σ H1 fun y H2 => r x y H2 fun z H3 => ∃ k, z = .bl k ∧ (if k = true then tc σ H3 fun u H4 => r' y u H4 fun z2 H5 => ∃ k2, z2 = .bl k2 ∧ (if k2 = true then td σ H5 fun w' H6 => r'' u w' H6 Q else Q (.bl false) H5) else Q (.bl false) H3)
def dChain3 (f f' f'' : PyData → PyData → (PyData → Prop) → Prop) (ta tb tc td : DE) : DE := fun env Q R => ta env (fun x env1 => tb env1 (fun y env2 => f x y fun z => ∃ b, z = .bool b ∧ if b = true then tc env2 (fun u env3 => f' y u fun z2 => ∃ b2, z2 = .bool b2 ∧ if b2 = true then td env3 (fun w env4 => f'' u w fun z3 => Q z3 env4) R else Q (.bool false) env3) R else Q (.bool false) env2) R) R
section
variable {X : Cx} {W : WX} {B : Base} {σ : L2.St} {H F : Hp} {env : Ev} {R : Ex → Ev → Prop} {n : Nat}
end
end BX
/-! F5 -/
/-! enumerate of a tuple -/
namespace BX
open PySem PySem.Spec L2
def IteT (K : PySem.W.Frag) (a : Addr) : It where
  go := fun i H => ∃ xs x, SqT K H a xs ∧ xs[i]? = some x
  yld := fun i H v H' => ∃ T ob x, v = V.ref T ∧ H T = none ∧ ob.dict = none ∧ H' = upd H T (.frz ob (HO.tup [V.int (i : Nat), x])) ∧ ∀ xs, SqT K H a xs → xs[i]? = some x
  stop := fun i H => ∃ xs, SqT K H a xs ∧ xs.length ≤ i
def enumPost (K : PySem.W.Frag) (R : It → Hp → Prop) : List V → Hp → Prop := fun vs H2 => ∃ a, vs = [.ref a] ∧ (∃ xs, SqT K H2 a xs) ∧ R (IteT K a) H2
def iEnumT (K : PySem.W.Frag) (te : TE) : TI := fun σ H R => te σ H fun x H1 => enumPost K R [x] H1
/-! the layer -/
def enumD (xs : List PyData) : List PyData := zipD (rangeD 0 xs.length) xs
def iE (t : DE) : DI := fun env Q R => t env (fun d env1 => ∃ xs, d = .tuple xs ∧ Q (enumD xs) env1) R
section
variable {X : Cx} {W : WX} {B : Base} {σ : L2.St} {H F : Hp} {env : Ev} {R : Ex → Ev → Prop} {n : Nat}
end
end BX
/-! L1 -/
/-! what all laws share: data, comparisons, comprehensions, draws -/
namespace BX
open PySem PySem.Spec L2
def g_MOST_SIZE : PyData := .int 4000
def g_MOST_STEPS : PyData := .int 60
def g_QUEUE : PyData := .tuple [.str "queue"]
def g_PLAIN_KINDS : PyData := .tuple [.str "stack", .str "queue", .str "tape", .str "heap", .str "table"]
def t_SIZED_KINDS : List (Str × PyData) := [("ring", .tuple [.int 12, .tuple [.str "drop", .str "ignore", .str "fail"]]), ("gauge", .tuple [.int 999, .tuple [.str "stop", .str "fail"]])]
def tt_STEP_PARTS : List (List Str × PyData) := [(["stack", "push"], .tuple [.str "letter"]), (["stack", "pop"], .tuple [.str "letter"]), (["queue", "put"], .tuple [.str "letter"]), (["queue", "take"], .tuple [.str "letter"]), (["ring", "put"], .tuple [.str "letter"]), (["ring", "take"], .tuple []), (["tape", "left"], .tuple []), (["tape", "right"], .tuple []), (["tape", "write"], .tuple [.str "letter"]), (["tape", "expect"], .tuple [.str "letter"]), (["heap", "insert"], .tuple [.str "number"]), (["heap", "least"], .tuple []), (["gauge", "add"], .tuple [.str "amount"]), (["gauge", "sub"], .tuple [.str "amount"]), (["table", "set"], .tuple [.str "name", .str "letter"]), (["table", "clear"], .tuple [.str "name"]), (["table", "expect"], .tuple [.str "name", .str "letter"]), (["table", "absent"], .tuple [.str "name"])]

def isSrc (d : PyData) : Prop := ∃ a b, d = .list [.int a, .int b]
def isNum : PyData → Bool
  | .int _ => true
  | _ => false
def betw : PyData → Int → Int → Bool
  | .int i, lo, hi => decide (lo ≤ i) && decide (i ≤ hi)
  | _, _, _ => false
def isLow (c : Nat) : Bool := decide (97 ≤ c) && decide (c ≤ 122)
def isLetter : PyData → Bool
  | .str x => decide (1 ≤ x.length) && decide (x.length ≤ 4) && x.cps.toList.all isLow
  | _ => false
/-- a word -/
def wd (u : List PyData) : Prop := ∀ x ∈ u, isLetter x = true
/-- of u and v, k letters need not be looked at -/
def okF (u v : List PyData) (k : Nat) : Prop := k ≤ u.length ∧ (k = u.length ∨ u.drop k <+: v)
def isNorm (u v : List PyData) (d k : Nat) : Prop := d ≤ k ∧ okF u v k ∧ ∀ j, d ≤ j → j < k → ¬ okF u v j
def isLcp (p s : List PyData) (m : Nat) : Prop := m ≤ p.length ∧ m ≤ s.length ∧ p.take m = s.take m ∧ (m < p.length → m < s.length → p[m]? ≠ s[m]?)
def rep (n : Nat) (u : List PyData) : List PyData := (List.replicate n u).flatten
open Classical in
def isOne (d : PyData) (xs : List Str) : Bool := match d with
  | .str x => decide (x ∈ xs)
  | _ => false
def isKind : PyData → Bool
  | .tuple [.str s] => decide (s ∈ (["stack", "queue", "tape", "heap", "table"] : List Str))
  | .tuple [.str s, a, b] => (decide (s = "ring") && betw a 1 12 && isOne b ["drop", "ignore", "fail"]) || (decide (s = "gauge") && betw a 1 999 && isOne b ["stop", "fail"])
  | _ => false
/-- data of the size that the law makes -/
def mild1 : PyData → Prop
  | .str x => x.length ≤ 100
  | _ => True
def mild : PyData → Prop
  | .str x => x.length ≤ 100
  | .tuple xs => SeqAt.shaped (.tuple xs) = true ∧ xs.length ≤ 100 ∧ ∀ x ∈ xs, mild1 x
  | .list xs => xs.length ≤ 100
  | _ => True
/-- a flat thing of signs as they may be -/
def lay1 (d : PyData) : Prop := flatD d = true ∧ d.canLay0 = true
theorem exOut {α : Type} {a : α} {P : α → Prop} : (∃ o, some a = some o ∧ P o) ↔ P a := ⟨fun ⟨o, e, h⟩ => by cases e; exact h, fun h => ⟨a, rfl, h⟩⟩
theorem exEq {α : Type} {a : α} {P : α → Prop} : (∃ o, a = o ∧ P o) ↔ P a := ⟨fun ⟨o, e, h⟩ => by cases e; exact h, fun h => ⟨a, rfl, h⟩⟩
theorem exEq' {α : Type} {a : α} {P : α → Prop} : (∃ o, o = a ∧ P o) ↔ P a := ⟨fun ⟨o, e, h⟩ => by cases e; exact h, fun h => ⟨a, rfl, h⟩⟩
theorem truthB (b : Bool) : truth (.bool b) = b := rfl
theorem truthOkB (b : Bool) : truthOk (.bool b) = True := rfl
def isTy (T : String) : PyData → Bool
  | .none => false
  | .bool _ => T == "bool" || T == "int"
  | .int _ => T == "int"
  | .str _ => T == "str"
  | .list _ => T == "list"
  | .tuple _ => T == "tuple"
  | .dict _ => T == "dict"
theorem kit_int (d : PyData) : kitB (tyN d) "int" = some (isTy "int" d) := by cases d <;> (simp only [tyN, isTy]; decide +kernel)
theorem kit_bool (d : PyData) : kitB (tyN d) "bool" = some (isTy "bool" d) := by cases d <;> (simp only [tyN, isTy]; decide +kernel)
theorem kit_str (d : PyData) : kitB (tyN d) "str" = some (isTy "str" d) := by cases d <;> (simp only [tyN, isTy]; decide +kernel)
theorem kit_list (d : PyData) : kitB (tyN d) "list" = some (isTy "list" d) := by cases d <;> (simp only [tyN, isTy]; decide +kernel)
theorem kit_tuple (d : PyData) : kitB (tyN d) "tuple" = some (isTy "tuple" d) := by cases d <;> (simp only [tyN, isTy]; decide +kernel)
theorem nd1 {a : Nat} : [a].Nodup = True := by simp
theorem fi {P : Nat → Prop} : (∀ i : Nat, False → P i) = True := by simp
local macro_rules | `(tactic| walk_at "bx ux") => `(tactic| simp only [dChain3, iE, sSeq, sNil, sRet, sRetO, sRetN, sSet, sSetO, sIf, sAsg, sExpr, sPar, sApp, sBrk, sCnt, sAug, sRaise, sNever, sSet2, dTupP, dSlP, iR2, iRo, gLs, dMulN, dAnd, dOr, dNot, dIsi, dIsi2, dVar, dC, dNeg, dBin, dChain, dTst, dTru, dNotT, dAndT, dOrT, dIte, dTup, dLst, dCB, dCall, dCall1, dA, dX, AK.mo, ioIx, roIx, putL, putO, ow, pk, setS, dIx, dIxP, dLenP, dTruP, dEqP, dSl, dNo, dSo, dJoin, dD0, gN, gTp, gsNil, gsCons, gIx, iD, iS, iR1, dYes, dPop, dPopAt, inTab, ixTab, startE, inE, outE, List.map_cons, List.map_nil, List.length_cons, List.length_nil, List.getElem?_cons_zero, List.getElem?_cons_succ, List.set_cons_zero, List.set_cons_succ, List.cons_append, List.nil_append, List.replicate, Nat.reduceSub, Nat.reduceAdd, Nat.zero_add, Nat.sub_self, Option.map_some, Option.map_none, exOut, exEq, exEq', truthB, truthOkB, fnD, kit_int, kit_bool, kit_str, kit_list, kit_tuple, Option.some.injEq, true_and, and_true, List.zip_cons_cons, List.zip_nil_left, List.not_mem_nil, false_and, List.nodup_nil, Option.isSome_some, nd1, fi])
/-- the ends of a def -/
abbrev fin (ms : List Mo) (Qd : PyData → List PyData → Prop) (Rd : Ex → List PyData → Prop) : DEnds := { nx := fun env => ∃ outs, outE 0 ms env = some outs ∧ Qd .none outs, rt := fun d env => ∃ outs, outE 0 ms env = some outs ∧ Qd d outs, rs := fun ex env => ∃ outs, outE 0 ms env = some outs ∧ Rd ex outs }
theorem set_same {env : Ev} {v : Nat} {s : Sl} (h : env[v]? = some s) : env.set v s = env := by
  obtain ⟨h1, h2⟩ := List.getElem?_eq_some_iff.mp h
  rw [← h2]
  exact List.set_getElem_self h1
theorem lcMap {v : Nat} {it : DI} {te : DE} {env env1 : Ev} {ds : List PyData} {f : PyData → PyData} {Q : PyData → Ev → Prop} {R : Ex → Ev → Prop} (hit : ∀ K : List PyData → Ev → Prop, K ds env1 → it env K R) (hv : env1[v]? = some .e) (hl : ds.length ≤ sizeLine)
    (hte : ∀ d ∈ ds, ∀ (Q' : PyData → Ev → Prop) (R' : Ex → Ev → Prop), Q' (f d) (env1.set v (.v d)) → te (env1.set v (.v d)) Q' R') (q : Q (.list (ds.map f)) env1) : dLc [v] it (gN v) dYes te env Q R := by
  refine hit _ ⟨fun i acc e => acc = (ds.take i).map f ∧ e = env1, ⟨rfl, ?_⟩, ?_, ?_⟩
  · exact set_same hv
  · rintro i d acc e hd ⟨rfl, rfl⟩
    have hi := (List.getElem?_eq_some_iff.mp hd).1
    simp only [gN, dYes, if_true]
    refine hte d (List.mem_of_getElem? hd) _ _ ⟨?_, ?_, ?_⟩
    · rw [List.length_map, List.length_take]; omega
    · rw [List.take_add_one, hd, List.map_append]; rfl
    · show ((e.set v (.v d)).set v .e) = e
      rw [List.set_set]; exact set_same hv
  · rintro acc e ⟨rfl, rfl⟩
    rw [List.take_length]
    have : restE e e [v] = e := by
      show e.set v _ = e
      rw [hv]
      exact set_same hv
    rw [this]
    exact q
theorem leS_low (c : Nat) : (!decide ([c] < ("a" : Str).cps.toList)) = decide (97 ≤ c) := by
  have e : ("a" : Str).cps.toList = [97] := by decide
  rw [e]
  show (!decide ([c] < [97])) = _
  by_cases h : 97 ≤ c
  · rw [decide_eq_true h]
    have : ¬ ([c] < [97]) := by simp only [List.cons_lt_cons_iff]; simp; omega
    simp [this]
  · rw [decide_eq_false h]
    have : [c] < [97] := by simp only [List.cons_lt_cons_iff]; omega
    simp [this]
theorem leS_high (c : Nat) : (!decide (("z" : Str).cps.toList < [c])) = decide (c ≤ 122) := by
  have e : ("z" : Str).cps.toList = [122] := by decide
  rw [e]
  show (!decide ([122] < [c])) = _
  by_cases h : c ≤ 122
  · rw [decide_eq_true h]
    have : ¬ ([122] < [c]) := by simp only [List.cons_lt_cons_iff]; simp; omega
    simp [this]
  · rw [decide_eq_false h]
    have : [122] < [c] := by simp only [List.cons_lt_cons_iff]; omega
    simp [this]
def lowD : PyData → PyData
  | .str x => .bool (x.cps.toList.all isLow)
  | _ => .bool false
theorem bools_low (l : List Nat) : boolsOf ((l.map fun c => (.str ⟨#[c]⟩ : PyData)).map lowD) = some (l.map isLow) := by
  induction l with
  | nil => rfl
  | cons c l ih =>
    simp only [List.map_cons, lowD, boolsOf, ih, Option.map_some]
    simp
section
variable {i j : Int} {k : PyData → Prop} {xs ys : List PyData} {x y : Str} {b c : Bool}
theorem addI : addD (.int i) (.int j) k = k (.int (i + j)) := rfl
theorem addSt : addD (.str x) (.str y) k = (x.length + y.length ≤ sizeLine ∧ k (.str (x ++ y))) := rfl
theorem addTu : addD (.tuple xs) (.tuple ys) k = (xs.length + ys.length ≤ sizeLine ∧ k (.tuple (xs ++ ys))) := rfl
theorem addLi : addD (.list xs) (.list ys) k = (xs.length + ys.length ≤ sizeLine ∧ k (.list (xs ++ ys))) := rfl
theorem subI : subD (.int i) (.int j) k = (True ∧ k (.int (i - j))) := rfl
theorem mulI : mulD (.int i) (.int j) k = (CMul i j ∧ k (.int (i * j))) := rfl
theorem minI : minD [.int i, .int j] k = k (.int (if j < i then j else i)) := rfl
theorem mulTu : mulTD (.tuple xs) (.int i) k = ((-1000 ≤ i ∧ i ≤ 1000 ∧ xs.length ≤ 1000) ∧ k (.tuple (List.replicate i.toNat xs).flatten)) := rfl
theorem mulLi : mulD (.list xs) (.int i) k = ((-(2 ^ 63) ≤ i ∧ i < 2 ^ 63 ∧ xs.length * i.toNat ≤ sizeLine) ∧ k (.list (List.replicate i.toNat xs).flatten)) := rfl
theorem modI : modD (.int i) (.int j) k = (j ≠ 0 ∧ k (.int (i.fmod j))) := rfl
theorem fdivI : fdivD (.int i) (.int j) k = (CDivN i j ∧ k (.int (i.fdiv j))) := rfl
theorem powI : powD (.int i) (.int j) k = (CPow i j ∧ k (.int (i ^ j.toNat))) := rfl
theorem ltI : ltD (.int i) (.int j) k = (True ∧ k (.bool (decide (i < j)))) := rfl
theorem leI : leD (.int i) (.int j) k = (True ∧ k (.bool (decide (i ≤ j)))) := rfl
theorem gtI : gtD (.int i) (.int j) k = (True ∧ k (.bool (decide (j < i)))) := rfl
theorem geI : geD (.int i) (.int j) k = (True ∧ k (.bool (decide (j ≤ i)))) := rfl
theorem intI : intD [.int i] k = k (.int i) := rfl
theorem intB : intD [.bool b] k = k (.int (b2i b)) := rfl
theorem lenLi : lenD [.list xs] k = k (.int xs.length) := rfl
theorem lenTu : lenD [.tuple xs] k = k (.int xs.length) := rfl
theorem lenSt : lenD [.str x] k = (x.length ≤ sizeLine ∧ k (.int x.length)) := rfl
theorem maxI : maxD [.int i, .int j] k = k (.int (if j > i then j else i)) := rfl
theorem ixLi : ixD (.list xs) (.int i) k = ∃ d, atI xs i = some d ∧ k d := rfl
theorem ixTu : ixD (.tuple xs) (.int i) k = ∃ d, atI xs i = some d ∧ k d := rfl
theorem ixSt : ixD (.str x) (.int i) k = (x.length ≤ sizeLine ∧ ∃ c, atI x.cps.toList i = some c ∧ k (.str ⟨#[c]⟩)) := rfl
theorem boolEq {P : Bool → Prop} : (∃ b', PyData.bool b = .bool b' ∧ P b') ↔ P b := ⟨fun ⟨_, e, h⟩ => by cases e; exact h, fun h => ⟨b, rfl, h⟩⟩
theorem intEq {P : Int → Prop} : (∃ b', PyData.int i = .int b' ∧ P b') ↔ P i := ⟨fun ⟨_, e, h⟩ => by cases e; exact h, fun h => ⟨i, rfl, h⟩⟩
end
local macro_rules | `(tactic| walk_at "bx ui") => `(tactic| simp only [addI, addSt, addTu, addLi, subI, mulI, mulLi, modI, fdivI, powI, ltI, leI, gtI, geI, intI, intB, lenLi, lenTu, lenSt, maxI, minI, mulTu, ixLi, ixTu, ixSt, boolEq, intEq, true_and, and_true, truthB, truthOkB, exOut, exEq, exEq'])
theorem at_get {xs : List PyData} {i : Int} (h1 : 0 ≤ i) (h2 : i < xs.length) : ∃ d, atI xs i = some d ∧ d ∈ xs := by
  have h3 : i.toNat < xs.length := by omega
  refine ⟨xs[i.toNat], ?_, List.getElem_mem h3⟩
  unfold atI ixN
  rw [if_pos h1, if_pos h2]
  show xs[i.toNat]? = _
  rw [List.getElem?_eq_getElem h3]
theorem at0 {a : PyData} {xs : List PyData} : atI (a :: xs) 0 = some a := by
  unfold atI ixN
  rw [if_pos (by decide), if_pos (by simp only [List.length_cons]; omega)]
  rfl
theorem at1 {a b : PyData} {xs : List PyData} : atI (a :: b :: xs) 1 = some b := by
  unfold atI ixN
  rw [if_pos (by decide), if_pos (by simp only [List.length_cons]; omega)]
  rfl
theorem fmod_b {i n : Int} (h : 0 < n) : 0 ≤ i.fmod n ∧ i.fmod n < n := ⟨Int.fmod_nonneg_of_pos i h, Int.fmod_lt_of_pos i h⟩
abbrev finN (ms : List Mo) (Qd : PyData → List PyData → Prop) (Rd : Ex → List PyData → Prop) : DEnds := { nx := fun _ => False, rt := fun d env => ∃ outs, outE 0 ms env = some outs ∧ Qd d outs, rs := fun ex env => ∃ outs, outE 0 ms env = some outs ∧ Rd ex outs, own := true }
theorem cmul_b {i : Int} {c : Bool} : CMul i (b2i c) := .inr (by cases c <;> decide)
theorem eqS {x y : Str} {k : PyData → Prop} (h : k (.bool (x == y))) : eqD (.str x) (.str y) k := ⟨.inl rfl, h⟩
theorem eqI {x y : Int} {k : PyData → Prop} (h : k (.bool (x == y))) : eqD (.int x) (.int y) k := ⟨.inl rfl, h⟩
def plain5 : List Str := ["stack", "queue", "tape", "heap", "table"]
theorem any_eqv (s : Str) : ∀ l : List Str, ((l.map PyData.str).any fun y => PyData.eqv y (.str s)) = decide (s ∈ l)
  | [] => by simp
  | x :: l => by
    rw [List.map_cons, List.any_cons, any_eqv s l]
    have e : PyData.eqv (.str x) (.str s) = (x == s) := rfl
    rw [e]
    by_cases h : s = x
    · subst h; simp
    · have h1 : (x == s) = false := by simpa using fun z => h z.symm
      rw [h1]
      simp [h]
theorem flat_strs (l : List Str) : (l.map PyData.str).all flatD = true := by
  induction l with
  | nil => rfl
  | cons x l ih => simp [flatD, ih]
theorem inStrs {s : Str} {l : List Str} {k : PyData → Prop} (h : k (.bool (decide (s ∈ l)))) : inD (.str s) (.list (l.map .str)) k := ⟨.inl ⟨rfl, flat_strs l⟩, by rw [any_eqv]; exact h⟩
theorem ninStrs {s : Str} {l : List Str} {k : PyData → Prop} (h : k (.bool (!decide (s ∈ l)))) : ninD (.str s) (.list (l.map .str)) k := ⟨.inl ⟨rfl, flat_strs l⟩, by rw [any_eqv]; exact h⟩
theorem neI {x y : Int} {k : PyData → Prop} (h : k (.bool (!(x == y)))) : neD (.int x) (.int y) k := ⟨.inl rfl, h⟩
theorem rangeD_len {lo : Int} {n : Nat} : (rangeD lo n).length = n := by simp [rangeD]
/-- a comprehension over a range whose items are drawn from a source that is lent -/
theorem lcIo {v : Nat} {it : DI} {te : DE} {env : Ev} {E : PyData → Ev} {p : PyData → Prop} {N : Nat → Prop} {Q : PyData → Ev → Prop} {R : Ex → Ev → Prop}
    (hit : ∀ K : List PyData → Ev → Prop, (∀ (n : Nat) s, N n → isSrc s → K (rangeD 0 n) (E s)) → it env K R) (hn : ∀ n, N n → n ≤ 1000)
    (hw : ∀ s, wipeE (E s) [v] = E s) (hw2 : ∀ s d, wipeE ((E s).set v (.v d)) [v] = E s) (hr : ∀ s s', restE (E s) (E s') [v] = E s')
    (hte : ∀ d s (Q' : PyData → Ev → Prop) (R' : Ex → Ev → Prop), isSrc s → (∀ y s', p y → isSrc s' → Q' y ((E s').set v (.v d))) → te ((E s).set v (.v d)) Q' R')
    (q : ∀ n acc s', N n → acc.length = n → (∀ y ∈ acc, p y) → isSrc s' → Q (.list acc) (E s')) : dLc [v] it (gN v) dYes te env Q R := by
  refine hit _ fun n s hN hs => ⟨fun i acc e => acc.length = i ∧ (∀ y ∈ acc, p y) ∧ ∃ s', e = E s' ∧ isSrc s', ⟨rfl, by simp, s, hw s, hs⟩, ?_, ?_⟩
  · rintro i d acc e hd ⟨rfl, ha, s', rfl, hs'⟩
    have hi := (List.getElem?_eq_some_iff.mp hd).1
    rw [rangeD_len] at hi
    have h1000 : (1000 : Nat) < sizeLine := by decide
    have hN2 := hn n hN
    simp only [gN, dYes, if_true]
    refine hte d s' _ _ hs' fun y s2 hy hs2 => ⟨by omega, by simp, fun z hz => ?_, s2, hw2 s2 d, hs2⟩
    rcases (List.mem_append.mp hz) with hz | hz
    · exact ha z hz
    · rw [(List.mem_singleton.mp hz)]
      exact hy
  · rintro acc e ⟨hl, ha, s', rfl, hs'⟩
    rw [rangeD_len] at hl
    rw [hr]
    exact q n acc s' hN hl ha hs'
theorem cut_mem {l : List PyData} {lo hi : Option Int} {x : PyData} (h : x ∈ cutD l lo hi) : x ∈ l := by
  unfold cutD at h
  exact List.mem_of_mem_drop (List.mem_of_mem_take h)
theorem cut_len {l : List PyData} {lo hi : Option Int} : (cutD l lo hi).length ≤ l.length := by
  unfold cutD
  rw [List.length_take]; rw [List.length_drop]
  omega
theorem letter_str {d : PyData} (h : isLetter d = true) : ∃ x, d = .str x := by
  cases d with
  | str x => exact ⟨x, rfl⟩
  | _ => cases h
theorem let_lay {x : PyData} (h : isLetter x = true) : flatD x = true ∧ x.canLay0 = true := by
  obtain ⟨s, rfl⟩ := letter_str h
  refine ⟨rfl, ?_⟩
  simp only [isLetter, Bool.and_eq_true, List.all_eq_true, isLow, decide_eq_true_eq] at h
  show s.cps.all (· < 0x110000) = true
  rw [← Array.all_toList]; rw [List.all_eq_true]
  intro c hc
  have := (h.2 c hc)
  simp only [decide_eq_true_eq]
  omega
theorem flat_lay : ∀ {l : List PyData}, (∀ x ∈ l, flatD x = true ∧ x.canLay0 = true) → PyData.canLayAll0 l = true ∧ PyData.depthAll l = 0
  | [], _ => ⟨rfl, rfl⟩
  | x :: l, h => by
    obtain ⟨h1, h2⟩ := flat_lay (l := l) fun y hy => h y (List.mem_cons_of_mem _ hy)
    have hx := h x List.mem_cons_self
    refine ⟨?_, ?_⟩
    · simp only [PyData.canLayAll0, h1, Bool.and_true]
      exact hx.2
    · simp only [PyData.depthAll, h2]
      have hx := hx.1
      cases x <;> first | rfl | (simp [flatD] at hx)
theorem shaped_list {l : List PyData} (h : ∀ x ∈ l, flatD x = true ∧ x.canLay0 = true) : SeqAt.shaped (.list l) = true := by
  obtain ⟨h1, h2⟩ := flat_lay h
  unfold SeqAt.shaped
  simp [PyData.canLay0, PyData.depth, h1, h2]
theorem shaped_tuple {l : List PyData} (h : ∀ x ∈ l, flatD x = true ∧ x.canLay0 = true) : SeqAt.shaped (.tuple l) = true := by
  obtain ⟨h1, h2⟩ := flat_lay h
  unfold SeqAt.shaped
  simp [PyData.canLay0, PyData.depth, h1, h2]
theorem shaped_wd {u : List PyData} (h : wd u) : SeqAt.shaped (.tuple u) = true := shaped_tuple fun x hx => let_lay (h x hx)
theorem shaped_wl {u : List PyData} (h : wd u) : SeqAt.shaped (.list u) = true := shaped_list fun x hx => let_lay (h x hx)
theorem eqv_let {x y : PyData} (hx : isLetter x = true) (hy : isLetter y = true) : PyData.eqv x y = true ↔ x = y := by
  obtain ⟨s, rfl⟩ := letter_str hx
  obtain ⟨t, rfl⟩ := letter_str hy
  simp [PyData.eqv]
theorem eqv_wds : ∀ {u v : List PyData}, wd u → wd v → (PyData.eqvAll u v = true ↔ u = v)
  | [], [], _, _ => by simp [PyData.eqvAll]
  | [], _ :: _, _, _ => by simp [PyData.eqvAll]
  | _ :: _, [], _, _ => by simp [PyData.eqvAll]
  | x :: u, y :: v, hu, hv => by
    have h1 := eqv_let (hu x List.mem_cons_self) (hv y List.mem_cons_self)
    have h2 := eqv_wds (u := u) (v := v) (fun z hz => hu z (List.mem_cons_of_mem _ hz)) (fun z hz => hv z (List.mem_cons_of_mem _ hz))
    simp [PyData.eqvAll, h1, h2]
theorem of_iff {b : Bool} {P : Prop} {k : PyData → Prop} (e : b = true ↔ P) (h1 : P → k (.bool true)) (h2 : ¬P → k (.bool false)) : k (.bool b) := by
  cases b with
  | true => exact h1 (e.mp rfl)
  | false => exact h2 fun z => Bool.false_ne_true (e.mpr z)
theorem of_niff {b : Bool} {P : Prop} {k : PyData → Prop} (e : b = true ↔ P) (h1 : P → k (.bool false)) (h2 : ¬P → k (.bool true)) : k (.bool (!b)) := by
  cases b with
  | true => exact h1 (e.mp rfl)
  | false => exact h2 fun z => Bool.false_ne_true (e.mpr z)
theorem eqW {u v : List PyData} {k : PyData → Prop} (hu : wd u) (hv : wd v) (h1 : u = v → k (.bool true)) (h2 : u ≠ v → k (.bool false)) : eqD (.tuple u) (.tuple v) k := ⟨.inr ⟨shaped_wd hu, shaped_wd hv⟩, of_iff (eqv_wds hu hv) h1 h2⟩
theorem neW {u v : List PyData} {k : PyData → Prop} (hu : wd u) (hv : wd v) (h1 : u = v → k (.bool false)) (h2 : u ≠ v → k (.bool true)) : neD (.tuple u) (.tuple v) k := ⟨.inr ⟨shaped_wd hu, shaped_wd hv⟩, of_niff (eqv_wds hu hv) h1 h2⟩
theorem neLs {u v : List PyData} {k : PyData → Prop} (hu : wd u) (hv : wd v) (h1 : u = v → k (.bool false)) (h2 : u ≠ v → k (.bool true)) : neD (.list u) (.list v) k := ⟨.inr ⟨shaped_wl hu, shaped_wl hv⟩, of_niff (eqv_wds hu hv) h1 h2⟩
/-- a letter or None -/
def LN (x : PyData) : Prop := isLetter x = true ∨ x = .none
theorem eqLN {x y : PyData} {k : PyData → Prop} (hx : LN x) (hy : LN y) (h1 : x = y → k (.bool true)) (h2 : x ≠ y → k (.bool false)) : eqD x y k := by
  rcases hx with hx | rfl <;> rcases hy with hy | rfl
  · obtain ⟨s, rfl⟩ := letter_str hx
    obtain ⟨t, rfl⟩ := letter_str hy
    exact ⟨.inl rfl, of_iff (eqv_let hx hy) h1 h2⟩
  · obtain ⟨s, rfl⟩ := letter_str hx
    exact ⟨.inl rfl, h2 (by intro z; cases z)⟩
  · obtain ⟨s, rfl⟩ := letter_str hy
    exact ⟨.inl rfl, h2 (by intro z; cases z)⟩
  · exact ⟨.inl rfl, h1 rfl⟩
theorem neLet {x y : PyData} {k : PyData → Prop} (hx : isLetter x = true) (hy : isLetter y = true) (h1 : x = y → k (.bool false)) (h2 : x ≠ y → k (.bool true)) : neD x y k := by
  have e := eqv_let hx hy
  obtain ⟨s, rfl⟩ := letter_str hx
  obtain ⟨t, rfl⟩ := letter_str hy
  exact ⟨.inl rfl, of_niff e h1 h2⟩
theorem neI2 {x y : Int} {k : PyData → Prop} (h1 : x = y → k (.bool false)) (h2 : x ≠ y → k (.bool true)) : neD (.int x) (.int y) k := neI (of_niff (P := x = y) beq_iff_eq h1 h2)
theorem eqI2 {x y : Int} {k : PyData → Prop} (h1 : x = y → k (.bool true)) (h2 : x ≠ y → k (.bool false)) : eqD (.int x) (.int y) k := eqI (of_iff (P := x = y) beq_iff_eq h1 h2)
theorem wd_app {u v : List PyData} (hu : wd u) (hv : wd v) : wd (u ++ v) := fun x hx => (List.mem_append.mp hx).elim (hu x) (hv x)
theorem wd_nil : wd [] := fun x hx => by cases hx
theorem wd_drop {u : List PyData} (hu : wd u) (k : Nat) : wd (u.drop k) := fun x hx => hu x (List.mem_of_mem_drop hx)
theorem wd_take {u : List PyData} (hu : wd u) (k : Nat) : wd (u.take k) := fun x hx => hu x (List.mem_of_mem_take hx)
theorem wd_cut {u : List PyData} (hu : wd u) {lo hi : Option Int} : wd (cutD u lo hi) := fun x hx => hu x (cut_mem hx)
theorem wd_rep {u : List PyData} (hu : wd u) (n : Nat) : wd (rep n u) := fun x hx => by
  obtain ⟨l, h1, h2⟩ := List.mem_flatten.mp hx
  rw [(List.mem_replicate.mp h1).2] at h2
  exact hu x h2
theorem len_rep {u : List PyData} (n : Nat) : (rep n u).length = n * u.length := by simp [rep, List.length_flatten]
theorem cut_lo {xs : List PyData} {k : Nat} : cutD xs (some (k : Int)) none = xs.drop k := by
  unfold cutD
  rw [HT.sIx_nat, HT.sIx_none]
  by_cases h : k ≤ xs.length
  · rw [Nat.min_eq_left h, List.take_of_length_le (by rw [List.length_drop]; omega)]
  · rw [Nat.min_eq_right (by omega), List.drop_eq_nil_of_le (Nat.le_refl _), List.drop_eq_nil_of_le (by omega), List.take_nil]
theorem cut_hi {xs : List PyData} {k : Nat} : cutD xs none (some (k : Int)) = xs.take k := by
  unfold cutD
  rw [HT.sIx_nat, HT.sIx_none, List.drop_zero, Nat.sub_zero]
  by_cases h : k ≤ xs.length
  · rw [Nat.min_eq_left h]
  · rw [Nat.min_eq_right (by omega), List.take_of_length_le (Nat.le_refl _)]; rw [List.take_of_length_le (by omega)]
theorem atN {xs : List PyData} {k : Nat} {d : PyData} (h : xs[k]? = some d) : atI xs (k : Int) = some d := by
  have h3 := (List.getElem?_eq_some_iff.mp h).1
  unfold atI ixN
  rw [if_pos (by omega)]; rw [if_pos (by omega)]
  exact h
theorem let_len {x : PyData} (h : isLetter x = true) : ∀ s, x = .str s → s.length ≤ sizeLine := by
  rintro s rfl
  simp only [isLetter, Bool.and_eq_true, decide_eq_true_eq] at h
  exact Nat.le_trans h.1.2 (by decide)
theorem betw_nat {k n : Nat} (h : k ≤ n) : betw (.int k) 0 n = true := by
  simp [betw]; omega
theorem itT {p r : Prop} (h : p) : if true = true then p else r := by rw [if_pos rfl]; exact h
theorem itF {p r : Prop} (h : r) : if false = true then p else r := by rw [if_neg Bool.false_ne_true]; exact h
theorem wd_lit {l : List PyData} (h : l.all isLetter = true) : wd l := List.all_eq_true.mp h
theorem fmodN {i n : Nat} : (i : Int).fmod (n : Int) = ((i % n : Nat) : Int) := by
  rw [(Int.fmod_eq_emod_of_nonneg _ (by omega))]
  rfl
theorem rangeN {b m : Nat} : rangeD (b : Int) ((b : Int) + m - b).toNat = (List.range m).map fun i : Nat => .int ((b + i : Nat) : Int) := by
  have : ((b : Int) + m - b).toNat = m := by omega
  rw [this]
  unfold rangeD
  refine List.map_congr_left (fun i _ => ?_)
  simp
theorem getD_some {w : List PyData} {k : Nat} (h : k < w.length) : w[k]? = some (w.getD k .none) := by
  rw [List.getD_eq_getElem?_getD]; rw [List.getElem?_eq_getElem h]; rfl
theorem maxE {a b : Int} : (if b > a then b else a) = max a b := by omega
theorem letAt {w : List PyData} (hw : wd w) {k : Nat} (h : k < w.length) : isLetter (w.getD k .none) = true := hw _ (List.mem_of_getElem? (getD_some h))
theorem lcFilt {v : Nat} {it : DI} {tt : DT} {te : DE} {env env1 : Ev} {ds : List PyData} {f : PyData → PyData} {p : PyData → Bool} {Q : PyData → Ev → Prop} {R : Ex → Ev → Prop} (hit : ∀ K : List PyData → Ev → Prop, K ds env1 → it env K R) (hv : env1[v]? = some .e) (hl : ds.length ≤ sizeLine)
    (htt : ∀ d ∈ ds, ∀ (Q' : Bool → Ev → Prop) (R' : Ex → Ev → Prop), Q' (p d) (env1.set v (.v d)) → tt (env1.set v (.v d)) Q' R')
    (hte : ∀ d ∈ ds, ∀ (Q' : PyData → Ev → Prop) (R' : Ex → Ev → Prop), Q' (f d) (env1.set v (.v d)) → te (env1.set v (.v d)) Q' R') (q : Q (.list ((ds.filter p).map f)) env1) : dLc [v] it (gN v) tt te env Q R := by
  refine hit _ ⟨fun i acc e => acc = ((ds.take i).filter p).map f ∧ e = env1, ⟨rfl, ?_⟩, ?_, ?_⟩
  · exact set_same hv
  · rintro i d acc e hd ⟨rfl, rfl⟩
    have hi := (List.getElem?_eq_some_iff.mp hd).1
    have back : ((e.set v (.v d)).set v .e) = e := by rw [List.set_set]; exact set_same hv
    simp only [gN]
    refine htt d (List.mem_of_getElem? hd) _ _ ?_
    cases hp : p d with
    | true =>
      refine itT (hte d (List.mem_of_getElem? hd) _ _ ⟨?_, ?_, back⟩)
      · rw [List.length_map]
        have := List.length_filter_le p (ds.take i)
        rw [List.length_take] at this
        omega
      · rw [List.take_add_one, hd]
        simp [List.filter_append, hp]
    | false =>
      refine itF ⟨?_, back⟩
      rw [List.take_add_one, hd]
      simp [List.filter_append, hp]
  · rintro acc e ⟨rfl, rfl⟩
    rw [List.take_length]
    have : restE e e [v] = e := by
      show e.set v _ = e
      rw [hv]
      exact set_same hv
    rw [this]
    exact q
theorem slTu {xs : List PyData} {lo hi : Option Int} {k : PyData → Prop} : slD (.tuple xs) lo hi k = k (.tuple (cutD xs lo hi)) := rfl
section
variable {Qd : PyData → List PyData → Prop} {Rd : Ex → List PyData → Prop} {s : PyData} {ls r u v c : List PyData} {s1 s2 s3 s4 s5 s6 s7 s8 s9 s10 : Sl}
end
theorem okF_len {u v : List PyData} : okF u v u.length := ⟨Nat.le_refl _, .inl rfl⟩
section
variable {i j : Int} {k : PyData → Prop} {xs ys : List PyData} {x y : Str} {b c : Bool}
end
theorem ty_tup {xs : List PyData} : isTy "tuple" (.tuple xs) = true := rfl
end BX
/-! L2 -/
/-! rows and steps; what the shared defs promise -/
namespace BX
open PySem PySem.Spec L2
def kSize : PyData → Int
  | .tuple (_ :: .int n :: _) => n
  | _ => 0
def kName : PyData → Str
  | .tuple (.str s :: _) => s
  | _ => ""
def fitsPart (k : PyData) (s : Str) (v : PyData) : Bool := if s = "number" then betw v (-999) 999 else if s = "amount" then betw v 1 (kSize k) else isLetter v
def fitsAll (k : PyData) : List PyData → List PyData → Bool
  | .str s :: ps, v :: vs => fitsPart k s v && fitsAll k ps vs
  | [], [] => true
  | _, _ => false
def fitsStep (k : PyData) : PyData → Bool
  | .tuple (.str s :: r) => match tt_STEP_PARTS.lookup [kName k, s] with
    | some (.tuple ps) => fitsAll k ps r
    | _ => false
  | _ => false
def isRow (k : PyData) : PyData → Bool
  | .tuple xs => decide (xs.length ≤ 60) && xs.all (fitsStep k)
  | _ => false
/-- small enough to be looked at -/
def tiny : PyData → Prop
  | .str x => x.length ≤ 100
  | .tuple xs => xs.length ≤ 100 ∧ ∀ x ∈ xs, mild1 x
  | _ => True
def isRowish (d : PyData) : Prop := ∀ xs, d = .tuple xs → xs.length ≤ 1000 ∧ ∀ x ∈ xs, tiny x
def sp_is_number : FSp := fun ds Q _ => ∃ v, ds = [v] ∧ Q (.bool (isNum v)) []
def sp_is_between : FSp := fun ds Q _ => ∃ v lo hi, ds = [v, .int lo, .int hi] ∧ Q (.bool (betw v lo hi)) []
def sp_is_letter : FSp := fun ds Q _ => ∃ v, ds = [v] ∧ (∀ x, v = .str x → x.length ≤ sizeLine) ∧ Q (.bool (isLetter v)) []
def sp_is_kind : FSp := fun ds Q _ => ∃ v, ds = [v] ∧ mild v ∧ Q (.bool (isKind v)) []
def sp_fits_part : FSp := fun ds Q _ => ∃ k s v, ds = [k, .str s, v] ∧ (s = "amount" → ∃ a n r, k = .tuple (a :: .int n :: r)) ∧ mild1 v ∧ Q (.bool (fitsPart k s v)) []
def sp_fits_step : FSp := fun ds Q _ => ∃ k v, ds = [k, v] ∧ isKind k = true ∧ tiny v ∧ Q (.bool (fitsStep k v)) []
/-- with good kinds alone -/
def sp_is_row_good : FSp := fun ds Q _ => ∃ k v, ds = [k, v] ∧ mild k ∧ isKind k = true ∧ isRowish v ∧ Q (.bool (isRow k v)) []
def sp_need_row_good : FSp := fun ds Q _ => ∃ k v, ds = [k, v] ∧ mild k ∧ isKind k = true ∧ isRowish v ∧ isRow k v = true ∧ Q .none []
def sp_need_kind_good : FSp := fun ds Q _ => ∃ k s, ds = [k, .str s] ∧ mild k ∧ isKind k = true ∧ kName k = s ∧ Q .none []
def sp_need_count_good : FSp := fun ds Q _ => ∃ v lo hi, ds = [v, .int lo, .int hi] ∧ betw v lo hi = true ∧ Q .none []
def sp_law_pool : FSp := fun ds Q _ => ∃ (ns : List Int) (k : Int), ds = [.list (ns.map .int), .int k] ∧ 0 ≤ k ∧ k < 100 ∧ ns.length ≤ 1000 ∧ ∀ a b, Q (.list [.int a, .int b]) []
def sp_law_take : FSp := fun ds Q _ => ∃ s n, ds = [s, .int n] ∧ isSrc s ∧ 0 < n ∧ n < 1073741824 ∧ ∀ r s', 0 ≤ r → r < n → isSrc s' → Q (.int r) [s']
def sp_law_one : FSp := fun ds Q _ => ∃ s xs, ds = [s, .list xs] ∧ isSrc s ∧ 0 < xs.length ∧ xs.length ≤ 100000 ∧ ∀ x ∈ xs, ∀ s', isSrc s' → Q x [s']
/-- letters to draw from -/
def okL (ls : List PyData) : Prop := wd ls ∧ 0 < ls.length ∧ ls.length ≤ 100
def sp_law_letters : FSp := fun ds Q _ => ∃ s, ds = [s] ∧ isSrc s ∧ ∀ ls s', okL ls → (∀ x ∈ ls, x ≠ PyData.str "new") → isSrc s' → Q (.list ls) [s']
def notNew : PyData → Bool
  | .str s => !(s == "new")
  | _ => true
theorem nn_of {l : List PyData} (h : l.all notNew = true) : ∀ x ∈ l, x ≠ PyData.str "new" := by
  intro x hx e
  subst e
  have := List.all_eq_true.mp h _ hx
  simp [notNew] at this
def sp_law : FSp := fun ds Q _ => ∃ ns : List Int, ds = [.list (ns.map .int)] ∧ ns.length ≤ 63 ∧ Q (.bool true) []
theorem one_go {s : PyData} {xs : List PyData} {Q : PyData → List PyData → Prop} {R : Ex → List PyData → Prop} (hs : isSrc s) (k : ∀ x ∈ xs, ∀ s', isSrc s' → Q x [s']) (h1 : 0 < xs.length := by decide) (h2 : xs.length ≤ 100000 := by decide) : sp_law_one [s, .list xs] Q R := ⟨s, xs, rfl, hs, h1, h2, k⟩
/-! data without numbers that are texts: equal as data, equal -/
mutual
def pln : PyData → Bool
  | .none => true
  | .int _ => true
  | .str x => x.cps.all (· < 0x110000)
  | .tuple xs => plnA xs
  | _ => false
def plnA : List PyData → Bool
  | [] => true
  | x :: xs => pln x && plnA xs
end
mutual
theorem pln_lay : ∀ {d : PyData}, pln d = true → d.canLay0 = true
  | .none, _ => rfl
  | .int _, _ => rfl
  | .str _, h => h
  | .tuple xs, h => plnA_lay (xs := xs) h
  | .bool _, h => by cases h
  | .list _, h => by cases h
  | .dict _, h => by cases h
theorem plnA_lay : ∀ {xs : List PyData}, plnA xs = true → PyData.canLayAll0 xs = true
  | [], _ => rfl
  | x :: xs, h => by
    simp only [plnA, Bool.and_eq_true] at h
    simp only [PyData.canLayAll0, Bool.and_eq_true]
    exact ⟨pln_lay h.1, plnA_lay h.2⟩
end
mutual
theorem eqv_pln : ∀ {x y : PyData}, pln x = true → pln y = true → (PyData.eqv x y = true ↔ x = y)
  | .none, y, _, hy => by cases y <;> simp [PyData.eqv, pln] at hy ⊢
  | .int i, y, _, hy => by cases y <;> simp [PyData.eqv, pln] at hy ⊢
  | .str s, y, _, hy => by cases y <;> simp [PyData.eqv, pln] at hy ⊢
  | .tuple xs, y, hx, hy => by
    cases y with
    | tuple ys =>
      have := eqvA_pln (xs := xs) (ys := ys) hx hy
      simp only [PyData.eqv, PyData.tuple.injEq]
      exact this
    | _ => simp [PyData.eqv, pln] at hy ⊢
  | .bool _, _, h, _ => by cases h
  | .list _, _, h, _ => by cases h
  | .dict _, _, h, _ => by cases h
theorem eqvA_pln : ∀ {xs ys : List PyData}, plnA xs = true → plnA ys = true → (PyData.eqvAll xs ys = true ↔ xs = ys)
  | [], [], _, _ => by simp [PyData.eqvAll]
  | [], _ :: _, _, _ => by simp [PyData.eqvAll]
  | _ :: _, [], _, _ => by simp [PyData.eqvAll]
  | x :: xs, y :: ys, hx, hy => by
    simp only [plnA, Bool.and_eq_true] at hx hy
    have h1 := eqv_pln hx.1 hy.1
    have h2 := eqvA_pln hx.2 hy.2
    simp [PyData.eqvAll, h1, h2]
end
/-- plain and not deep -/
def pl (d : PyData) : Prop := pln d = true ∧ d.depth ≤ 60
theorem pl_shaped {d : PyData} (h : pl d) : SeqAt.shaped d = true := by
  unfold SeqAt.shaped
  simp only [Bool.and_eq_true, decide_eq_true_eq]
  exact ⟨pln_lay h.1, by have := h.2; omega⟩
theorem eqP {x y : PyData} {k : PyData → Prop} (hx : pl x) (hy : pl y) (h1 : x = y → k (.bool true)) (h2 : x ≠ y → k (.bool false)) : eqD x y k := ⟨.inr ⟨pl_shaped hx, pl_shaped hy⟩, of_iff (eqv_pln hx.1 hy.1) h1 h2⟩
theorem pln_let {x : PyData} (h : isLetter x = true) : pln x = true := by
  have := (let_lay h).2
  obtain ⟨s, rfl⟩ := letter_str h
  exact this
theorem plnA_of : ∀ {xs : List PyData}, (∀ x ∈ xs, pln x = true) → plnA xs = true
  | [], _ => rfl
  | x :: xs, h => by
    simp only [plnA, Bool.and_eq_true]
    exact ⟨h x List.mem_cons_self, plnA_of fun y hy => h y (List.mem_cons_of_mem _ hy)⟩
theorem depA_of {n : Nat} : ∀ {xs : List PyData}, (∀ x ∈ xs, x.depth ≤ n) → PyData.depthAll xs ≤ n
  | [], _ => Nat.zero_le _
  | x :: xs, h => by
    have h1 := h x List.mem_cons_self
    have h2 := depA_of fun y hy => h y (List.mem_cons_of_mem _ hy)
    simp only [PyData.depthAll]
    omega
theorem dep_let {x : PyData} (h : isLetter x = true) : x.depth = 0 := by
  obtain ⟨s, rfl⟩ := letter_str h
  rfl
theorem pl_wd {u : List PyData} (h : wd u) : pl (.tuple u) := ⟨plnA_of fun x hx => pln_let (h x hx), by
  have := depA_of (n := 0) fun x hx => Nat.le_of_eq (dep_let (h x hx))
  show PyData.depthAll u + 1 ≤ 60
  omega⟩
end BX
/-! F6 -/
/-! a def with a number as its last default, called with all its arguments -/
namespace BX
open PySem PySem.Spec L2
structure DefAtW (K : PySem.W.Frag) (mg : Str → Option Value) (x : Str) (st : Stmt) (ps : List Str) (i : Int) (f : Addr) (fd : FuncData) : Prop where
  v : DefAtV K mg x st ps i f fd
  b0 : Binds K fd ps []
end BX
namespace TB
open PySem PySem.Spec PyProof.Rows L2 BX He
end TB
/-! L3 -/
/-! rings: rows, forms -/
namespace BX
open PySem PySem.Spec L2
/-- a put and a take of a ring -/
def pu (x : PyData) : PyData := .tuple [.str "put", x]
def tk : PyData := .tuple [.str "take"]
def isRS (d : PyData) : Prop := (∃ x, d = pu x ∧ isLetter x = true) ∨ d = tk
def RRow (xs : List PyData) : Prop := (∀ d ∈ xs, isRS d) ∧ xs.length ≤ 60
def ring (r : Nat) (m : Str) : PyData := .tuple [.str "ring", .int r, .str m]
def okR (r : Nat) (m : Str) : Prop := 1 ≤ r ∧ r ≤ 12 ∧ m ∈ (["drop", "ignore", "fail"] : List Str)
def isPut : PyData → Bool
  | .tuple [_, _] => true
  | _ => false
def partOf : PyData → PyData
  | .tuple [_, x] => x
  | _ => .none
/-- how many of the first letters are kept, and the word behind them -/
abbrev RSt := Nat × List PyData
def cutN (w : List PyData) (m : Nat) : RSt := (m - w.length, w.drop (w.length - m))
def tot (a : RSt) : Nat := a.1 + a.2.length
def stepR (r : Nat) (m : Str) (d : PyData) (a : RSt) : Option RSt :=
  if isPut d = true then (if tot a < r then some (a.1, a.2 ++ [partOf d]) else if m = "fail" then none else if m = "drop" then some ((cutN a.2 (tot a - 1)).1, (cutN a.2 (tot a - 1)).2 ++ [partOf d]) else some a)
  else if tot a = 0 then none else some (cutN a.2 (tot a - 1))
def runR (r : Nat) (m : Str) : List PyData → RSt → Option RSt
  | [], a => some a
  | d :: xs, a => (stepR r m d a).bind (runR r m xs)
def itm (r : Nat) (m : Str) (xs : List PyData) (l : Nat) : Option RSt := runR r m xs (l, [])
def itD : Option RSt → PyData
  | none => .none
  | some (k, w) => .tuple [.int k, .tuple w]
/-- a form: None where no length works -/
def toldR (its : List (Option RSt)) : Option (List (Option RSt)) := if its.all (·.isNone) = true then none else some its
def frmR : Option (List (Option RSt)) → PyData
  | none => .none
  | some its => .tuple (its.map itD)
def formR (r : Nat) (m : Str) (xs : List PyData) : Option (List (Option RSt)) := toldR ((List.range (r + 1)).map (itm r m xs))
def comp (a b : RSt) : RSt := (b.1 - a.2.length, a.2.drop (a.2.length - b.1) ++ b.2)
def joinI (g : List (Option RSt)) : Option RSt → Option RSt
  | none => none
  | some a => (g.getD (tot a) none).map (comp a)
def joinR : Option (List (Option RSt)) → Option (List (Option RSt)) → Option (List (Option RSt))
  | some f, some g => toldR (f.map (joinI g))
  | _, _ => none
def okI (r l : Nat) : Option RSt → Prop
  | none => True
  | some (k, w) => k ≤ l ∧ wd w ∧ k + w.length ≤ r
def okItems (r : Nat) (f : List (Option RSt)) : Prop := f.length = r + 1 ∧ ∀ (l : Nat) it, f[l]? = some it → okI r l it
def okO (r : Nat) : Option (List (Option RSt)) → Prop
  | none => True
  | some f => okItems r f ∧ f.all (·.isNone) = false
/-- words, items and forms told, of any data -/
def isWordB (n : Int) : PyData → Bool
  | .tuple xs => decide ((xs.length : Int) ≤ n) && xs.all isLetter
  | _ => false
def intOf : PyData → Int
  | .int i => i
  | _ => 0
def fitI (r : Int) (l : Int) : PyData → Bool
  | .none => true
  | .tuple [k, w] => betw k 0 l && isWordB (r - intOf k) w
  | _ => false
def fitsI (r : Int) : Int → List PyData → Bool
  | _, [] => true
  | l, v :: vs => fitI r l v && fitsI r (l + 1) vs
def isNoneD : PyData → Bool
  | .none => true
  | _ => false
def isRF (r : Nat) : PyData → Bool
  | .none => true
  | .tuple xs => decide (xs.length = r + 1) && (fitsI r 0 xs && !(xs.all isNoneD))
  | _ => false
/-- data that forms may be mistaken for -/
def mild2 : PyData → Prop
  | .str x => x.length ≤ 100
  | .tuple xs => xs.length ≤ 100 ∧ ∀ x ∈ xs, mild1 x
  | _ => True
def mild3 : PyData → Prop
  | .tuple xs => xs.length ≤ 100 ∧ ∀ x ∈ xs, mild2 x
  | .str x => x.length ≤ 100
  | _ => True
def mild4 : PyData → Prop
  | .tuple xs => xs.length ≤ 100 ∧ ∀ x ∈ xs, mild3 x
  | .str x => x.length ≤ 100
  | _ => True
/-! rings -/
end BX
/-! F10 -/
namespace BX
open PySem PySem.Spec L2
end BX
/-! L4 -/
/-! queues: rows, forms, right ones and others; data is equal to itself -/
namespace BX
open PySem PySem.Spec L2
mutual
theorem eqv_refl : ∀ {d : PyData}, d.canLay0 = true → PyData.eqv d d = true
  | .none, _ => rfl
  | .bool _, _ => by simp [PyData.eqv]
  | .int _, _ => by simp [PyData.eqv]
  | .str _, _ => by simp [PyData.eqv]
  | .list xs, h => by
    simp only [PyData.eqv]
    exact eqvAll_refl (xs := xs) h
  | .tuple xs, h => by
    simp only [PyData.eqv]
    exact eqvAll_refl (xs := xs) h
  | .dict _, h => by cases h
theorem eqvAll_refl : ∀ {xs : List PyData}, PyData.canLayAll0 xs = true → PyData.eqvAll xs xs = true
  | [], _ => by simp [PyData.eqvAll]
  | x :: xs, h => by
    simp only [PyData.canLayAll0, Bool.and_eq_true] at h
    simp only [PyData.eqvAll, Bool.and_eq_true]
    exact ⟨eqv_refl h.1, eqvAll_refl h.2⟩
end
/-- it can be laid, and n deep at most -/
def sh (n : Nat) (d : PyData) : Prop := d.canLay0 = true ∧ d.depth ≤ n
def shA (n : Nat) (xs : List PyData) : Prop := ∀ x ∈ xs, sh n x
theorem canAll : ∀ {xs : List PyData}, (∀ x ∈ xs, x.canLay0 = true) → PyData.canLayAll0 xs = true
  | [], _ => rfl
  | x :: xs, h => by
    simp only [PyData.canLayAll0, Bool.and_eq_true]
    exact ⟨h x List.mem_cons_self, canAll fun y hy => h y (List.mem_cons_of_mem _ hy)⟩
theorem sh_tup {n : Nat} {xs : List PyData} (h : shA n xs) : sh (n + 1) (.tuple xs) := ⟨canAll fun x hx => (h x hx).1, by
  have := depA_of fun x hx => (h x hx).2
  show PyData.depthAll xs + 1 ≤ n + 1
  omega⟩
theorem sh_lst {n : Nat} {xs : List PyData} (h : shA n xs) : sh (n + 1) (.list xs) := ⟨canAll fun x hx => (h x hx).1, by
  have := depA_of fun x hx => (h x hx).2
  show PyData.depthAll xs + 1 ≤ n + 1
  omega⟩
theorem sh_mono {n m : Nat} {d : PyData} (h : sh n d) (l : n ≤ m) : sh m d := ⟨h.1, by have := h.2; omega⟩
theorem sh_nil {n : Nat} : shA n [] := fun x h => by cases h
theorem sh_cons {n : Nat} {x : PyData} {xs : List PyData} (h : sh n x) (k : shA n xs) : shA n (x :: xs) := fun y hy => by
  rcases List.mem_cons.mp hy with rfl | hy
  · exact h
  · exact k y hy
theorem sh_ed {n : Nat} {d : PyData} (h : sh n d) (l : n ≤ 64 := by decide) : SeqAt.shaped d = true := by
  unfold SeqAt.shaped
  simp only [Bool.and_eq_true, decide_eq_true_eq]
  exact ⟨h.1, by have := h.2; omega⟩
theorem neR {n : Nat} {x : PyData} {k : PyData → Prop} (h : sh n x) (q : k (.bool false)) (l : n ≤ 64 := by decide) : neD x x k := ⟨.inr ⟨sh_ed h l, sh_ed h l⟩, by rw [eqv_refl h.1]; exact q⟩
/-! displays of values that stand already -/
def Val (t : DE) (env : Ev) (d : PyData) : Prop := ∀ (Q : PyData → Ev → Prop) (R : Ex → Ev → Prop), Q d env → t env Q R
def Vals0 (ts : List DE) (env : Ev) (ds : List PyData) : Prop := ∀ (Q : List PyData → Ev → Prop) (R : Ex → Ev → Prop), Q ds env → dA (ts.map .d) env Q R
theorem vals_nil {env : Ev} : Vals0 [] env [] := fun _ _ h => h
theorem vals_cons {env : Ev} {t : DE} {ts : List DE} {d : PyData} {ds : List PyData} (h : Val t env d) (k : Vals0 ts env ds) : Vals0 (t :: ts) env (d :: ds) := fun Q R q => h _ _ (k _ _ q)
theorem val_tup {env : Ev} {ts : List DE} {ds : List PyData} (h : Vals0 ts env ds) (l : ds.length ≤ sizeLine := by exact Nat.le_of_ble_eq_true rfl) : Val (dTup ts) env (.tuple ds) := fun Q R q => h _ _ ⟨l, q⟩
theorem val_lst {env : Ev} {ts : List DE} {ds : List PyData} (h : Vals0 ts env ds) (l : ds.length ≤ sizeLine := by exact Nat.le_of_ble_eq_true rfl) : Val (dLst ts) env (.list ds) := fun Q R q => h _ _ ⟨l, q⟩
theorem val_c {env : Ev} {d : PyData} : Val (dC d) env d := fun _ _ h => h
theorem val_var {env : Ev} {i : Nat} {d : PyData} (h : env[i]? = some (.v d)) : Val (dVar i) env d := fun Q R q => by
  unfold dVar
  rw [h]
  exact q
/-! queue forms -/
def frm (u v : List PyData) (d : Nat) : PyData := .tuple [.tuple u, .tuple v, .int d]
def stp (b : Bool) (x : PyData) : PyData := .tuple [.str (if b then "put" else "take"), x]
def isStep (d : PyData) : Prop := ∃ b x, d = stp b x ∧ isLetter x = true
def wayD (b : Bool) : PyData → Bool
  | .tuple [.str s, _] => s == (if b then "put" else "take")
  | _ => false
def sndD : PyData → PyData
  | .tuple [_, x] => x
  | _ => .none
def takes (xs : List PyData) : List PyData := (xs.filter (wayD false)).map sndD
def puts (xs : List PyData) : List PyData := (xs.filter (wayD true)).map sndD
def lack : List PyData → Int
  | [] => 0
  | d :: xs => max 0 (lack xs - if wayD true d = true then 1 else -1)
def okRow (n : Nat) (xs : List PyData) : Prop := (∀ d ∈ xs, isStep d) ∧ (∀ d ∈ xs, sndD d ≠ PyData.str "new") ∧ xs.length ≤ n
open Classical in
noncomputable def sim : List PyData → List PyData → Option (List PyData)
  | [], w => some w
  | d :: xs, w => if wayD true d = true then sim xs (w ++ [sndD d]) else if w.take 1 = [sndD d] then sim xs (w.drop 1) else none
def oD : Option (List PyData) → PyData
  | none => .none
  | some r => .tuple r
/-- right forms among all data -/
def fits3 (u v d : PyData) : Bool := isWordB 4000 u && (isWordB 4000 v && (match u with
  | .tuple u => betw d 0 u.length
  | _ => false))
open Classical in
noncomputable def isQF : PyData → Bool
  | .tuple [u, v, d] => fits3 u v d && (match u, v, d with
    | .tuple u, .tuple v, .int d => decide (okF u v d.toNat)
    | _, _, _ => false)
  | _ => false
open Classical in
noncomputable def bearsQ (u v : List PyData) (d : Nat) (w : List PyData) : Bool := decide (d ≤ w.length) && decide ((w ++ v).take u.length = u)
/-- contents that may be handed in -/
def mildW : PyData → Prop
  | .str x => x.length ≤ 100
  | .tuple xs => xs.length ≤ 5000 ∧ ∀ x ∈ xs, mild1 x
  | _ => True
/-- what a form may be mistaken for -/
def mildF : PyData → Prop
  | .tuple xs => xs.length ≤ 100 ∧ ∀ x ∈ xs, mildW x
  | .str x => x.length ≤ 100
  | _ => True
end BX
/-! F11 -/
/-! sum and max of a list of numbers -/
namespace BX
open PySem PySem.Spec L2
section
variable {X : Cx}
def sumLD : List PyData → (PyData → Prop) → Prop
  | [.list xs], k => ∃ ns, intsOf xs = some ns ∧ k (.int ns.sum)
  | _, _ => False
def maxLD : List PyData → (PyData → Prop) → Prop
  | [.list xs], k => ∃ ns, intsOf xs = some ns ∧ 0 < ns.length ∧ ∀ m, m ∈ ns → (∀ y ∈ ns, y ≤ m) → k (.int m)
  | _, _ => False
end
end BX
/-! L5 -/
/-! gauges: rows, forms, what they do -/
namespace BX
open PySem PySem.Spec L2
def gk (c : Int) (m : Str) : PyData := .tuple [.str "gauge", .int c, .str m]
def okK (c : Int) (m : Str) : Prop := 1 ≤ c ∧ c ≤ 999 ∧ (m = "stop" ∨ m = "fail")
def gst (s : Int) : PyData := .tuple [.str (if 0 < s then "add" else "sub"), .int (if 0 < s then s else -s)]
def okSt (c s : Int) : Prop := s ≠ 0 ∧ -c ≤ s ∧ s ≤ c
def okXs (c : Int) (xs : List Int) : Prop := ∀ s ∈ xs, okSt c s
def rowG (xs : List Int) : PyData := .tuple (xs.map gst)
abbrev GT := Int × Int × Int
abbrev GF := Option GT
def fD : GF → PyData
  | none => .none
  | some (l, s, h) => .tuple [.int l, .int s, .int h]
def oI : Option Int → PyData
  | none => .none
  | some x => .int x
def stopd (f : GT) (n : Int) : Int := max f.1 (min (n + f.2.1) f.2.2)
def mkS (l s h : Int) : GT := (l, if l = h then 0 else s, h)
def stopB (f g : GT) : GT := mkS (stopd g f.1) (f.2.1 + g.2.1) (stopd g f.2.2)
def failB : GF → GF → GF
  | some (l, s, h), some (l2, s2, h2) => if max l (l2 - s) ≤ min h (h2 - s) then some (max l (l2 - s), s + s2, min h (h2 - s)) else none
  | _, _ => none
def bothG (m : Str) : GF → GF → GF
  | some f, some g => if m = "stop" then some (stopB f g) else failB (some f) (some g)
  | _, _ => none
def stepF (m : Str) (c s : Int) : GF := if m = "fail" then some (max 0 (-s), s, c - max 0 s) else some (mkS (max 0 s) s (c + min 0 s))
def formG (m : Str) (c : Int) (xs : List Int) : GF := xs.foldl (fun f s => bothG m f (stepF m c s)) (some (0, 0, c))
def behG (m : Str) (c s x : Int) : Option Int := if m = "fail" then (if 0 ≤ x + s ∧ x + s ≤ c then some (x + s) else none) else some (max 0 (min (x + s) c))
def runG (m : Str) (c : Int) : List Int → Int → Option Int
  | [], x => some x
  | s :: xs, x => (behG m c s x).bind (runG m c xs)
def okG (m : Str) (c : Int) : GF → Prop
  | none => m = "fail"
  | some (l, s, h) => 0 ≤ l ∧ l ≤ h ∧ h ≤ c ∧ (if m = "fail" then 0 ≤ l + s ∧ h + s ≤ c else if l = h then s = 0 else h - c ≤ s ∧ s ≤ l)
def apG (m : Str) : GF → Int → Option Int
  | none, _ => none
  | some (l, s, h), x => if m = "fail" then (if l ≤ x ∧ x ≤ h then some (x + s) else none) else some (max l (min (x + s) h))
theorem fs : ¬ (("fail" : Str) = "stop") := by decide
section
variable {m : Str} {c : Int}
/-- the middle number is the sum where the form is not flat -/
def sumP (m : Str) (t : Int) (f : GF) : Prop := m = "stop" → ∃ l s h, f = some (l, s, h) ∧ (l ≠ h → s = t)
end
end BX
/-! L6 -/
/-! gauges: kinds, rows and forms among all data -/
namespace BX
open PySem PySem.Spec L2
def isGK (k : PyData) : Bool := isKind k && decide (kName k = "gauge")
def mildG (v : PyData) : Prop := ∀ xs, v = .tuple xs → xs.length ≤ 1000
def isGF (m : Str) (c : Int) : PyData → Bool
  | .none => decide (m = "fail")
  | .tuple [.int l, .int s, .int h] => (decide (0 ≤ l) && decide (l ≤ h) && decide (h ≤ c)) && (if m = "fail" then decide (0 ≤ l + s) && decide (h + s ≤ c) else if l = h then decide (s = 0) else decide (h - c ≤ s) && decide (s ≤ l))
  | _ => false
/-- all that a row leaves of all numbers -/
def lotG (m : Str) (c : Int) (xs : List Int) : List PyData := (List.range (c + 1).toNat).map fun (i : Nat) => oI (runG m c xs i)
end BX
/-! L7 -/
namespace BX
open PySem PySem.Spec L2
def m1B : PyData → Bool
  | .str x => decide (x.length ≤ 100)
  | _ => true
def m2B : PyData → Bool
  | .str x => decide (x.length ≤ 100)
  | .tuple xs => decide (xs.length ≤ 100) && xs.all m1B
  | _ => true
def shB (n : Nat) (d : PyData) : Bool := d.canLay0 && decide (d.depth ≤ n)
theorem sh_of {n : Nat} {d : PyData} (h : shB n d = true) : sh n d := by
  obtain ⟨h1, h2⟩ := Bool.and_eq_true_iff.mp h
  exact ⟨h1, of_decide_eq_true h2⟩
def tinyB : PyData → Bool
  | .str x => decide (x.length ≤ 100)
  | .tuple xs => decide (xs.length ≤ 100) && xs.all m1B
  | _ => true
def rowishB : PyData → Bool
  | .tuple xs => decide (xs.length ≤ 1000) && xs.all tinyB
  | _ => true
section
variable {D : DEnds} {ns : List PyData} {s1 s6 s7 s8 s9 s10 s11 s12 : Sl} {s : PyData} {ls xs u v x y : List PyData} {k m d : Nat}
end
/-! statements by their parts, without unfolding what follows -/
abbrev inFor (D : DEnds) (I : Nat → Ev → Prop) (i : Nat) : DEnds := { nx := I (i + 1), ct := I (i + 1), bk := D.nx, rt := D.rt, rs := D.rs, own := D.own }
theorem seq_for {it : DI} {g : DG} {body k : DS} {D : DEnds} {env env1 : Ev} {ds : List PyData} (I : Nat → Ev → Prop) (hit : ∀ K : List PyData → Ev → Prop, K ds env1 → it env K D.rs) (h0 : I 0 env1)
    (hs : ∀ i d env2, ds[i]? = some d → I i env2 → g d env2 fun env3 => body (inFor { D with nx := k D } I i) env3) (he : ∀ env2, I ds.length env2 → k D env2) : sSeq (sFor it g body) k D env := hit _ ⟨I, h0, hs, he⟩
/-- over range(n), n written -/
theorem seq_forC {n : Nat} {v : Nat} {body k : DS} {D : DEnds} {env : Ev} (I : Nat → Ev → Prop) (hn : (n : Int) < 2 ^ 62) (h0 : I 0 env)
    (hs : ∀ (i : Nat) env2, i < n → I i env2 → body (inFor { D with nx := k D } I i) (env2.set v (.v (.int i)))) (he : ∀ env2, I n env2 → k D env2) : sSeq (sFor (iR1 (dC (.int n))) (gN v) body) k D env := by
  refine seq_for (ds := rangeD 0 n) (env1 := env) I (fun K h => ⟨n, rfl, ⟨by omega, hn⟩, h⟩) h0 (fun i d env2 hd hI => ?_) (fun env2 h => he env2 (by rw [rangeD_len] at h; exact h))
  have hi := (List.getElem?_eq_some_iff.mp hd).1
  rw [rangeD_len] at hi
  have e : d = .int ((i : Nat) : Int) := by
    unfold rangeD at hd
    rw [List.getElem?_map, List.getElem?_range hi] at hd
    cases hd
    simp
  subst e
  exact hs i env2 hi hI
theorem seq_if {c : DT} {t u k : DS} {D : DEnds} {env : Ev} (h : c env (fun b env1 => if b = true then t { D with nx := k D } env1 else u { D with nx := k D } env1) D.rs) : sSeq (sIf c t u) k D env := h
end BX
/-! F12 -/
/-! list(range(a)), list(range(a, b)) -/
namespace BX
open PySem PySem.Spec L2
section
variable {X : Cx} {W : WX}
def dLR1 (t : DE) : DE := fun env Q R => t env (fun d env1 => ∃ n, d = .int n ∧ RgOk 0 n ∧ Q (.list (rangeD 0 n.toNat)) env1) R
def dLR2 (t u : DE) : DE := fun env Q R => t env (fun d env1 => u env1 (fun d2 env2 => ∃ a b, d = .int a ∧ d2 = .int b ∧ RgOk a b ∧ Q (.list (rangeD a (b - a).toNat)) env2) R) R
end
end BX
/-! F13 -/
/-! a, b = x, y where a name is a cell: the pair is made and taken apart -/
namespace BX
open PySem PySem.Spec L2
section
variable {X : Cx} {W : WX} {n : Nat}
end
end BX
/-! F14 -/
/-! tuple * n for n up to 10000 -/
namespace BX
open PySem PySem.Spec L2 PyProof.Rows
section
variable {X : Cx}
def mulLD : PyData → PyData → (PyData → Prop) → Prop
  | .tuple xs, .int n, k => (xs ≠ [] ∧ -1000 ≤ n ∧ n ≤ 10000 ∧ xs.length ≤ 100) ∧ k (.tuple (List.replicate n.toNat xs).flatten)
  | _, _, _ => False
end
end BX
/-! L9 -/
/-! queues: forms of rows -/
namespace BX
open PySem PySem.Spec L2
def formOf (xs : List PyData) (k : Nat) : Prop := isNorm (takes xs) (puts xs) (lack xs).toNat k
/-- all contents that are small -/
def wordsOk (n : Nat) (L : List PyData) : Prop := (∀ d ∈ L, ∃ w, d = .tuple w ∧ wd w ∧ w.length ≤ n) ∧ L.length ≤ 1000
def leftQ (u v : List PyData) (w : List PyData) : List PyData := (w ++ v).drop u.length
end BX
/-! L10 -/
/-! queue forms joined -/
namespace BX
open PySem PySem.Spec L2
def okQ4 (u v : List PyData) (d : Nat) : Prop := wd u ∧ wd v ∧ u.length ≤ 4000 ∧ v.length ≤ 4000 ∧ okF u v d
def bothL (u v : List PyData) (d e : Nat) : Nat := max d (e + u.length - v.length)
end BX
/-! L14 -/
/-! statements one at a time; lists of odd things looked through -/
namespace BX
open PySem PySem.Spec L2
/-- an if whose test is False, without else -/
theorem seq_ifF {c : DT} {t k : DS} {D : DEnds} {env : Ev} (h : ∀ (Q : Bool → Ev → Prop) (R : Ex → Ev → Prop), Q false env → c env Q R) (q : k D env) : sSeq (sIf c t sNil) k D env := h _ _ (itF q)
/-- a name is drawn from a list -/
theorem seq_one {i j : Nat} {t : DE} {k : DS} {D : DEnds} {env : Ev} {L : List PyData} {s : PyData} (hv : Val t env (.list L)) (ho : ow env j = some s) (hs : isSrc s) (q : ∀ y ∈ L, ∀ s', isSrc s' → k D ((putO env j s').set i (.v y))) (h1 : 0 < L.length := by decide) (h2 : L.length ≤ 100000 := by exact Nat.le_of_ble_eq_true rfl) : sSeq (sSet i (dCall sp_law_one [.io j, .d t])) k D env := by
  refine ⟨by simp [ioIx], by simp [roIx], by rw [ho]; rfl, ?_⟩
  exact hv _ _ ⟨s, ho, one_go hs (fun y hy s' hs' => q y hy s' hs') h1 h2⟩
def mildB : PyData → Bool
  | .str x => decide (x.length ≤ 100)
  | .tuple xs => SeqAt.shaped (.tuple xs) && decide (xs.length ≤ 100) && xs.all m1B
  | .list xs => decide (xs.length ≤ 100)
  | _ => true
def mildGB : PyData → Bool
  | .tuple xs => decide (xs.length ≤ 1000)
  | _ => true
theorem bnot {b : Bool} (h : (!b) = true) : b = false := by cases b <;> first | rfl | cases h
theorem band {a b : Bool} (h : (a && b) = true) : a = true ∧ b = true := Bool.and_eq_true_iff.mp h
theorem val_neg {a : DE} {env : Ev} {x : Int} (ha : Val a env (.int x)) : Val (dNeg a) env (.int (-x)) := fun Q R q => ha _ _ (by first | exact q | exact ⟨_, rfl, q⟩)
end BX
namespace BX
open PySem PySem.Spec L2
/-- lists of plain data compared -/
theorem eqPL {n : Nat} {u v : List PyData} {k : PyData → Prop} (hu : ∀ x ∈ u, sh n x ∧ pln x = true) (hv : ∀ x ∈ v, sh n x ∧ pln x = true) (h1 : u = v → k (.bool true)) (h2 : u ≠ v → k (.bool false)) (l : n + 1 ≤ 64 := by decide) : eqD (.list u) (.list v) k :=
  ⟨.inr ⟨sh_ed (sh_lst fun x hx => (hu x hx).1) l, sh_ed (sh_lst fun x hx => (hv x hx).1) l⟩, by
    have e : PyData.eqv (.list u) (.list v) = PyData.eqvAll u v := rfl
    rw [e]
    exact of_iff (eqvA_pln (plnA_of fun x hx => (hu x hx).2) (plnA_of fun x hx => (hv x hx).2)) h1 h2⟩
end BX
/-! L15 -/
/-! queue powers: words without end, how often a form is borne -/
namespace BX
open PySem PySem.Spec L2
def cyc (w : List PyData) (b m : Nat) : List PyData := (List.range m).map fun i => w.getD ((b + i) % w.length) .none
/-- a form of a queue, as the law makes them -/
def okQ (u v : List PyData) (d : Nat) : Prop := wd u ∧ wd v ∧ u.length ≤ 20 ∧ v.length ≤ 20 ∧ okF u v d
def depthI (u v : List PyData) (d : Nat) (n : Nat) : Int := max (d : Int) (d + ((n : Int) - 1) * ((u.length : Int) - v.length))
/-- contents and times as the law asks for them -/
def okC (c : List PyData) : Prop := wd c ∧ c.length ≤ 100
/-- the letters of the contents and v without end, and those of u -/
def WW (v c : List PyData) (i : Nat) : PyData := if i < c.length then c.getD i .none else v.getD ((i - c.length) % v.length) .none
def UU (u : List PyData) (i : Nat) : PyData := u.getD (i % u.length) .none
theorem agree_all {α : Type} {f g : Nat → α} {p q s : Nat} (hp : 0 < p) (hq : 0 < q) (hf : ∀ i, f (i + p) = f i) (hg : ∀ i, s ≤ i → g (i + q) = g i) (h : ∀ i, i < s + p + q → g i = f i) : ∀ i, g i = f i := by
  intro i
  induction i using Nat.strongRecOn with
  | ind i ih =>
    by_cases hi : i < s + p + q
    · exact h i hi
    · obtain ⟨j, rfl⟩ : ∃ j, i = j + p + q := ⟨i - p - q, by omega⟩
      have e1 : g (j + p + q) = f j := by rw [hg _ (by omega), ih _ (by omega), hf]
      have e2 : f (j + p + q) = f j := by
        rw [show j + p + q = j + q + p by omega, hf, ← ih (j + q) (by omega), hg _ (by omega), ih _ (by omega)]
      rw [e1, e2]
theorem UU_per {u : List PyData} (i : Nat) : UU u (i + u.length) = UU u i := by unfold UU; rw [Nat.add_mod_right]
section
variable {u v c r : List PyData} {d n : Nat}
theorem okF_lack (ok : okF u v d) : u.length ≤ d + v.length := by
  rcases ok.2 with h | h
  · omega
  · have := h.length_le
    rw [List.length_drop] at this
    omega
end
theorem cyc_len {w : List PyData} {b m : Nat} : (cyc w b m).length = m := by simp [cyc]
theorem cyc_get {w : List PyData} {b m i : Nat} (h : i < m) : (cyc w b m)[i]? = some (UU w (b + i)) := by
  unfold cyc UU
  rw [List.getElem?_map, List.getElem?_range h]
  rfl
theorem UU_let {w : List PyData} (hw : wd w) (h : w ≠ []) (i : Nat) : isLetter (UU w i) = true := letAt hw (Nat.mod_lt _ (List.length_pos_iff.mpr h))
theorem wd_cyc {w : List PyData} {b m : Nat} (hw : wd w) (h : w ≠ [] ∨ m = 0) : wd (cyc w b m) := fun x hx => by
  obtain ⟨i, hi, rfl⟩ := List.mem_map.mp hx
  have hi := List.mem_range.mp hi
  rcases h with h | h
  · exact UU_let hw h _
  · omega
theorem truthT {w : List PyData} : truth (.tuple w) = !w.isEmpty := rfl
theorem truthOkT {w : List PyData} : truthOk (.tuple w) = True := rfl
/-- all letters that times n of the form ask for agree -/
def agr (u v c : List PyData) (n : Nat) : Prop := ∀ i, i < n * u.length → WW v c i = UU u i
def beP (u v : List PyData) (d n : Nat) (c : List PyData) : Prop := depthI u v d n ≤ c.length ∧ agr u v c n
open Classical in
noncomputable def beB (u v : List PyData) (d n : Nat) (c : List PyData) : Bool := decide (beP u v d n c)
/-- the greatest number of times, none when there is none -/
def isMost (u v : List PyData) (d : Nat) (c : List PyData) : Option Nat → Prop
  | none => ∀ n, 1 ≤ n → beP u v d n c
  | some m => (∀ n, 1 ≤ n → n ≤ m → beP u v d n c) ∧ ∀ n, m < n → ¬ beP u v d n c
def oM : Option Nat → PyData
  | none => .none
  | some m => .int (m : Nat)
section
variable {u v c : List PyData} {d n : Nat}
end
end BX
/-! F15 -/
/-! tuple(reversed(name)), name a list of one's own; t[::-1] -/
namespace BX
open PySem PySem.Spec L2 PyProof.Rows
section
open HT
variable {prog : Program} {w : World} {A : Around} {E : Value → Shared → Prop} {s : Shared}
end
section
variable {X : Cx} {W : WX}
def dTupRv (i : Nat) : DE := fun env Q _ => ∃ xs, pk env i = some (.list xs) ∧ Q (.tuple xs.reverse) env
/-! ### t[::-1], t a tuple -/
def tRevT (K : PySem.W.Frag) (te : TE) : TE := fun σ H Q => te σ H fun x H1 => ∃ a xs, x = .ref a ∧ SqT K H1 a xs ∧ NewT H1 Q xs.reverse
def dRevT (t : DE) : DE := fun env Q R => t env (fun d env1 => ∃ xs, d = .tuple xs ∧ Q (.tuple xs.reverse) env1) R
end
end BX
/-! F17 -/
/-! t[::2], t a tuple of three -/
namespace BX
open PySem PySem.Spec L2 PyProof.Rows
section
open HT
variable {prog : Program} {w : World} {A : Around} {E : Value → Shared → Prop} {s : Shared}
end
section
variable {X : Cx} {W : WX}
def dTwoT (t : DE) : DE := fun env Q R => t env (fun d env1 => ∃ x y z, d = .tuple [x, y, z] ∧ Q (.tuple [x, z]) env1) R
end
end BX
/-! F18 -/
/-! range(a, b) wherever it lies; x // y by a great y -/
namespace L2
open PySem PySem.Spec PyProof.Rows
theorem turn_long {P : Program} {w : World} {K : PySem.W.Frag} {tg : Expr} (it : Addr) (lo : Int) (n : Nat) : Turn P w K tg (Itr lo n) [it] it (fun i h => IsLongIter h it (lo + (i : Nat) * 1) ((n : Int) - (i : Nat)) 1) where
  mem := by simp
  obj := fun i h st b hb => by
    have e : b = it := by simpa using hb
    subst e
    exact ⟨_, st, fun v z => by
      have z' : Data.fields _ = Data.cell v := z
      cases z'⟩
  keep := fun i h h' st k => k it (by simp) _ st
  item := by
    intro X hP hw hK hc i pins s σ H E I hf st hg
    subst hP hw hK
    obtain ⟨f0, f1, f2, f3, f4, f5⟩ := hf it (by simp)
    have W := Walks.longrange (prog := X.prog) (w := X.w) (I.ok.hd hc) it lo 1 n
    refine W.item i s _ _ hg st fun v h' tk hv st' kk => ?_
    obtain ⟨t, rfl⟩ := hv
    have I1 : Inv X pins σ H { s with heap := h', toks := tk } := I.turned (fun b o hb e => kk b o (by simpa using hb) e) f0 f1 f3 f4 f5
    refine ⟨_, rfl, go_of (s := { s with heap := h', toks := tk }) (n := "longrange_iterator") st' rfl rfl (by decide) ⟨.int (lo + i), H, I1, ⟨t, ?_⟩, ⟨rfl, rfl⟩, st', fun b hb => (hf b hb).1⟩⟩
    rw [Int.mul_one]
  done := by
    intro X hP hw hK hc i pins s σ H E I hf st hg
    subst hP hw hK
    obtain ⟨f0, f1, f2, f3, f4, f5⟩ := hf it (by simp)
    exact wpAny_pyNext_long_end (I.ok.hd hc) st (by have : n ≤ i := hg; omega) fun h' eb => ⟨rfl, I.turned (t' := s.toks) (fun b o hb e => eb b o hb e) f0 f1 f3 f4 f5⟩
  self := fun _ _ _ _ _ st h => wpAny_pyIter_longiter st h
section
variable {X : Cx} {tg : Expr}
theorem range_itW {pins : List (Addr × Obj)} {σ : St} {H : Hp} {s : Shared} {R : It → Hp → Prop} {E : Value → Shared → Prop} {lo hi : Int} {t u v : Tok} {tk : Nat} (I : Inv X pins σ H s)
    (q : R (Itr lo (hi - lo).toNat) H) : wpAny (model X.prog X.w) X.A (pyIter (.ref s.heap.objs.size)) (PIE X pins σ tg R) E { s with heap := s.heap.push { cls := .type "range", data := .fields #[.int lo t, .int hi u, .int 1 v] }, toks := tk } := by
  have I1 : Inv X pins σ H { s with heap := s.heap.push { cls := .type "range", data := .fields #[.int lo t, .int hi u, .int 1 v] }, toks := tk } := I.kept fun b o e => Heap.get?_push_of_some _ e
  have e1 : lo + ((0 : Nat) : Int) * 1 = lo := by simp
  have e2 : (((hi - lo).toNat : Nat) : Int) - ((0 : Nat) : Int) = Builtin.Range.rangeSize lo hi 1 := by rw [rangeSize_one]; split <;> omega
  cases hs : Builtin.Range.small lo hi 1 with
  | true =>
    refine wpAny_pyIter_range (IsRange.new ..) hs ?_
    refine ⟨(s.heap.push { cls := .type "range", data := .fields #[.int lo t, .int hi u, .int 1 v] }).objs.size, [(s.heap.push { cls := .type "range", data := .fields #[.int lo t, .int hi u, .int 1 v] }).objs.size], _, _, H, rfl,
      I1.kept (t' := tk) fun b o e => Heap.get?_push_of_some _ e, turn_range _ lo (hi - lo).toNat, ?_, fun b hb => ?_, q⟩
    · show IsRangeIter _ _ (lo + ((0 : Nat) : Int) * 1) ((((hi - lo).toNat : Nat) : Int) - ((0 : Nat) : Int)) 1
      rw [e1, e2]
      exact Heap.get?_push_size _ rfl
    · have e : b = (s.heap.push { cls := .type "range", data := .fields #[.int lo t, .int hi u, .int 1 v] }).objs.size := by simpa using hb
      subst e
      exact I1.fpOk (Nat.le_refl _) (I1.hok.fresh (Nat.le_refl _))
  | false =>
    refine wpAny_pyIter_longrange (IsRange.new ..) hs ?_
    refine ⟨(s.heap.push { cls := .type "range", data := .fields #[.int lo t, .int hi u, .int 1 v] }).objs.size, [(s.heap.push { cls := .type "range", data := .fields #[.int lo t, .int hi u, .int 1 v] }).objs.size], _, _, H, rfl,
      I1.kept (t' := tk) fun b o e => Heap.get?_push_of_some _ e, turn_long _ lo (hi - lo).toNat, ?_, fun b hb => ?_, q⟩
    · show IsLongIter _ _ (lo + ((0 : Nat) : Int) * 1) ((((hi - lo).toNat : Nat) : Int) - ((0 : Nat) : Int)) 1
      rw [e1, e2]
      exact Heap.get?_push_size _ rfl
    · have e : b = (s.heap.push { cls := .type "range", data := .fields #[.int lo t, .int hi u, .int 1 v] }).objs.size := by simpa using hb
      subst e
      exact I1.fpOk (Nat.le_refl _) (I1.hok.fresh (Nat.le_refl _))
def iRng2W (ta : TA) : TI := fun σ H R => ta σ H fun vs H1 => ∃ i j : Int, vs = [.int i, .int j] ∧ R (Itr i (j - i).toNat) H1
theorem pi_range2W {a b : Expr} {ta : TA} {p pos : Pos} (hg : Gl X "range") (hm : X.mg "range" = none) (ha : PA X [a, b] ta) (hs : starEach [a, b] X.env = [(false, eval a X.env), (false, eval b X.env)] := by rfl) (hs2 : starEach [b] X.env = [(false, eval b X.env)] := by rfl) :
    PI X tg (.Call (.Name "range" p) [a, b] [] pos) (iRng2W ta) := by
  refine ⟨fun pins s σ H R I h => ?_⟩
  refine Call_ (ld_blt I hg hm boot_range (PyProof.Rows.callWith_type1 (thn (ha.run pos pins s σ H _ I h) fun us s1 ⟨vs, H1, I1, r1, q1⟩ => ?_) (by rw [hs, hs2]) (by rw [hs2]; rfl)))
  obtain ⟨i, j, e, q⟩ := q1
  subst e
  cases r1 with
  | cons r rr =>
    cases rr with
    | cons r' rr =>
      cases rr
      obtain ⟨t, rfl⟩ := r
      obtain ⟨t', rfl⟩ := r'
      exact call_range_2 (range_itW I1 q)
end
end L2
namespace BX
open PySem PySem.Spec L2
section
variable {X : Cx} {W : WX} {tg : Expr} {n : Nat} {B : Base} {F : Hp}
def iR2W (t u : DE) : DI := fun env Q R => t env (fun d env1 => u env1 (fun d2 env2 => ∃ i j, d = .int i ∧ d2 = .int j ∧ Q (rangeD i (j - i).toNat) env2) R) R
theorem ji_range2W {a b : Expr} {t u : DE} {p pos : Pos} (hg : Gl X "range") (hm : X.mg "range" = none) (h : JE X W a t) (h' : JE X W b u) (hs : starEach [a, b] X.env = [(false, eval a X.env), (false, eval b X.env)] := by rfl) (hs2 : starEach [b] X.env = [(false, eval b X.env)] := by rfl) :
    JI X W tg (.Call (.Name "range" p) [a, b] [] pos) (iR2W t u) :=
  ⟨PI.imp (pi_range2W hg hm (pa_cons h.pe (pa_cons h'.pe pa_nil hs2) (by rw [hs, hs2])) hs hs2) fun σ H Q ⟨B, F, env, Qd, R, A, q, k⟩ => A.go (t := t) q fun v d H1 F1 env1 a A1 q1 => A1.go (t := u) q1 fun v2 d2 H2 F2 env2 a2 A2 ⟨i, j, e1, e2, q2⟩ => by
    subst e1 e2
    have r := a.rp
    cases r
    have r := a2.rp
    cases r
    exact ⟨i, j, rfl, k _ _ H2 F2 env2 a2.ly (a.le.trans a2.le) itr_ok q2⟩⟩
def fdivWD := int2 CDivW fun i j => .int (i / j)
theorem o_fdivW : OpS X (binaryOp .FloorDiv) fdivWD := (opS_int (fun i j => .int (i / j)) op_fdivW fun _ _ _ _ => .int _).imp fun x y k h => int2_of h
theorem fdivWI {i j : Int} {k : PyData → Prop} : fdivWD (.int i) (.int j) k = (CDivW i j ∧ k (.int (i / j))) := rfl
end
end BX
/-! F73 -/
/-! lambdas that are kept: function objects frozen in F -/
namespace BX
open PySem PySem.Spec L2 PyProof.Rows
/-- a function object that stands is told -/
theorem inv_mark {X : Cx} {pins : List (Addr × Obj)} {σ : List (Option V)} {H : Hp} {s : Shared} {f c : Addr} {ob : Obj} (I : Inv X pins σ H s) (hf : s.heap.get? f = some ob) (hn : H f = none) (hX : X.s_0.heap.objs.size ≤ f) (hl : X.env.locals ≠ f) (hc : ∀ x c, List.lookup x X.env.cells = some c → c ≠ f) (hp : ∀ p ∈ X.pn ++ pins, p.1 ≠ f) : Inv X pins σ (upd H f (.frz ob (.own c))) s where
  ok := I.ok
  os := I.os
  bare := I.bare
  base := {
    keep := I.base.keep
    slot := I.base.slot
    free := fun b o e h hx => by
      have hb : b ≠ f := Nat.ne_of_lt (Nat.lt_of_lt_of_le (Heap.lt_size e) hX)
      rw [upd_ne hb]
      exact I.base.free b o e h hx
    there := I.base.there
    tups := fun b xs e => by
      have := I.base.tups b xs e
      rw [upd_ne (ne_of_none this hn)]; exact this
    frzs := fun b o u e => by
      have := I.base.frzs b o u e
      rw [upd_ne (ne_of_none this hn)]; exact this
    tbls := fun b ps e => by
      obtain ⟨more, h⟩ := I.base.tbls b ps e
      exact ⟨more, by rw [upd_ne (ne_of_none h hn)]; exact h⟩ }
  loc := I.loc
  cell := I.cell
  free := by rw [upd_ne hl]; exact I.free
  freeC := fun x c e => by rw [upd_ne (hc x c e)]; exact I.freeC x c e
  pin := fun p h => by
    obtain ⟨h1, h2, h3⟩ := I.pin p h
    exact ⟨h1, by rw [upd_ne (hp p h)]; exact h2, h3⟩
  hok := fun a o e => by
    by_cases ha : a = f
    · subst ha
      rw [upd_same] at e
      cases e
      exact ⟨hf, ob, hf⟩
    · rw [upd_ne ha] at e
      exact (I.hok a o e).stay (fun b u _ h => h) (fun b h => by rw [upd_ne (ne_of_none h hn)]; exact h) (fun b xs h => by rw [upd_ne (ne_of_none h hn)]; exact h)
  len := I.len
section
variable {K : PySem.W.Frag} {B : Base} {σ : L2.St} {H F : Hp} {env : Ev}
/-- a new function object, told from now on -/
theorem Ly.newF (L : Ly K B σ H F env) {p c : Addr} {ob : Obj} {fd : FuncData} (hp : H p = none) (hd : ob.data = .func fd) (hc : H c = some (LamX.CodeO c fd.qualname)) : Ly K B σ (upd H p (.frz ob (.own c))) (upd F p (.frz ob (.own c))) env where
  len := L.len
  tb := ⟨Tabs.new L.tb.tab hp, upd_nt L.tb.nt (fun _ z => by cases z), L.tb.ft, fun f ob' fd' c' e q => by
    have hcp : ∀ {x o}, H x = some o → upd H p (.frz ob (.own c)) x = some o := fun {x o} h => by rw [upd_ne (ne_of_none h hp)]; exact h
    by_cases hf : f = p
    · subst hf
      rw [upd_same] at q
      cases q
      rw [hd] at e
      cases e
      exact hcp hc
    · rw [upd_ne hf] at q
      exact hcp (L.tb.fn f ob' fd' c' e q)⟩
  sub := fun b u e => by
    by_cases hb : b = p
    · subst hb; rw [upd_same] at e ⊢; exact e
    · rw [upd_ne hb] at e ⊢; exact L.sub b u e
  ext := fun b u e => by rw [upd_ne (ne_of_none (L.sub _ _ (L.ext b u e)) hp)]; exact L.ext b u e
  new := fun b u e => by
    by_cases hb : b = p
    · subst hb
      exact .inl (L.keep.free hp)
    · rw [upd_ne hb] at e; exact L.new b u e
  keep := fun b u e => by rw [upd_ne (ne_of_none (L.keep b u e) hp)]; exact L.keep b u e
  val := fun i d e => by
    obtain ⟨x, h1, h2⟩ := L.val i d e
    exact ⟨x, h1, h2.le (Le.up (L.sub.free hp))⟩
  rd := fun i ds e => by
    obtain ⟨a, xs, h1, h2, h3⟩ := L.rd i ds e
    exact ⟨a, xs, h1, h2, h3.le (Le.up (L.sub.free hp))⟩
  rol := L.rol
  xs := fun i o e => ⟨(L.xs i o e).1, o.mono (Le.up (L.sub.free hp)) (L.xs i o e).2⟩
  iof := L.iof
  own := fun i d e => by
    obtain ⟨a, h1, h2, h3, h4⟩ := L.own i d e
    obtain ⟨o', h5⟩ := h4.ob
    have ha : a ≠ p := ne_of_none h5 hp
    exact ⟨a, h1, by rw [upd_ne ha]; exact h2, h3, h4.le (Le.up (L.sub.free hp)) (by rw [upd_ne ha])⟩
  apart := L.apart
end
/-- a lambda's function object, as it is made in X -/
abbrev lamOb (X : Cx) (params : Arguments) (body : Expr) (scope : Scope) (pm ctv : Value) (c : Addr) : Obj := PySem.W.kla_obj "<lambda>" (X.env.qual ++ "<lambda>") params body scope (cloFrom X.env.cells scope.names []) pm c ctv
/-- a lambda of X that F tells -/
def FLam (X : Cx) (params : Arguments) (body : Expr) (scope : Scope) (f : Addr) (F : Hp) : Prop := ∃ pm ctv c, F f = some (.frz (lamOb X params body scope pm ctv c) (.own c))
theorem FLam.le {X : Cx} {params : Arguments} {body : Expr} {scope : Scope} {f : Addr} {F G : Hp} (h : FLam X params body scope f F) (l : Le F G) : FLam X params body scope f G := by
  obtain ⟨pm, ctv, c, h⟩ := h
  exact ⟨pm, ctv, c, l _ _ h⟩
section
variable {X : Cx} {W : WX} {pins : List (Addr × Obj)} {σ : L2.St} {H F : Hp} {s : Shared} {B : Base} {env : Ev}
/-- a lambda is made and told -/
theorem lam_kept {c P : Addr} {params : Arguments} {body : Expr} {scope : Scope} {pos : Pos} {E Q : Value → Shared → Prop} (I : Inv X pins σ H s) (L0 : Ly X.K B σ H F env) (TB : LamX.TabB X.base X.mg c P) (hcode : X.env.code = .ref c) (hm : (P, X.env.qual ++ "<lambda>") ∈ tabsK X.K)
    (hu : ∀ p ∈ tabsK X.K, p.1 = P → p.2 = X.env.qual ++ "<lambda>") (hd : defaultsOf params X.env = ([], [])) (hf : ∀ y ∈ scope.names, y.2 = .free → ∃ c, X.env.cells.lookup y.1 = some c)
    (go : ∀ (f : Addr) (H1 F1 : Hp) (s1 : Shared), Inv X pins σ H1 s1 → Ly X.K B σ H1 F1 env → Le F F1 → FLam X params body scope f F1 → B.fr f = none → (∀ i d, ow env i = some d → σ[i]? ≠ some (some (.ref f))) → Q (.ref f) s1) :
    wpAny (model X.prog X.w) X.A (eval (.Lambda params body scope pos) X.env) Q E s := by
  have tabP : ∃ ps, H P = some (.tbl ps) := by
    obtain ⟨ps, z, _⟩ := L0.tb.tab _ hm
    exact ⟨ps, z⟩
  refine lam_made I TB hcode hm hu L0.tb.tab hd hf fun f c' pm ctv H1 s1 I1 M hfo hfn hfr hsz => ?_
  have L1 := L0.made M tabP
  obtain ⟨ps, hP, tr, told⟩ := M.told
  have hcc : H1 c' = some (LamX.CodeO c' (X.env.qual ++ "<lambda>")) := by
    obtain ⟨ps2, t1, t2, t3⟩ := L1.tb.tab _ hm
    rw [hP] at t1
    cases t1
    obtain ⟨c2, ec, hc2⟩ := t3 pos (.ref c') told
    cases ec
    exact hc2
  have hlt := I.lt
  have hab := I.ok.above
  have I2 := inv_mark (c := c') I1 hfo hfn (Nat.le_trans hab (Nat.le_trans (Nat.le_of_lt hlt) hsz)) (Nat.ne_of_lt (Nat.lt_of_lt_of_le hlt hsz)) (fun x c e => by
    obtain ⟨v, hv⟩ := I.cell x c e
    obtain ⟨o, ho, _⟩ := hv
    exact Nat.ne_of_lt (Nat.lt_of_lt_of_le (Heap.lt_size ho) hsz)) (fun p hp => by
    exact Nat.ne_of_lt (Nat.lt_of_lt_of_le (Heap.lt_size (I.pin p hp).1) hsz))
  refine go f _ _ s1 I2 (L1.newF (fd := PySem.W.kla_fn "<lambda>" (X.env.qual ++ "<lambda>") params body scope (cloFrom X.env.cells scope.names []) pm (.ref c') ctv) hfn rfl hcc) (Le.up (L1.sub.free hfn)) ⟨pm, ctv, c', upd_same⟩ (L1.keep.free hfn) fun i d e z => ?_
  obtain ⟨a, q1, q2, q3, q4⟩ := L1.own i d e
  rw [z] at q1
  cases q1
  obtain ⟨o, q5⟩ := q4.ob
  rw [hfn] at q5
  cases q5
end
/-- a kept lambda, lent to a def -/
def lamF (X : Cx) (params : Arguments) (body : Expr) (scope : Scope) (F : Hp) (f : Addr) : XO := ⟨f, fun _ F' => Le F F' ∧ FLam X params body scope f F', fun l h => ⟨h.1.trans l, h.2.le l⟩⟩
section
variable {X : Cx} {pins : List (Addr × Obj)} {σ : L2.St} {H F : Hp} {s : Shared} {B : Base} {env : Ev}
/-- a(), in the def that got a kept lambda -/
theorem j_actF {N : List Str} {x a : Str} {st : Stmt} {g f : Addr} {cdv : Value} {params : Arguments} {body : Expr} {scope : Scope} {m k : Nat} {te : DE} {pn : List (Addr × Obj)} {xe : Value → Shared → Prop} {W' : WX} {E0 : XK} {p1 p2 : Pos}
    (I : Inv X pins σ H s) (L : LamX.LamS X.env.scope scope) (LX : Ly X.K B σ H F env) (hbind : ∀ (q : Str) (cl : List (Str × Addr)) (pm cv ctv : Value), bindArgs (PySem.W.kla_fn "<lambda>" q params body scope cl pm cv ctv) ⟨[], []⟩ = pure []) (nd : X.N.Nodup)
    (hbody : ∀ (A : Around) (outer : List PySem.Env) (s : Shared) (H : Hp) (E : XK) (f c' : Addr), Gd (LamX.lamCx X A outer s H E scope f c') (wB E) m → JE (LamX.lamCx X A outer s H E scope f c') (wB E) body te)
    (hN : N[0]? = some a) (hv : Vis (defScope st) a) (hd1 : (a == ("__debug__" : Str)) = false) (hd2 : (a == ("__classdict__" : Str)) = false)
    (gd : Gd ((cxB X.prog X.w X.K X.mg X.base N x st g cdv X.A X.stack s H E0).tr pn xe) W' k) (hk : m + 1 ≤ k) :
    JE ((cxB X.prog X.w X.K X.mg X.base N x st g cdv X.A X.stack s H E0).tr pn xe) W' (.Call (.Name a p1) [] [] p2) (dAct (lamF X params body scope F f) 0 (lamT te env)) := by
  refine ⟨⟨fun pinsZ sZ σZ HZ Q IZ h => ?_⟩⟩
  obtain ⟨BZ, FZ, envZ, Qd, R, A, ⟨hx, Kd, Ed, ht, hK, hE⟩, kont⟩ := h
  have ht : te (onlyV env) (fun d _ => Kd d) (fun ex _ => Ed ex) := ht
  obtain ⟨hs, le⟩ := A.ly.xs 0 _ hx
  obtain ⟨le, pm, ctv, c', hFf⟩ : Le F FZ ∧ FLam X params body scope f FZ := le
  have hs : σZ[0]? = some (some (.ref f)) := hs
  refine wpAny_Call_Name_kw (thn ((pe_var (pos := p1) (i := 0) hN hv hd1 hd2).run pinsZ sZ σZ HZ (fun v H1 => v = .ref f ∧ H1 = HZ) IZ ⟨.ref f, hs, rfl, rfl⟩) fun u s1 ⟨v, H1, I1, r1, e1, e2⟩ => ?_)
  subst e1 e2
  have eu : u = Value.ref f := r1
  subst eu
  have un : Un (frs X.stack) [] H H1 s.heap s1.heap := I1.base
  have of1 : s1.heap.get? f = some (lamOb X params body scope pm ctv c') := (I1.hok _ _ (A.ly.sub f _ hFf)).1
  refine PySem.W.callWith_F0 ⟨_, _, _, _, of1⟩ ?_
  have hc2 := A.ly.tb.fn f _ _ c' rfl hFf
  obtain ⟨⟨oc, vs, t, hoc, hdc, hvc⟩, _, _⟩ := I1.hok _ _ hc2
  -- the wishes of the body
  let E : XK := fun cls d H' => W' cls d σZ H'
  let Bl : Base := ⟨FZ, less H1 [], less H1 [], fun _ => none⟩
  have LL : Ly X.K Bl σ H1 FZ (onlyV env) := LX.lam A.ly le
  have backL : ∀ σ' H' F' env', Ly X.K Bl σ' H' F' env' → Ly X.K BZ σZ H' F' envZ ∧ Le FZ F' := fun σ' H' F' env' l => by
    have z := A.ly.called (is := []) (outs := []) (F' := F') (H' := H') (by intro i hi; cases hi) List.nodup_nil ⟨l.ext, l.sub, l.keep, l.tb, l.new, .nil⟩
    exact ⟨z, l.ext⟩
  have rc : codeAny (model X.prog X.w) (X.A.deeper (envOfC x (defScope st) s.heap.objs.size g cdv)) (.call (.ref f) ⟨[], []⟩) (CR (L2.CX X.prog X.w) (envOfC x (defScope st) s.heap.objs.size g cdv :: X.stack) X.prog X.w H1 s1 Q E) s1 := by
    have room : Room (m + 1) (X.A.deeper (envOfC x (defScope st) s.heap.objs.size g cdv)) := gd.room.mono hk
    refine PySem.W.kla_callFunE room.depth of1 rfl L.co L.gen rfl ⟨_, oc, vs, t, rfl, hoc, hdc, hvc⟩ ?_
    rw [hbind]
    refine wpAny_pure (wpAny_newFunctionEnv (fun y hy => (L.own y hy).2) (fun y hy => absurd hy (by simp)) (fun h1 hns hsb => ⟨I1.nolimit.fresh _ hsb, ?_⟩) L.kind)
    have kp : ∀ b o, s1.heap.get? b = some o → h1.get? b = some o := fun b o e => hsb.extBut b o (Nat.ne_of_lt (Heap.lt_size e)) (Heap.get?_push_of_some _ e)
    have J := LamX.lam_start2 (A := X.A.deeper (envOfC x (defScope st) s.heap.objs.size g cdv)) (outer := envOfC x (defScope st) s.heap.objs.size g cdv :: X.stack) (E := E) (f := f) (c' := c') (tk := s1.toks + ([] : List (Str × Value)).length) I L I1.env0 room.hd un hns kp
    refine PySem.W.kla_codeExpr (wpAny_mono ((hbody _ _ s1 H1 E f c' ⟨rfl, nd, room.deeper _, takes_of rfl rfl rfl rfl, passes_of rfl, gd.gu⟩).pe.run [] _ _ H1 Q J ?_) (fun v s' hq => ?_) fun e s' hq => hq)
    · refine ⟨Bl, FZ, onlyV env, _, _, ⟨LL, fun cls d σ' H' hw => ?_⟩, ht, fun v d H' F' env' af q => ?_⟩
      · obtain ⟨F', env', ex, l, r, q⟩ := hw
        exact A.wi cls d σZ H' ⟨F', envZ, ex, (backL _ _ _ _ l).1, r, hE ex q⟩
      · obtain ⟨z, lz⟩ := backL _ _ _ _ af.ly
        exact kont v d H' F' envZ ⟨z, lz, af.rp⟩ (hK d q)
    · obtain ⟨w', H', J', rv, q⟩ := hq
      exact ⟨w', H', J'.os, J'.bare, J'.base, J'.hok, rv, q⟩
  refine wpAny_call (codeAny_mono rc fun r s' hq => ?_)
  cases r with
  | error e => exact gd.tk e s' (XE.of_call I1 (fun cls d H' h => h) hq)
  | ok fl =>
    cases fl with
    | ret u => exact I1.after hq
    | next => exact False.elim hq
    | brk => exact False.elim hq
    | cont => exact False.elim hq
end
/-- a kept lambda, in a slot -/
def keptO (X : Cx) (params : Arguments) (body : Expr) (scope : Scope) (f : Addr) : XO := ⟨f, fun _ F' => FLam X params body scope f F', fun l h => h.le l⟩
/-- x(y), where slot i holds a kept lambda with the body te -/
def dKept (o : XO) (i : Nat) (sp : SpL) (te : DE) : DE := fun env Q R => env[i]? = some (.x o) ∧ sp (lamT te env) (fun d => Q d env) fun ex => R ex env
section
variable {X : Cx} {W : WX} {n : Nat}
theorem j_kept {x y : Str} {k0 m i : Nat} {f : Addr} {sp : SpL} {te : DE} {params : Arguments} {body : Expr} {scope : Scope} {p py pos : Pos} (C : CalL X.prog X.w X.K X.mg X.base x k0 sp) (gd : Gd X W (n + 1)) (hk0 : k0 ≤ n) (hm : m + 1 ≤ n) (hg : Gl X x)
    (hy : X.N[i]? = some y) (hyv : Vis X.env.scope y) (hy1 : (y == ("__debug__" : Str)) = false) (hy2 : (y == ("__classdict__" : Str)) = false)
    (L : LamX.LamS X.env.scope scope) (hbind : ∀ (q : Str) (cl : List (Str × Addr)) (pm cv ctv : Value), bindArgs (PySem.W.kla_fn "<lambda>" q params body scope cl pm cv ctv) ⟨[], []⟩ = pure [])
    (hbody : ∀ (A : Around) (outer : List PySem.Env) (s : Shared) (H : Hp) (E : XK) (f c' : Addr), Gd (LamX.lamCx X A outer s H E scope f c') (wB E) m → JE (LamX.lamCx X A outer s H E scope f c') (wB E) body te)
    (hdb : (x == ("__debug__" : Str)) = false := by decide) : JE X W (.Call (.Name x p) [.Name y py] [] pos) (dKept (keptO X params body scope f) i sp te) := by
  obtain ⟨st, a, N, g, fd, bodyD, D, S, hN, hv, hd1, hd2, hb, hw⟩ := C.at_
  refine ⟨⟨fun pins s σ H Q I h => ?_⟩⟩
  obtain ⟨B, F, env, Qd, R, A, ⟨hx, hs⟩, kont⟩ := h
  have hs : sp (lamT te env) (fun d => Qd d env) (fun ex => R ex env) := hs
  obtain ⟨hsl, hF⟩ := A.ly.xs i _ hx
  have hF : FLam X params body scope f F := hF
  have hsl : σ[i]? = some (some (.ref f)) := hsl
  refine wpAny_Call_Name_kw (ld_glob I hg D.gm ?_ hdb)
  refine PySem.W.callWith_K (h₀ := X.base) I.ok.mod.kin D.fn.kp ?_ (by rfl) (by rfl)
  show wpAny _ _ (spliced ((false, eval (.Name y py) X.env) :: backTo pos (starEach [] X.env))) _ _ s
  refine Calls.spliced_cons (thn ((pe_var (pos := py) (i := i) hy hyv hy1 hy2).run pins s σ H (fun v H1 => v = .ref f ∧ H1 = H) I ⟨.ref f, hsl, rfl, rfl⟩) fun u s1 ⟨v, H1, I1, r1, e1, e2⟩ => ?_)
  subst e1 e2
  have eu : u = Value.ref f := r1
  subst eu
  refine Calls.spliced_nil ⟨I1.kIn, ?_⟩
  have L1 := A.ly
  let E : XK := fun cls d H' => W cls d σ H'
  let Bg : Base := ⟨F, less H1 [], less H1 [], fun _ => none⟩
  have backL : ∀ σ' H' F' env', Ly X.K Bg σ' H' F' env' → Ly X.K B σ H' F' env ∧ Le F F' := fun σ' H' F' env' l => by
    have z := L1.called (is := []) (outs := []) (F' := F') (H' := H') (by intro i hi; cases hi) List.nodup_nil ⟨l.ext, l.sub, l.keep, l.tb, l.new, .nil⟩
    exact ⟨z, l.ext⟩
  obtain ⟨oc, od, kV, doc, pm, an, cdv, ct, osl, efd, lk, hcd⟩ := D.fn.ex
  subst efd
  have rc : codeAny (model X.prog X.w) X.A (.call (.ref g) ⟨[.ref f], []⟩) (CR (L2.CX X.prog X.w) X.stack X.prog X.w H1 s1 Q E) s1 := by
    refine LamX.run_ofS (N := N) (ps := [a]) (us := [.ref f]) (vs := [.ref f]) lk hcd S (k := n) gd.room I1.env0 (.of_eq (D.bq [.ref f] rfl)) (.cons rfl .nil) rfl fun hr' => ?_
    have gdZ : Gd (cxB X.prog X.w X.K X.mg X.base N x st g cdv X.A X.stack s1 H1 E) (wB E) n := ⟨rfl, S.nd, hr', takes_of rfl rfl rfl rfl, passes_of rfl, gd.gu⟩
    refine ⟨_, (hb n hk0 (dAct (lamF X params body scope F f) 0 (lamT te env)) cdv X.A X.stack s1 H1 E (fun pn xe W' p1 p2 gz => j_actF I1 L L1 hbind gd.nd hbody hN hv hd1 hd2 gz hm) gdZ).ps, ?_⟩
    refine ⟨Bg, F, _, { nx := fun _ => Qd .none env, rt := fun d _ => Qd d env, rs := fun ex _ => R ex env }, ⟨?_, ?_⟩, hw (lamF X params body scope F f) _ _ _ hs, ⟨?_, ?_, ?_, ?_⟩⟩
    · have hlN : 1 ≤ N.length := by
        have := (List.getElem?_eq_some_iff.mp hN).1
        omega
      have at0 : ∀ {i : Nat} {sl : Sl}, (Sl.x (lamF X params body scope F f) :: List.replicate (N.length - 1) Sl.e)[i]? = some sl → (i = 0 ∧ sl = .x (lamF X params body scope F f)) ∨ sl = .e := fun {i sl} e => by
        cases i with
        | zero => cases e; exact .inl ⟨rfl, rfl⟩
        | succ i =>
          have e : (List.replicate (N.length - 1) Sl.e)[i]? = some sl := e
          obtain ⟨h1, h2⟩ := List.getElem?_eq_some_iff.mp e
          rw [List.getElem_replicate] at h2
          exact .inr h2.symm
      exact {
        len := by
          show (L2.start N [V.ref f]).length = _
          unfold L2.start
          simp only [List.length_append, List.length_cons, List.length_replicate, List.length_map, List.length_nil]
          omega
        sub := L1.sub
        ext := Le.refl _
        new := fun b o e => .inr e
        keep := fun b o e => less_le (H := H1) (A := []) b o e
        tb := ⟨L1.tb.tab, L1.tb.nt, fun b ps => less_nt (H := H1) (A := []) b ps, L1.tb.fn⟩
        val := fun i d e => by rcases at0 e with ⟨_, e1⟩ | e1 <;> cases e1
        rd := fun i ds e => by rcases at0 e with ⟨_, e1⟩ | e1 <;> cases e1
        rol := Le.refl _
        xs := fun i o e => by
          rcases at0 e with ⟨rfl, e1⟩ | e1
          · cases e1
            exact ⟨start_get rfl, Le.refl _, hF⟩
          · cases e1
        iof := fun i d e => by rcases at0 e with ⟨_, e1⟩ | e1 <;> cases e1
        own := fun i d e => by
          exfalso
          unfold ow at e
          split at e
          · rename_i q; rcases at0 q with ⟨_, e1⟩ | e1 <;> cases e1
          · rename_i q; rcases at0 q with ⟨_, e1⟩ | e1 <;> cases e1
          · cases e
        apart := fun i j b d d' e => by
          exfalso
          unfold ow at e
          split at e
          · rename_i q; rcases at0 q with ⟨_, e1⟩ | e1 <;> cases e1
          · rename_i q; rcases at0 q with ⟨_, e1⟩ | e1 <;> cases e1
          · cases e }
    · rintro cls d σ' H' ⟨F', env', ex, l, r, q⟩
      exact A.wi cls d σ H' ⟨F', env, ex, (backL _ _ _ _ l).1, r, q⟩
    · rintro σ' H' F' env' l _ q
      obtain ⟨z, lz⟩ := backL _ _ _ _ l
      exact kont .non .none H' F' env ⟨z, lz, .non⟩ q
    · rintro σ' H' F' env' v d l _ r q
      obtain ⟨z, lz⟩ := backL _ _ _ _ l
      exact kont v d H' F' env ⟨z, lz, r⟩ q
    · rintro σ' H' F' env' l _ q; exact q
    · rintro σ' H' F' env' l _ q; exact q
  refine wpAny_call (codeAny_mono rc fun r s2 hq => ?_)
  cases r with
  | error e => exact gd.tk e s2 (XE.of_call I1 (fun cls d H' h => h) hq)
  | ok fl =>
    cases fl with
    | ret u => exact I1.after hq
    | next => exact False.elim hq
    | brk => exact False.elim hq
    | cont => exact False.elim hq
end
end BX
/-! F74 -/
/-! for due, told in [[d, lambda: e], ..] -/
namespace BX
open PySem PySem.Spec L2 PyProof.Rows
/-- a lambda of X whose body is te -/
structure LamOk (X : Cx) (m : Nat) (params : Arguments) (body : Expr) (scope : Scope) (te : DE) : Prop where
  L : LamX.LamS X.env.scope scope
  hd : defaultsOf params X.env = ([], [])
  hbind : ∀ (q : Str) (cl : List (Str × Addr)) (pm cv ctv : Value), bindArgs (PySem.W.kla_fn "<lambda>" q params body scope cl pm cv ctv) ⟨[], []⟩ = pure []
  hbody : ∀ (A : Around) (outer : List PySem.Env) (s : Shared) (H : Hp) (E : XK) (f c' : Addr), Gd (LamX.lamCx X A outer s H E scope f c') (wB E) m → JE (LamX.lamCx X A outer s H E scope f c') (wB E) body te
/-- [d, lambda: te], told -/
def PairF (X : Cx) (m : Nat) (p : Addr) (d : PyData) (te : DE) (F : Hp) : Prop := ∃ v params body scope f, F p = some (.lst [v, .ref f]) ∧ Rp X.K F v d ∧ LamOk X m params body scope te ∧ FLam X params body scope f F
theorem PairF.le {X : Cx} {m : Nat} {p : Addr} {d : PyData} {te : DE} {F G : Hp} (h : PairF X m p d te F) (l : Le F G) : PairF X m p d te G := by
  obtain ⟨v, a, b, c, f, h1, h2, h3, h4⟩ := h
  exact ⟨v, a, b, c, f, l _ _ h1, h2.le l, h3, h4.le l⟩
def PairsF (X : Cx) (m : Nat) (F : Hp) : List V → List PyData → List (DE × DE) → Prop
  | [], [], [] => True
  | .ref p :: vs, d :: ds, (_, te) :: ps => PairF X m p d te F ∧ PairsF X m F vs ds ps
  | _, _, _ => False
theorem PairsF.le {X : Cx} {m : Nat} {F G : Hp} (l : Le F G) : ∀ {vs : List V} {ds : List PyData} {ps : List (DE × DE)}, PairsF X m F vs ds ps → PairsF X m G vs ds ps
  | [], [], [], _ => trivial
  | .ref p :: vs, d :: ds, (t, te) :: ps, h => ⟨h.1.le l, PairsF.le l h.2⟩
  | [], [], _ :: _, h => h.elim
  | [], _ :: _, _, h => h.elim
  | .ref _ :: _, [], _, h => h.elim
  | .ref _ :: _, _ :: _, [], h => h.elim
  | .non :: _, _, _, h => h.elim
  | .bl _ :: _, _, _, h => h.elim
  | .int _ :: _, _, _, h => h.elim
  | .str _ :: _, _, _, h => h.elim
theorem PairsF.len {X : Cx} {m : Nat} {F : Hp} : ∀ {vs : List V} {ds : List PyData} {ps : List (DE × DE)}, PairsF X m F vs ds ps → vs.length = ds.length ∧ ps.length = ds.length
  | [], [], [], _ => ⟨rfl, rfl⟩
  | .ref p :: vs, d :: ds, (t, te) :: ps, h => ⟨congrArg (· + 1) (PairsF.len h.2).1, congrArg (· + 1) (PairsF.len h.2).2⟩
  | [], [], _ :: _, h => h.elim
  | [], _ :: _, _, h => h.elim
  | .ref _ :: _, [], _, h => h.elim
  | .ref _ :: _, _ :: _, [], h => h.elim
  | .non :: _, _, _, h => h.elim
  | .bl _ :: _, _, _, h => h.elim
  | .int _ :: _, _, _, h => h.elim
  | .str _ :: _, _, _, h => h.elim
theorem PairsF.get {X : Cx} {m : Nat} {F : Hp} : ∀ {vs : List V} {ds : List PyData} {ps : List (DE × DE)} {i : Nat} {d : PyData} {p : DE × DE}, PairsF X m F vs ds ps → ds[i]? = some d → ps[i]? = some p → ∃ a, vs[i]? = some (.ref a) ∧ PairF X m a d p.2 F
  | .ref a :: vs, d :: ds, (t, te) :: ps, 0, d', p', h, e1, e2 => by
    cases e1
    cases e2
    exact ⟨a, rfl, h.1⟩
  | .ref a :: vs, d :: ds, (t, te) :: ps, i + 1, d', p', h, e1, e2 => PairsF.get (i := i) h.2 e1 e2
  | [], [], [], _, _, _, _, e1, _ => by cases e1
  | [], [], _ :: _, _, _, _, h, _, _ => h.elim
  | [], _ :: _, _, _, _, _, h, _, _ => h.elim
  | .ref _ :: _, [], _, _, _, _, h, _, _ => h.elim
  | .ref _ :: _, _ :: _, [], _, _, _, h, _, _ => h.elim
  | .non :: _, _, _, _, _, _, h, _, _ => h.elim
  | .bl _ :: _, _, _, _, _, _, h, _, _ => h.elim
  | .int _ :: _, _, _, _, _, _, h, _, _ => h.elim
  | .str _ :: _, _, _, _, _, _, h, _, _ => h.elim
/-- the data of the pairs, one behind the other -/
def dPs : List (DE × DE) → Ev → (List PyData → Ev → Prop) → (Ex → Ev → Prop) → Prop
  | [], env, Q, _ => Q [] env
  | (t, _) :: r, env, Q, R => t env (fun d env1 => dPs r env1 (fun ds env2 => Q (d :: ds) env2) R) R
section
variable {X : Cx} {W : WX} {B : Base} {σ : L2.St} {H F : Hp} {env : Ev} {R : Ex → Ev → Prop} {n m : Nat}
/-- the making of a lambda that is kept -/
def tLam (X : Cx) (W : WX) (params : Arguments) (body : Expr) (scope : Scope) : TE := fun σ H Q => ∃ B F env R, At X W B σ H F env R ∧ ∀ f H1 F1, Ly X.K B σ H1 F1 env → Le F F1 → FLam X params body scope f F1 → Q (.ref f) H1
theorem pe_lam {params : Arguments} {body : Expr} {scope : Scope} {pos : Pos} {te : DE} {xq : Str} (LA : LamAt X.K X.mg X.base xq X.env.code) (hq : X.env.qual = xq ++ ".<locals>.") (ok : LamOk X m params body scope te) : PE X (.Lambda params body scope pos) (tLam X W params body scope) := by
  obtain ⟨c, P, hcode, TB, hmT, hu⟩ := LA.at_
  have e0 : xq ++ ".<locals>." ++ "<lambda>" = X.env.qual ++ "<lambda>" := by rw [hq]
  rw [e0] at hmT hu
  refine ⟨fun pins s σ H Q I ⟨B, F, env, R, A, k⟩ => ?_⟩
  exact lam_kept I A.ly TB hcode hmT hu ok.hd (ok.L.has I.ok) fun f H1 F1 s1 I1 L1 le1 fl _ _ => ⟨.ref f, H1, I1, rfl, k f H1 F1 L1 le1 fl⟩
/-- a list of pairs -/
def tPs (X : Cx) (W : WX) (m : Nat) (ps : List (DE × DE)) : TA := fun σ H Q => ∃ B F env Qd R, At X W B σ H F env R ∧ dPs ps env Qd R ∧ ∀ vs ds H1 F1 env1, Ly X.K B σ H1 F1 env1 → Le F F1 → PairsF X m F1 vs ds ps → Qd ds env1 → Q vs H1
structure JP (X : Cx) (W : WX) (m : Nat) (es : List Expr) (ps : List (DE × DE)) : Prop where
  pa : PA X es (tPs X W m ps)
theorem jp_nil : JP X W m [] [] := ⟨PA.imp pa_nil fun σ H Q ⟨B, F, env, Qd, R, A, q, k⟩ => k [] [] H F env A.ly (Le.refl _) trivial q⟩
theorem jp_cons {td : Expr} {t te : DE} {params : Arguments} {body : Expr} {scope : Scope} {lpos pos : Pos} {xq : Str} {es : List Expr} {ps : List (DE × DE)} (LA : LamAt X.K X.mg X.base xq X.env.code) (hq : X.env.qual = xq ++ ".<locals>.") (ht : JE X W td t) (ok : LamOk X m params body scope te) (hr : JP X W m es ps)
    (h1 : starEach [td, .Lambda params body scope lpos] X.env = (false, eval td X.env) :: starEach [.Lambda params body scope lpos] X.env := by rfl) (h2 : starEach [.Lambda params body scope lpos] X.env = (false, eval (.Lambda params body scope lpos) X.env) :: starEach [] X.env := by rfl)
    (h3 : starEach (.List [td, .Lambda params body scope lpos] pos :: es) X.env = (false, eval (.List [td, .Lambda params body scope lpos] pos) X.env) :: starEach es X.env := by rfl) : JP X W m (.List [td, .Lambda params body scope lpos] pos :: es) ((t, te) :: ps) :=
  ⟨PA.imp (pa_cons (pe_lst (pa_cons ht.pe (pa_cons (pe_lam (W := W) LA hq ok) pa_nil h2) h1)) hr.pa h3) fun σ H Q ⟨B, F, env, Qd, R, A, q, k⟩ => by
    refine A.go (t := t) q fun v d H1 F1 env1 a1 A1 q1 => ?_
    refine ⟨B, F1, env1, R, A1, fun f H2 F2 L2 le2 fl => ?_⟩
    refine ⟨Nat.le_of_ble_eq_true rfl, fun p hp => ?_⟩
    have L3 := L2.newD (o := .lst [v, .ref f]) hp
    have le3 : Le F2 (upd F2 p (.lst [v, .ref f])) := Le.up (L2.sub.free hp)
    refine ⟨B, _, env1, _, R, ⟨L3, A.wi⟩, q1, fun vs ds H4 F4 env4 L4 le4 pf q4 => ?_⟩
    refine k (.ref p :: vs) (d :: ds) H4 F4 env4 L4 (((a1.le.trans le2).trans le3).trans le4) ⟨?_, pf⟩ q4
    exact ⟨v, params, body, scope, f, le4 _ _ upd_same, (a1.rp.le le2).le (le3.trans le4), ok, fl.le (le3.trans le4)⟩⟩
theorem Ly.forget {K : PySem.W.Frag} (L : Ly K B σ H F env) (j : Nat) : Ly K B σ H F (env.set j .e) := by
  by_cases h : j < σ.length
  · have z := L.drop j σ[j]
    rw [set_sameL (List.getElem?_eq_getElem h)] at z
    exact z
  · rw [List.set_eq_of_length_le (by rw [← L.len]; omega)]
    exact L
/-- round after round: what is due stands in slot i, the lambda in slot j -/
def chainK (i j : Nat) (bd : XO → DE → DS) (D : DEnds) : List PyData → List (DE × DE) → Ev → Prop
  | d :: ds, (_, te) :: ps, env => ∀ o : XO, bd o te { nx := fun e => chainK i j bd D ds ps (e.set j .e), ct := fun e => chainK i j bd D ds ps (e.set j .e), bk := D.nx, rt := D.rt, rs := D.rs, own := D.own } ((env.set i (.v d)).set j (.x o))
  | _, _, env => D.nx env
def sKept (i j : Nat) (ps : List (DE × DE)) (bd : XO → DE → DS) : DS := fun D env => dPs ps env (fun ds env1 => chainK i j bd D ds ps env1) D.rs
theorem js_kept {tx ty : Str} {px py pt pos lp : Pos} {tk : Nat} {es : List Expr} {body : List Stmt} {ps : List (DE × DE)} {bd : XO → DE → DS} (i j : Nat) (gd : Gd X W n) (hp : JP X W m es ps) (hx : PG X (.Name tx px) (gName i)) (hy : PG X (.Name ty py) (gName j))
    (hb : ∀ params lb scope f te, LamOk X m params lb scope te → JSs X W body (bd (keptO X params lb scope f) te))
    (hn : (assignEach [.Name tx px, .Name ty py] X.env).length = 2 := by rfl) (hst : (assignEach [.Name tx px, .Name ty py] X.env).findIdx? (·.1) = none := by rfl)
    (hs2 : (assignEach [.Name tx px, .Name ty py] X.env).map (·.2) = assign (.Name tx px) X.env :: (assignEach [.Name ty py] X.env).map (·.2) := by rfl) (hs1 : (assignEach [.Name ty py] X.env).map (·.2) = assign (.Name ty py) X.env :: (assignEach [] X.env).map (·.2) := by rfl)
    (hl : ps.length ≤ sizeLine := by decide) (hs : ∀ x, foldedSetIterable (.List es lp) X.env x = pure x := by intro _; rfl) : JS X W (.For (.Tuple [.Name tx px, .Name ty py] tk pt) (.List es lp) body [] pos) (sKept i j ps bd) := by
  have pg := pg_unl (k := tk) (pos := pt) gd.calm (pgs_cons hx (pgs_cons hy pgs_nil hs1) hs2) hn hst
  have pss : PSs X body (fun D σ H => ∃ params lb scope f te, LamOk X m params lb scope te ∧ tS X W (bd (keptO X params lb scope f) te) D σ H) := ⟨fun pins s σ H D I ⟨params, lb, scope, f, te, ok, h⟩ => (hb params lb scope f te ok).ps.run pins s σ H D I h⟩
  refine ⟨PS.imp (ps_for gd.po gd.calm (pi_seq (pe_lst hp.pa)) pg pss hs) fun D σ H ⟨B, F, env, d, A, q, k⟩ => ?_⟩
  have q : dPs ps env (fun ds env1 => chainK i j bd d ds ps env1) d.rs := q
  refine ⟨B, F, env, _, d.rs, A, q, fun vs ds H1 F1 env1 L1 le1 pf hc => ?_⟩
  obtain ⟨e1, e2⟩ := pf.len
  refine ⟨by rw [e1, ← e2]; exact hl, fun a ha => ?_⟩
  have L2 := L1.newD (o := .lst vs) ha
  have le2 : Le F1 (upd F1 a (.lst vs)) := Le.up (L1.sub.free ha)
  generalize hF2 : upd F1 a (.lst vs) = F2 at L2 le2
  have hF2a : F2 a = some (.lst vs) := by rw [← hF2]; exact upd_same
  refine ⟨a, rfl, .inl ⟨⟨vs, SqL.of upd_same⟩, ?_⟩⟩
  refine ⟨fun n m σ H => n + m = ds.length ∧ ∃ F3 env3, Ly X.K B σ H F3 env3 ∧ Le F2 F3 ∧ chainK i j bd d (ds.drop n) (ps.drop n) env3, ⟨ds.length, by omega, F2, env1, L2, Le.refl _, hc⟩, fun n m σ3 H3 ⟨hm, F3, env3, L3, le3, q3⟩ => ?_⟩
  have sq : SqL X.K H3 a vs := SqL.of (L3.sub _ _ (le3 _ _ hF2a))
  by_cases hn2 : n = ds.length
  · subst hn2
    rw [List.drop_length] at q3
    have q3 : d.nx env3 := by
      rw [← e2, List.drop_length] at q3
      exact q3
    exact .inl ⟨⟨vs, sq, by omega⟩, k.nx σ3 H3 F3 env3 L3 ((le1.trans le2).trans le3) q3⟩
  · have hlt : n < ds.length := by omega
    have hlp : n < ps.length := by omega
    have hlv : n < vs.length := by omega
    refine .inr ⟨⟨vs, vs[n], sq, List.getElem?_eq_getElem hlv⟩, fun σ' H' => ∃ F4 env4, Ly X.K B σ' H' F4 env4 ∧ Le F2 F4 ∧ chainK i j bd d (ds.drop (n + 1)) (ps.drop (n + 1)) env4, fun σ' H' ⟨F4, env4, h1, h2, h3⟩ => ⟨m - 1, by omega, by omega, F4, env4, h1, h2, h3⟩, fun x H4 ⟨eH, hy⟩ => ?_⟩
    subst eH
    have hx2 := hy vs sq
    obtain ⟨b, hb2, hpf⟩ := pf.get (List.getElem?_eq_getElem hlt) (List.getElem?_eq_getElem hlp)
    rw [hb2] at hx2
    cases hx2
    obtain ⟨v, params, lb, scope, f, h1, h2, h3, h4⟩ := hpf.le (le2.trans le3)
    rw [List.drop_eq_getElem_cons hlt, List.drop_eq_getElem_cons hlp] at q3
    refine ⟨b, [v, .ref f], rfl, SqL.of (L3.sub _ _ h1), rfl, v, [.ref f], rfl, .ref f, [], rfl, rfl, ?_⟩
    refine ⟨params, lb, scope, f, _, h3, B, F3, _, { nx := fun e => chainK i j bd d (ds.drop (n + 1)) (ps.drop (n + 1)) (e.set j .e), ct := fun e => chainK i j bd d (ds.drop (n + 1)) (ps.drop (n + 1)) (e.set j .e), bk := d.nx, rt := d.rt, rs := d.rs, own := d.own }, ⟨(L3.setV (i := i) h2).setX j (o := keptO X params lb scope f) h4, A.wi⟩, q3 _, ?_⟩
    have le13 := (le1.trans le2).trans le3
    exact ⟨fun σ5 H5 F5 env5 L5 le5 q5 => ⟨F5, _, L5.forget j, le3.trans le5, q5⟩, fun σ5 H5 F5 env5 v y L5 le5 r5 q5 => k.rt σ5 H5 F5 env5 v y L5 (le13.trans le5) r5 q5,
      fun σ5 H5 F5 env5 L5 le5 q5 => k.nx σ5 H5 F5 env5 L5 (le13.trans le5) q5, fun σ5 H5 F5 env5 L5 le5 q5 => ⟨F5, _, L5.forget j, le3.trans le5, q5⟩⟩
end
end BX
/-! F19 -/
/-! dict comprehensions: a dict is data (PyData.dict) -/
namespace L2
open PySem PySem.Spec PyProof.Rows
section
variable {X : Cx}
end
end L2
namespace BX
open PySem PySem.Spec L2
def keyOfD : PyData → Option Key
  | .int i => some (.inl i)
  | .str x => some (.inr x)
  | _ => none
theorem keyOf_keyD (k : Key) : keyOfD (keyD k) = some k := by cases k <;> rfl
/-- d[k] = x -/
def putD (acc : List (PyData × PyData)) (k : Key) (x : PyData) : List (PyData × PyData) := if (acc.any fun p => decide (keyOfD p.1 = some k)) = true then acc.map (fun p => if keyOfD p.1 = some k then (p.1, x) else p) else acc ++ [(keyD k, x)]
def getD? (acc : List (PyData × PyData)) (k : Key) : Option PyData := (acc.find? fun p => decide (keyOfD p.1 = some k)).map (·.2)
section
variable {K : PySem.W.Frag} {F G : Hp}
theorem RpKV.len : ∀ {kvs : List (Key × V)} {ks : List (PyData × PyData)}, RpKV K F kvs ks → kvs.length = ks.length
  | _, _, .nil => rfl
  | _, _, .cons _ r => congrArg (· + 1) r.len
theorem RpKV.any {k : Key} : ∀ {kvs : List (Key × V)} {ks : List (PyData × PyData)}, RpKV K F kvs ks → (kvs.any fun kv => decide (kv.1 = k)) = ks.any fun p => decide (keyOfD p.1 = some k)
  | _, _, .nil => rfl
  | _, _, .cons (k := k') _ r => by
    rw [List.any_cons, List.any_cons, r.any]
    congr 1
    show decide (k' = k) = decide (keyOfD (keyD k') = some k)
    rw [keyOf_keyD]
    by_cases h : k' = k
    · rw [decide_eq_true h, decide_eq_true (by rw [h])]
    · rw [decide_eq_false h, decide_eq_false fun z => h (Option.some.inj z)]
theorem RpKV.map {k : Key} {z : V} {d : PyData} (r0 : Rp K F z d) : ∀ {kvs : List (Key × V)} {ks : List (PyData × PyData)}, RpKV K F kvs ks → RpKV K F (kvs.map fun kv => if kv.1 = k then (kv.1, z) else kv) (ks.map fun p => if keyOfD p.1 = some k then (p.1, d) else p)
  | _, _, .nil => .nil
  | _, _, .cons (k := k') a r => by
    rw [List.map_cons, List.map_cons]
    have e : keyOfD (keyD k') = some k ↔ k' = k := by rw [keyOf_keyD]; exact ⟨Option.some.inj, congrArg some⟩
    by_cases h : k' = k
    · rw [if_pos h, if_pos (e.mpr h)]
      exact .cons r0 (r.map r0)
    · rw [if_neg h, if_neg fun z => h (e.mp z)]
      exact .cons a (r.map r0)
theorem RpKV.snoc {k : Key} {z : V} {d : PyData} (r0 : Rp K F z d) : ∀ {kvs : List (Key × V)} {ks : List (PyData × PyData)}, RpKV K F kvs ks → RpKV K F (kvs ++ [(k, z)]) (ks ++ [(keyD k, d)])
  | _, _, .nil => .cons r0 .nil
  | _, _, .cons a r => .cons a (r.snoc r0)
theorem RpKV.put {kvs : List (Key × V)} {ks : List (PyData × PyData)} {k : Key} {z : V} {d : PyData} (r : RpKV K F kvs ks) (r0 : Rp K F z d) : RpKV K F (putK kvs k z) (putD ks k d) := by
  unfold putK putD
  rw [r.any]
  split
  · exact r.map r0
  · exact r.snoc r0
theorem RpKV.get {k : Key} : ∀ {kvs : List (Key × V)} {ks : List (PyData × PyData)}, RpKV K F kvs ks → (valV kvs k = none ∧ getD? ks k = none) ∨ ∃ v d, valV kvs k = some v ∧ getD? ks k = some d ∧ Rp K F v d
  | _, _, .nil => .inl ⟨rfl, rfl⟩
  | _, _, .cons (k := k') (v := v) (d := d) (ks := ks) a r => by
    have e : keyOfD (keyD k') = some k ↔ k' = k := by rw [keyOf_keyD]; exact ⟨Option.some.inj, congrArg some⟩
    by_cases h : k' = k
    · refine .inr ⟨v, d, valV_pos h, ?_, a⟩
      unfold getD?
      rw [List.find?_cons_of_pos (by exact decide_eq_true (e.mpr h))]
      rfl
    · have h2 : getD? ((keyD k', d) :: ks) k = getD? ks k := by
        unfold getD?
        rw [List.find?_cons_of_neg (by simpa using fun z => h (e.mp z))]
      rw [valV_neg h, h2]
      exact r.get
end
section
variable {X : Cx} {W : WX} {B : Base} {σ : L2.St} {H F : Hp} {env : Ev} {R : Ex → Ev → Prop} {n : Nat} {vs : List Nat}
/-- {tk: te for ..} -/
def dDc (vs : List Nat) (it : DI) (g : DG) (tt : DT) (tk te : DE) : DE := fun env Q R => it env (fun ds env1 => ∃ I : Nat → List (PyData × PyData) → Ev → Prop, I 0 [] (wipeE env1 vs) ∧
  (∀ i d acc env2, ds[i]? = some d → I i acc env2 → g d env2 fun env3 => tt env3 (fun b env4 => if b = true then tk env4 (fun y env5 => te env5 (fun z env6 => ∃ k, y = keyD k ∧ acc.length < sizeLine ∧ I (i + 1) (putD acc k z) (wipeE env6 vs)) (fun _ _ => False)) (fun _ _ => False) else I (i + 1) acc (wipeE env4 vs)) (fun _ _ => False)) ∧
  ∀ acc env2, I ds.length acc env2 → Q (.dict acc) (restE env1 env2 vs)) R
/-- x in d, x not in d -/
def dInDk (neg : Bool) (t u : DE) : DE := fun env Q R => t env (fun y env1 => u env1 (fun x env2 => ∃ k ks, y = keyD k ∧ x = .dict ks ∧ Q (.bool (if neg = true then !(getD? ks k).isSome else (getD? ks k).isSome)) env2) R) R
end
end BX
/-! F20 -/
/-! tuple(range(a)) -/
namespace BX
open PySem PySem.Spec L2
section
variable {X : Cx} {W : WX}
def dTR1 (t : DE) : DE := fun env Q R => t env (fun d env1 => ∃ n, d = .int n ∧ RgOk 0 n ∧ Q (.tuple (rangeD 0 n.toNat)) env1) R
end
end BX
/-! F21 -/
/-! enumerate of a list that is data -/
namespace BX
open PySem PySem.Spec L2
def iEL (t : DE) : DI := fun env Q R => t env (fun d env1 => ∃ xs, d = .list xs ∧ Q (enumD xs) env1) R
section
variable {X : Cx} {W : WX} {B : Base} {σ : L2.St} {H F : Hp} {env : Ev} {R : Ex → Ev → Prop} {n : Nat}
end
end BX
/-! F22 -/
/-! min and max of three ints -/
namespace BX
open PySem PySem.Spec L2
section
variable {X : Cx}
def max3D : List PyData → (PyData → Prop) → Prop
  | [.int i, .int j, .int l], k => k (.int (max (max i j) l))
  | _, _ => False
def min3D : List PyData → (PyData → Prop) → Prop
  | [.int i, .int j, .int l], k => k (.int (min (min i j) l))
  | _, _ => False
end
end BX
/-! F25 -/
/-! dicts: displays, d[k], d[k] = x, d.get(k), d.get(k, x), dict(pairs), list(d), sorted(d) -/
namespace BX
open PySem PySem.Spec L2
section
variable {X : Cx} {W : WX} {B : Base} {σ : L2.St} {H F : Hp} {env : Ev} {R : Ex → Ev → Prop} {n : Nat}
theorem RpKV.got {K : PySem.W.Frag} {F : Hp} {kvs : List (Key × V)} {ks : List (PyData × PyData)} {k : Key} {d : PyData} (r : RpKV K F kvs ks) (h : getD? ks k = some d) : ∃ v, valV kvs k = some v ∧ Rp K F v d := by
  rcases r.get (k := k) with ⟨_, h2⟩ | ⟨v, d', h1, h2, h3⟩
  · rw [h] at h2; cases h2
  · rw [h] at h2; cases h2; exact ⟨v, h1, h3⟩
/-- d[k] of data -/
def dGet (td ty : DE) : DE := fun env Q R => td env (fun x env1 => ty env1 (fun y env2 => ∃ ks k v, x = .dict ks ∧ y = keyD k ∧ getD? ks k = some v ∧ Q v env2) R) R
/-- d[k] of a slot's dict, which stays what it is -/
def dGetP (i : Nat) (ty : DE) : DE := fun env Q R => (pk env i).isSome = true ∧ ty env (fun y env1 => ∃ ks k v, pk env1 i = some (.dict ks) ∧ y = keyD k ∧ getD? ks k = some v ∧ Q v env1) R
/-- d.get(k, x) of a slot's dict -/
def dGet2P (i : Nat) (ty tx : DE) : DE := fun env Q R => (∃ ks, pk env i = some (.dict ks)) ∧ ty env (fun y env1 => tx env1 (fun x env2 => ∃ ks k, pk env2 i = some (.dict ks) ∧ y = keyD k ∧ Q ((getD? ks k).getD x) env2) R) R
/-- d.get(k) of a slot's dict -/
def dGet1P (i : Nat) (ty : DE) : DE := fun env Q R => (∃ ks, pk env i = some (.dict ks)) ∧ ty env (fun y env1 => ∃ ks k, pk env1 i = some (.dict ks) ∧ y = keyD k ∧ Q ((getD? ks k).getD .none) env1) R
/-- k in d, k not in d, of a slot's dict -/
def dInP (neg : Bool) (t : DE) (i : Nat) : DE := fun env Q R => t env (fun y env1 => ∃ ks k, pk env1 i = some (.dict ks) ∧ y = keyD k ∧ Q (.bool (if neg = true then !(getD? ks k).isSome else (getD? ks k).isSome)) env1) R
/-- d[k] = x -/
def sPutK (i : Nat) (ty tv : DE) : DS := fun D env => tv env (fun v env1 => (ow env1 i).isSome = true ∧ ty env1 (fun y env2 => ∃ ks k, ow env2 i = some (.dict ks) ∧ y = keyD k ∧ ks.length < sizeLine ∧ D.nx (putO env2 i (.dict (putD ks k v)))) D.rs) D.rs
end
end BX
/-! F26 -/
/-! dict displays -/
namespace BX
open PySem PySem.Spec L2
def mergeD (acc : List (PyData × PyData)) (more : List (Key × PyData)) : List (PyData × PyData) := more.foldl (fun acc kv => putD acc kv.1 kv.2) acc
def dPairs : List (DE × DE) → Ev → (List (PyData × PyData) → Ev → Prop) → (Ex → Ev → Prop) → Prop
  | [], env, Q, _ => Q [] env
  | (tk, tv) :: r, env, Q, R => tk env (fun x env1 => tv env1 (fun y env2 => dPairs r env2 (fun ps env3 => Q ((x, y) :: ps) env3) R) R) R
def dDisp (ts : List (DE × DE)) : DE := fun env Q R => dPairs ts env (fun ps env1 => ∃ kvs : List (Key × PyData), ps = kvs.map (fun kv => (keyD kv.1, kv.2)) ∧ kvs.length ≤ 15 ∧ Q (.dict (mergeD [] kvs)) env1) R
section
variable {X : Cx} {W : WX} {B : Base} {σ : L2.St} {H F : Hp} {env : Ev} {R : Ex → Ev → Prop} {n : Nat}
structure JPs (X : Cx) (W : WX) (pos : Pos) (keys : List (Option Expr)) (values : List Expr) (ts : List (DE × DE)) : Prop where
  pp : PPs X pos keys values (ts.map fun p => (tE X W p.1, tE X W p.2))
end
end BX
/-! F27 -/
/-! sorted: of numbers, of a set of numbers -/
namespace BX
open PySem PySem.Spec PyProof.Rows L2
section
variable {P : Program} {w : World} {A : Around} {E : Value → Shared → Prop} {Q : Value → Shared → Prop} {s : Shared}
abbrev setW (w : World) : Obj := set0 (!w.params.followText "set-order")
end
section
variable {X : Cx} {W : WX} {n : Nat}
/-- sorted(set(e)) of fewer than 64 numbers -/
def dSortSet (t : DE) : DE := fun env Q R => t env (fun d env1 => ∃ xs ns, d = .list xs ∧ intsOf xs = some ns ∧ ns.length < 64 ∧ ∀ out : List Int, out.Pairwise (· < ·) → (∀ k, k ∈ out ↔ k ∈ ns) → Q (.list (out.map .int)) env1) R
/-- sorted(e) of numbers -/
def sortD : List PyData → (PyData → Prop) → Prop
  | [.list xs], k => ∃ ns, intsOf xs = some ns ∧ ∀ out : List Int, out.Perm ns → out.Pairwise (· ≤ ·) → k (.list (out.map .int))
  | _, _ => False
end
end BX
/-! F28 -/
/-! dict(pairs), sorted of dicts and texts, xs.extend(ys), xs.remove(n) -/
namespace BX
open PySem PySem.Spec PyProof.Rows L2
section
variable {X : Cx} {W : WX} {n : Nat}
theorem RpKV.ks {K : PySem.W.Frag} {F : Hp} : ∀ {kvs : List (Key × V)} {ks : List (PyData × PyData)}, RpKV K F kvs ks → ks.map (·.1) = kvs.map fun kv => keyD kv.1
  | _, _, .nil => rfl
  | _, _, .cons _ r => by rw [List.map_cons, List.map_cons, RpKV.ks r]
/-- sorted(d) of a dict whose keys are numbers, fewer than 64 -/
def sortDI : List PyData → (PyData → Prop) → Prop
  | [.dict ks], k => ∃ ns : List Int, ks.map (·.1) = ns.map .int ∧ ns.length < 64 ∧ ∀ out : List Int, out.Perm ns → out.Pairwise (· ≤ ·) → k (.list (out.map .int))
  | _, _ => False
def sortDS : List PyData → (PyData → Prop) → Prop
  | [.dict ks], k => ∃ ns : List Str, ks.map (·.1) = ns.map .str ∧ ns.length < 64 ∧ ∀ out : List Str, out.Perm ns → sortedS out = true → k (.list (out.map .str))
  | _, _ => False
/-- sorted(e) of fewer than 64 texts -/
def sortSD : List PyData → (PyData → Prop) → Prop
  | [.list xs], k => ∃ ns, strsOf xs = some ns ∧ ns.length < 64 ∧ ∀ out : List Str, out.Perm ns → sortedS out = true → k (.list (out.map .str))
  | _, _ => False
def pairD (kv : Key × PyData) : PyData := .tuple [keyD kv.1, kv.2]
/-- dict(pairs) -/
def dictPD : List PyData → (PyData → Prop) → Prop
  | [.list xs], k => ∃ kvs : List (Key × PyData), xs = kvs.map pairD ∧ k (.dict (mergeD [] kvs))
  | _, _ => False
end
end BX
/-! F29 -/
/-! xs.extend(ys) -/
namespace BX
open PySem PySem.Spec L2
section
variable {X : Cx} {W : WX} {n : Nat}
/-- xs.extend(e) of an owned list -/
def sExt (i : Nat) (t : DE) : DS := fun D env => (∃ d0, ow env i = some (.list d0)) ∧ t env (fun d env1 => ∃ ds ys, ow env1 i = some (.list ds) ∧ d = .list ys ∧ ds.length + ys.length ≤ sizeLine ∧ D.nx (putO env1 i (.list (ds ++ ys)))) D.rs
end
end BX
/-! F30 -/
/-! xs.remove(k) -/
namespace BX
open PySem PySem.Spec L2
section
variable {X : Cx} {W : WX} {n : Nat}
/-- xs.remove(e) of an owned list of numbers that has it -/
def sRem (i : Nat) (t : DE) : DS := fun D env => (∃ d0, ow env i = some (.list d0)) ∧ t env (fun d env1 => ∃ ds ns k, ow env1 i = some (.list ds) ∧ intsOf ds = some ns ∧ d = .int k ∧ k ∈ ns ∧ D.nx (putO env1 i (.list ((ns.erase k).map .int)))) D.rs
end
end BX
/-! F31 -/
/-! enumerate(t, start=k) of a tuple -/
namespace BX
open PySem PySem.Spec L2
def IteB (K : PySem.W.Frag) (k0 : Int) (a : Addr) : It where
  go := fun i H => ∃ xs x, SqT K H a xs ∧ xs[i]? = some x
  yld := fun i H v H' => ∃ T ob x, v = V.ref T ∧ H T = none ∧ ob.dict = none ∧ H' = upd H T (.frz ob (HO.tup [V.int (k0 + (i : Nat)), x])) ∧ ∀ xs, SqT K H a xs → xs[i]? = some x
  stop := fun i H => ∃ xs, SqT K H a xs ∧ xs.length ≤ i
def enumPostB (K : PySem.W.Frag) (R : It → Hp → Prop) (y : List V) : List V → Hp → Prop := fun vs H2 => ∃ a k0, vs = [.ref a] ∧ y = [.int k0] ∧ -(2 ^ 63) ≤ k0 ∧ k0 < 2 ^ 63 ∧ (∃ xs, SqT K H2 a xs) ∧ R (IteB K k0 a) H2
def iEnumB (K : PySem.W.Frag) (te tk : TE) : TI := fun σ H R => te σ H fun x H1 => tk σ H1 fun y H2 => enumPostB K R [y] [x] H2
/-! the layer -/
def enumBD (k0 : Int) (xs : List PyData) : List PyData := zipD (rangeD k0 xs.length) xs
def iEB (t tk : DE) : DI := fun env Q R => t env (fun d env1 => tk env1 (fun y env2 => ∃ xs k0, d = .tuple xs ∧ y = .int k0 ∧ -(2 ^ 63) ≤ k0 ∧ k0 < 2 ^ 63 ∧ Q (enumBD k0 xs) env2) R) R
section
variable {X : Cx} {W : WX} {B : Base} {σ : L2.St} {H F : Hp} {env : Ev} {R : Ex → Ev → Prop} {n : Nat}
end
end BX
/-! F32 -/
/-! an owned list looked at, by a comprehension and by `in` -/
namespace BX
open PySem PySem.Spec L2
section
variable {X : Cx} {W : WX} {B : Base} {σ : L2.St} {H F : Hp} {env : Ev} {R : Ex → Ev → Prop} {n : Nat}
/-- the base that also lends the list at a -/
def lentB (B : Base) (a : Addr) (xs : List V) : Base := { B with fr := upd B.fr a (.lst xs), ro := upd B.ro a (.lst xs) }
def dLend (i : Nat) (t : DE) : DE := fun env Q _ => ∃ ds, env[i]? = some (.o (.list ds)) ∧ t (env.set i (.ro ds)) (fun x env1 => env1 = env.set i (.ro ds) ∧ Q x env) fun _ _ => False
/-- e in xs of a held list of flat things -/
def dInL (neg : Bool) (t : DE) (i : Nat) : DE := fun env Q R => t env (fun x env1 => ∃ ds, pk env1 i = some (.list ds) ∧ flatD x = true ∧ ds.all flatD = true ∧ Q (.bool (if neg = true then !(ds.any fun y => PyData.eqv y x) else ds.any fun y => PyData.eqv y x)) env1) R
/-- xs + ys, a new list -/
def dAddN (t u : DE) : DE := fun env Q R => t env (fun x env1 => u env1 (fun y env2 => ∃ xs ys, x = .list xs ∧ y = .list ys ∧ xs.length + ys.length ≤ sizeLine ∧ Q (.list (xs ++ ys)) env2) R) R
end
end BX
/-! F33 -/
/-! zip of three lists -/
namespace BX
open PySem PySem.Spec L2
abbrev Tri (h : Heap) (T : Addr) (a b c : Value) : Prop := h.get? T = some { cls := .type "tuple", data := .seq #[a, b, c] }
/-- the objects of a zip of three lists, laid from n on -/
structure Z3 (h : Heap) (n : Nat) (f0 a b c : Value) (l1 l2 l3 : Addr) (k1 k2 k3 : Nat) : Prop where
  z : IsZip h (n + 5) (n + 3) (n + 4) f0
  ti : Tri h (n + 3) (.ref n) (.ref (n + 1)) (.ref (n + 2))
  to : Tri h (n + 4) a b c
  i1 : h.IsListIter n l1 k1
  i2 : h.IsListIter (n + 1) l2 k2
  i3 : h.IsListIter (n + 2) l3 k3
section
variable {h h' : Heap} {n : Nat} {f0 f1 a b c a' b' c' : Value} {l1 l2 l3 : Addr} {k1 k2 k3 : Nat}
theorem nn {i j : Nat} (h : i ≠ j) : (i : Addr) ≠ j := h
theorem Z3.setO (Z : Z3 h n f0 a b c l1 l2 l3 k1 k2 k3) (s : Heap.SameBut (n + 4) h h') (gt : Tri h' (n + 4) a' b' c') : Z3 h' n f0 a' b' c' l1 l2 l3 k1 k2 k3 where
  z := s.extBut _ _ (nn (by omega)) Z.z
  ti := s.extBut _ _ (nn (by omega)) Z.ti
  to := gt
  i1 := Z.i1.extBut s.extBut (nn (by omega))
  i2 := Z.i2.extBut s.extBut (nn (by omega))
  i3 := Z.i3.extBut s.extBut (nn (by omega))
/-- all but the zip's own objects stand -/
def Ex6 (n : Nat) (h h' : Heap) : Prop := ∀ c o, (c : Nat) < n ∨ n + 6 ≤ c → h.get? c = some o → h'.get? c = some o
theorem Ex6.at (i : Nat) (s : Heap.ExtBut (n + i : Nat) h h') (hi : i < 6 := by decide) : Ex6 n h h' := fun c o hc e => s c o (fun z => by
  have z : (c : Nat) = n + i := z
  have hc : (c : Nat) < n ∨ n + 6 ≤ (c : Nat) := hc
  omega) e
theorem Ex6.trans {h2 : Heap} (s : Ex6 n h h') (t : Ex6 n h' h2) : Ex6 n h h2 := fun c o hc e => t c o hc (s c o hc e)
theorem Ex6.ls {l : Addr} {xs : Array Value} (s : Ex6 n h h') (hl : (l : Nat) < n) (g : h.IsList l xs) : h'.IsList l xs := g.at fun o e => s l o (.inl hl) e
end
section
variable {prog : Program} {w : World} {A : Around} {E : Value → Shared → Prop} {s : Shared} {n : Nat} {a b c x y u f0 : Value} {l1 l2 l3 : Addr} {k1 k2 k3 : Nat} {xs ys us : Array Value}
end
/-! the call -/
abbrev liO (l : Addr) : Obj := { cls := .type "list_iterator", data := .fields #[.ref l, .int 0 0] }
abbrev zp3 (h : Heap) (l1 l2 l3 : Addr) : Heap := ((h.push (liO l1)).push (liO l2)).push (liO l3)
abbrev zp4 (h : Heap) (l1 l2 l3 : Addr) : Heap := (zp3 h l1 l2 l3).push { cls := .type "tuple", data := .seq #[.ref h.objs.size, .ref (h.push (liO l1)).objs.size, .ref ((h.push (liO l1)).push (liO l2)).objs.size] }
abbrev zp5 (h : Heap) (l1 l2 l3 : Addr) : Heap := (zp4 h l1 l2 l3).push { cls := .type "tuple", data := .seq #[.none, .none, .none] }
abbrev zp6 (h : Heap) (l1 l2 l3 : Addr) : Heap := (zp5 h l1 l2 l3).push { cls := .type "zip", data := .fields #[.none, .bool false, .bool false, .ref (zp3 h l1 l2 l3).objs.size, .ref (zp4 h l1 l2 l3).objs.size] }
section
variable {prog : Program} {w : World} {A : Around} {E : Value → Shared → Prop} {s : Shared}
end
end BX
/-! F34 -/
/-! zip of three lists: the turns -/
namespace BX
open PySem PySem.Spec L2
/-! the turns -/
def It3 (K : PySem.W.Frag) (a b c : Addr) : It where
  go := fun i H => ∃ xs ys us x y u, SqL K H a xs ∧ SqL K H b ys ∧ SqL K H c us ∧ xs[i]? = some x ∧ ys[i]? = some y ∧ us[i]? = some u
  yld := fun i H v H' => ∃ T ob x y u, v = V.ref T ∧ H T = none ∧ ob.dict = none ∧ H' = upd H T (.frz ob (HO.tup [x, y, u])) ∧ (∀ xs, SqL K H a xs → xs[i]? = some x) ∧ (∀ ys, SqL K H b ys → ys[i]? = some y) ∧ ∀ us, SqL K H c us → us[i]? = some u
  stop := fun i H => ∃ xs ys us, SqL K H a xs ∧ SqL K H b ys ∧ SqL K H c us ∧ (xs.length ≤ i ∨ ys.length ≤ i ∨ us.length ≤ i)
def six (n : Nat) : List Addr := [n + 5, n, n + 1, n + 2, n + 3, n + 4]
def iZip3 (K : PySem.W.Frag) (ta : TA) : TI := fun σ H R => ta σ H fun vs H1 => ∃ a b c xs ys us, vs = [.ref a, .ref b, .ref c] ∧ SqL K H1 a xs ∧ SqL K H1 b ys ∧ SqL K H1 c us ∧ R (It3 K a b c) H1
/-! the layer -/
def zipD3 (xs ys us : List PyData) : List PyData := (xs.zip (ys.zip us)).map fun p => .tuple [p.1, p.2.1, p.2.2]
def iZ3 (t u v : DE) : DI := fun env Q R => t env (fun d env1 => u env1 (fun d2 env2 => v env2 (fun d3 env3 => ∃ xs ys us, d = .list xs ∧ d2 = .list ys ∧ d3 = .list us ∧ Q (zipD3 xs ys us) env3) R) R) R
section
variable {X : Cx} {W : WX} {B : Base} {σ : L2.St} {H F : Hp} {env : Ev} {R : Ex → Ev → Prop} {n : Nat}
end
end BX
/-! F35 -/
/-! d[k] += n, d[k] -= n of a dict of the def's own -/
namespace BX
open PySem PySem.Spec L2
section
variable {X : Cx} {W : WX} {B : Base} {σ : L2.St} {H F : Hp} {env : Ev} {R : Ex → Ev → Prop} {n : Nat}
def sAugK (g : Int → Int → Int) (i : Nat) (ty tv : DE) : DS := fun D env => (ow env i).isSome = true ∧ ty env (fun y env1 => ∃ ks k u, ow env1 i = some (.dict ks) ∧ y = keyD k ∧ getD? ks k = some (.int u) ∧ ks.length < sizeLine ∧
  tv env1 (fun v env2 => ∃ m, v = .int m ∧ ow env2 i = some (.dict ks) ∧ D.nx (putO env2 i (.dict (putD ks k (.int (g u m)))))) D.rs) D.rs
/-- an object of the def's own, handed over for good -/
def dVarN (i : Nat) : DE := fun env Q _ => ∃ d, env[i]? = some (.o d) ∧ Q d (env.set i .e)
end
end BX
/-! F36 -/
/-! e in xs of a held list of anything that can be laid; counts in a dict -/
namespace BX
open PySem PySem.Spec L2
section
variable {X : Cx} {W : WX} {B : Base} {σ : L2.St} {H F : Hp} {env : Ev} {R : Ex → Ev → Prop} {n : Nat}
def dInM (neg : Bool) (t : DE) (i : Nat) : DE := fun env Q R => t env (fun x env1 => ∃ ds, pk env1 i = some (.list ds) ∧ SeqAt.shaped x = true ∧ SeqAt.shaped (.list ds) = true ∧ Q (.bool (if neg = true then !(ds.any fun y => PyData.eqv y x) else ds.any fun y => PyData.eqv y x)) env1) R
end
/-! what a dict gives behind a put -/
/-! range(a, b, -1) -/
def rangeDn (hi : Int) (n : Nat) : List PyData := (List.range n).map fun i : Nat => .int (hi - (i : Int))
section
variable {X : Cx} {W : WX} {tg : Expr}
def iRdn (t u w : DE) : DI := fun env Q R => t env (fun d env1 => u env1 (fun d2 env2 => w env2 (fun d3 env3 => ∃ i j, d = .int i ∧ d2 = .int j ∧ d3 = .int (-1) ∧ (-(2 ^ 62) ≤ i ∧ i < 2 ^ 62 ∧ -(2 ^ 62) ≤ j ∧ j < 2 ^ 62) ∧ Q (rangeDn i (i - j).toNat) env3) R) R) R
end
end BX
/-! F37 -/
/-! d.setdefault(k, x) of an owned or lent dict -/
namespace BX
open PySem PySem.Spec L2
section
variable {X : Cx} {W : WX} {n : Nat}
def dSetDef (i : Nat) (ty tx : DE) : DE := fun env Q R => (∃ ks, ow env i = some (.dict ks)) ∧ ty env (fun y env1 => tx env1 (fun x env2 => ∃ ks k, ow env2 i = some (.dict ks) ∧ y = keyD k ∧ ks.length < sizeLine ∧ (∀ v, getD? ks k = some v → Q v env2) ∧ (getD? ks k = none → Q x (putO env2 i (.dict (putD ks k x))))) R) R
end
end BX
/-! F38 -/
/-! del d[k] of an owned dict -/
namespace BX
open PySem PySem.Spec L2
def dropD (ks : List (PyData × PyData)) (k : Key) : List (PyData × PyData) := ks.filter fun p => !decide (keyOfD p.1 = some k)
theorem RpKV.drop {K : PySem.W.Frag} {F : Hp} {k : Key} : ∀ {kvs : List (Key × V)} {ks : List (PyData × PyData)}, RpKV K F kvs ks → RpKV K F (dropK kvs k) (dropD ks k)
  | _, _, .nil => .nil
  | (j, v) :: kvs, (_, d) :: ks, .cons r more => by
    have ih := RpKV.drop (k := k) more
    unfold dropK dropD at ih ⊢
    rw [List.filter_cons, List.filter_cons]
    have e : (keyOfD (keyD j) = some k) = (j = k) := by rw [keyOf_keyD]; simp
    by_cases h : j = k
    · have h1 : decide ((j, v).1 ≠ k) = false := decide_eq_false fun g => g h
      have h2 : (!decide (keyOfD ((keyD j, d) : PyData × PyData).1 = some k)) = false := by
        show (!decide (keyOfD (keyD j) = some k)) = false
        simp [keyOf_keyD, h]
      rw [h1, h2]
      exact ih
    · have h1 : decide ((j, v).1 ≠ k) = true := decide_eq_true h
      have h2 : (!decide (keyOfD ((keyD j, d) : PyData × PyData).1 = some k)) = true := by
        show (!decide (keyOfD (keyD j) = some k)) = true
        simp [keyOf_keyD, h]
      rw [h1, h2]
      exact .cons r ih
section
variable {X : Cx} {W : WX} {n : Nat}
def sDelK (i : Nat) (ty : DE) : DS := fun D env => (ow env i).isSome = true ∧ ty env (fun y env1 => ∃ ks k, ow env1 i = some (.dict ks) ∧ y = keyD k ∧ (getD? ks k).isSome = true ∧ D.nx (putO env1 i (.dict (dropD ks k)))) D.rs
end
end BX
/-! F39 -/
/-! sorted(pairs of a number or a text and a text), first parts all different; sorted(d.items()) -/
namespace BX
open PySem PySem.Spec PyProof.Rows L2
def kI : Key → Int ⊕ List Nat
  | .inl i => .inl i
  | .inr x => .inr x.cps.toList
def kStr : Key → Bool
  | .inl _ => false
  | .inr _ => true
/-- the order of keys of one kind -/
def kLt (a b : Key) : Bool := itemLt (kI a) (kI b)
def kVal (t : Tok) : Key → Value
  | .inl i => .int i t
  | .inr x => .str x t
def shp (b : Bool) (i : Nat) : Bool := if i = 0 then b else true
def IsKV (h : Heap) (a : Addr) (kv : Key × Str) : Prop := ∃ o t u n, h.get? a = some o ∧ o.cls = .type "tuple" ∧ o.data = .seq #[kVal t kv.1, .str kv.2 u] n
theorem IsKV.keep {h h' : Heap} {a : Addr} {kv : Key × Str} (x : IsKV h a kv) (k : ∀ b o, h.get? b = some o → h'.get? b = some o) : IsKV h' a kv :=
  let ⟨o, t, u, n, ho, r⟩ := x; ⟨o, t, u, n, k _ _ ho, r⟩
theorem IsKV.key {h : Heap} {a : Addr} {kv : Key × Str} {b : Bool} (x : IsKV h a kv) (e : kStr kv.1 = b) : G.tupKeyC h (shp b) (.ref a) = some [kI kv.1, .inr kv.2.cps.toList] := by
  obtain ⟨o, t, u, n, ho, hc, hd⟩ := x
  obtain ⟨k, y⟩ := kv
  subst e
  cases k <;> simp [G.tupKeyC, G.isTupObj, tupKey, tupItems, ho, hc, hd, kVal, kStr, shp, kI]
section
variable {X : Cx}
def rSortKV (K : PySem.W.Frag) : List V → Hp → VK → Prop := fun vs H Q => ∃ (a : Addr) (as : List Addr) (kvs : List (Key × Str)) (b : Bool), vs = [V.ref a] ∧ SqL K H a (as.map V.ref) ∧ Paired (fun t kv => SqT K H t [kV kv.1, .str kv.2]) as kvs ∧
  (∀ kv ∈ kvs, kStr kv.1 = b) ∧ (kvs.map (·.1)).Nodup ∧ ∀ (zs : List (Addr × Key × Str)) (p : Addr), zs.Perm (as.zip kvs) → zs.Pairwise (fun z y => kLt z.2.1 y.2.1 = true) → H p = none → Q (.ref p) (upd H p (.lst (zs.map fun z => V.ref z.1)))
end
end BX
/-! F40 -/
/-! sorted(d.items()) of a slot's dict, sorted(e) of pairs -/
namespace BX
open PySem PySem.Spec PyProof.Rows L2
abbrev kvT (kv : Key × Str) : List V := [kV kv.1, .str kv.2]
def pairS (kv : Key × Str) : PyData := .tuple [keyD kv.1, .str kv.2]
/-- tuples laid one by one -/
def layT (ob : Addr → Obj) : Hp → List (Addr × Key × Str) → Hp
  | H, [] => H
  | H, z :: r => layT ob (upd H z.1 (.frz (ob z.1) (.tup (kvT z.2)))) r
section
variable {X : Cx}
def rSortItK : List V → Hp → VK → Prop := fun vs H Q => ∃ (p a : Addr) (kvs : List (Key × Str)) (b : Bool), vs = [.ref p] ∧ H p = some (DX.itemsO p a) ∧ Rd H a (.dK (kvs.map fun kv => (kv.1, V.str kv.2))) ∧ (∀ kv ∈ kvs, kStr kv.1 = b) ∧
  ∀ (ob : Addr → Obj) (L : List (Addr × Key × Str)) (l : Addr), (L.map (·.2)).Perm kvs → L.Pairwise (fun z y => kLt z.2.1 y.2.1 = true) → (L.map (·.1)).Nodup → (∀ z ∈ L, H z.1 = none ∧ z.1 ≠ l ∧ (ob z.1).dict = none) → H l = none → Q (.ref l) (layT ob (upd H l (.lst (L.map fun z => V.ref z.1))) L)
def obIn (h : Heap) (a : Addr) : Obj := (h.get? a).getD { cls := .none, data := .fields #[] }
end
end BX
/-! F41 -/
/-! sorted(d.items()) of a slot's dict, sorted(e) of pairs, as data -/
namespace BX
open PySem PySem.Spec PyProof.Rows L2
section
variable {K : PySem.W.Frag} {B : Base} {σ : L2.St} {env : Ev}
theorem Ly.layT {ob : Addr → Obj} : ∀ {L : List (Addr × Key × Str)} {H F : Hp}, Ly K B σ H F env → (L.map (·.1)).Nodup → (∀ z ∈ L, H z.1 = none) → Ly K B σ (layT ob H L) (layT ob F L) env ∧ Le F (BX.layT ob F L)
  | [], _, _, l, _, _ => ⟨l, Le.refl _⟩
  | z :: r, H, F, l, nd, h => by
    rw [List.map_cons, List.nodup_cons] at nd
    have hz := h z (List.mem_cons_self ..)
    obtain ⟨h1, h2⟩ := Ly.layT (L := r) (l.newD (o := .frz (ob z.1) (.tup (kvT z.2))) hz) nd.2 fun y hy => by
      rw [upd_ne (fun e => nd.1 (by rw [← e]; exact List.mem_map_of_mem hy))]
      exact h y (List.mem_cons_of_mem _ hy)
    exact ⟨h1, (Le.up (l.sub.free hz)).trans h2⟩
end
section
variable {X : Cx} {W : WX} {n : Nat}
/-- sorted(e) of pairs whose first parts are all different -/
def sortPD : List PyData → (PyData → Prop) → Prop
  | [.list xs], k => ∃ (kvs : List (Key × Str)) (b : Bool), xs = kvs.map pairS ∧ (∀ kv ∈ kvs, kStr kv.1 = b) ∧ (kvs.map (·.1)).Nodup ∧ ∀ out : List (Key × Str), out.Perm kvs → out.Pairwise (fun x y => kLt x.1 y.1 = true) → k (.list (out.map pairS))
  | _, _ => False
/-- sorted(d.items()) of a slot's dict with texts as values -/
def dSortIt (i : Nat) : DE := fun env Q R => ∃ (kvs : List (Key × Str)) (b : Bool), pk env i = some (.dict (kvs.map fun kv => (keyD kv.1, .str kv.2))) ∧ (∀ kv ∈ kvs, kStr kv.1 = b) ∧ ∀ out : List (Key × Str), out.Perm kvs → out.Pairwise (fun x y => kLt x.1 y.1 = true) → Q (.list (out.map pairS)) env
end
end BX
/-! F42 -/
/-! dict(t) of a tuple of pairs, list(d), texts by < -/
namespace BX
open PySem PySem.Spec PyProof.Rows L2
section
variable {X : Cx} {pins : List (Addr × Obj)} {σ : L2.St} {H : Hp} {s : Shared}
end
section
variable {X : Cx}
/-- dict(e) of a tuple of pairs -/
def dictTD : List PyData → (PyData → Prop) → Prop
  | [.tuple xs], k => ∃ kvs : List (Key × PyData), xs = kvs.map pairD ∧ k (.dict (mergeD [] kvs))
  | _, _ => False
/-- list(d) -/
def listKD : List PyData → (PyData → Prop) → Prop
  | [.dict ks], k => k (.list (ks.map (·.1)))
  | _, _ => False
/-- numbers by <, texts by < -/
def ltK : PyData → PyData → (PyData → Prop) → Prop
  | .int i, .int j, k => k (.bool (decide (i < j)))
  | .str x, .str y, k => k (.bool (decide (x.cps.toList < y.cps.toList)))
  | _, _, _ => False
end
end BX
/-! F43 -/
/-! isinstance of what lies in a slot and stays there -/
namespace BX
open PySem PySem.Spec L2
section
variable {X : Cx} {W : WX}
def dIsiP (T : String) (i : Nat) : DE := fun env Q R => ∃ d b, pk env i = some d ∧ kitB (tyN d) T = some b ∧ Q (.bool b) env
end
end BX
/-! F44 -/
/-! walks of dicts: for k in d, for k, v in d.items() -/
namespace BX
open PySem PySem.Spec PyProof.Rows L2
section
variable {X : Cx} {W : WX} {B : Base} {σ : L2.St} {H F : Hp} {env : Ev} {R : Ex → Ev → Prop} {n : Nat} {tg : Expr}
/-- for k in d -/
def iK (t : DE) : DI := fun env Q R => t env (fun d env1 => ∃ ks, d = .dict ks ∧ Q (ks.map (·.1)) env1) R
end
end BX
/-! F45 -/
/-! sorted(t) of a tuple of numbers -/
namespace BX
open PySem PySem.Spec PyProof.Rows L2
section
variable {prog : Program} {w : World} {A : Around} {E : Value → Shared → Prop} {s : Shared}
end
section
variable {X : Cx} {W : WX}
/-- sorted(t) of a tuple of numbers -/
def sortTI : List PyData → (PyData → Prop) → Prop
  | [.tuple xs], k => ∃ ns, intsOf xs = some ns ∧ ∀ out : List Int, out.Perm ns → out.Pairwise (· ≤ ·) → k (.list (out.map .int))
  | _, _ => False
end
end BX
/-! F46 -/
/-! str(x) of a text -/
namespace BX
open PySem PySem.Spec PyProof.Rows L2
section
variable {X : Cx} {W : WX}
def strSD : List PyData → (PyData → Prop) → Prop
  | [.str x], k => k (.str x)
  | _, _ => False
end
end BX
/-! F47 -/
/-! a walk over an owned list, which stays the def's own -/
namespace BX
open PySem PySem.Spec PyProof.Rows L2
section
variable {X : Cx} {W : WX} {B : Base} {σ : L2.St} {H F : Hp} {env : Ev} {R : Ex → Ev → Prop} {n : Nat}
def pinB (B : Base) (i : Nat) (a : Addr) : Base := { B with io := fun j => if j = i then some a else B.io j }
theorem get_setne {env : Ev} {i j : Nat} {s t : Sl} (hi : i < env.length) (h : (env.set i s)[j]? = some t) : (i = j ∧ t = s) ∨ (i ≠ j ∧ env[j]? = some t) := by
  by_cases hj : i = j
  · subst hj
    rw [List.getElem?_set_self hi] at h
    exact .inl ⟨rfl, (Option.some.inj h).symm⟩
  · rw [List.getElem?_set_ne hj] at h
    exact .inr ⟨hj, h⟩
theorem ow_keep {env : Ev} {i : Nat} {d : PyData} {s : Sl} (hi : i < env.length) (h : ow env i = some d) (hs : s = .o d ∨ s = .io d) (j : Nat) : ow (env.set i s) j = ow env j := by
  by_cases hj : i = j
  · subst hj
    rw [h]
    unfold ow
    rw [List.getElem?_set_self hi]
    rcases hs with rfl | rfl <;> rfl
  · unfold ow
    rw [List.getElem?_set_ne hj]
theorem Ly.pin (L : Ly X.K B σ H F env) {i : Nat} {d : PyData} {a : Addr} (h : env[i]? = some (.o d)) (ha : σ[i]? = some (some (.ref a))) : Ly X.K (pinB B i a) σ H F (env.set i (.io d)) := by
  have hi : i < env.length := (List.getElem?_eq_some_iff.mp h).1
  have ho : ow env i = some d := by unfold ow; rw [h]
  have k := ow_keep (s := .io d) hi ho (.inr rfl)
  exact {
    len := by rw [List.length_set]; exact L.len
    sub := L.sub
    ext := L.ext
    new := L.new
    keep := L.keep
    tb := L.tb
    val := fun j d q => by
      rcases get_setne hi q with ⟨_, q⟩ | ⟨_, q⟩
      · cases q
      · exact L.val j d q
    rd := fun j d q => by
      rcases get_setne hi q with ⟨_, q⟩ | ⟨_, q⟩
      · cases q
      · exact L.rd j d q
    rol := L.rol
    xs := fun j d q => by
      rcases get_setne hi q with ⟨_, q⟩ | ⟨_, q⟩
      · cases q
      · exact L.xs j d q
    iof := fun j d q => by
      rcases get_setne hi q with ⟨e, q⟩ | ⟨e, q⟩
      · subst e
        exact ⟨a, if_pos rfl, ha⟩
      · obtain ⟨b, z1, z2⟩ := L.iof j d q
        exact ⟨b, (if_neg fun w => e w.symm).trans z1, z2⟩
    own := fun j d q => L.own j d (by rw [k] at q; exact q)
    apart := fun j l b d d' q1 q2 => L.apart j l b d d' (by rw [k] at q1; exact q1) (by rw [k] at q2; exact q2) }
def sForO (i : Nat) (g : DG) (body : DS) : DS := fun D env => ∃ ds, env[i]? = some (.o (.list ds)) ∧ ∃ I : Nat → Ev → Prop, I 0 (env.set i (.io (.list ds))) ∧ (∀ k env2, I k env2 → env2[i]? = some (.io (.list ds))) ∧
  (∀ k d env2, ds[k]? = some d → I k env2 → g d env2 fun env3 => body { nx := I (k + 1), ct := I (k + 1), rt := fun _ _ => False } env3) ∧ ∀ env2, I ds.length env2 → D.nx (env2.set i (.o (.list ds)))
end
end BX
/-! F48 -/
/-! xs[::-1] of a list, a new list -/
namespace BX
open PySem PySem.Spec L2
section
variable {X : Cx} {W : WX}
def dRevL (t : DE) : DE := fun env Q R => t env (fun d env1 => ∃ xs, d = .list xs ∧ Q (.list xs.reverse) env1) R
theorem jn_revL {e : Expr} {t : DE} {k : Nat} {p1 p2 p3 pos : Pos} (he : JE X W e t) : JN X W (.Subscript e (.Slice none none (some (.UnaryOp .USub (.Constant (.int 1) k p1) p2)) p3) pos) (dRevL t) :=
  ⟨PE.imp (pe_revL he.pe) fun σ H Q ⟨B, F, env, Qd, R, A, q, k⟩ => A.go (t := t) q fun v1 d1 H1 F1 env1 a1 A1 ⟨xs, e1, q1⟩ => by
    subst e1
    have r1 := a1.rp
    cases r1 with
    | lst s r =>
      refine ⟨_, _, rfl, SqL.of (A1.ly.sub _ _ s), fun p hp => ?_⟩
      have z := A1.laid hp (.lst upd_same r.reverse)
      exact k _ _ _ _ _ ⟨z.ly, a1.le.trans z.le, z.ow⟩ q1⟩
end
end BX
/-! K18a -/
namespace BX
open PySem PySem.Spec L2
def top (i : Nat) : Stmt := PySem.Challenge.pw_boxeffects_k18_whole_powers_alike.main.body.getD i (.Pass ⟨0, 0, 0, 0⟩)
def g_MOST_TIMES : PyData := .int 1000000000000000000000000000000
structure Tops (P : Program) (w : World) (K : PySem.W.Frag) (mg : Str → Option Value) (base : Heap) : Prop where
  b_isinstance : mg "isinstance" = none
  b_int : mg "int" = none
  b_bool : mg "bool" = none
  b_str : mg "str" = none
  b_tuple : mg "tuple" = none
  b_len : mg "len" = none
  b_all : mg "all" = none
  b_max : mg "max" = none
  b_min : mg "min" = none
  b_range : mg "range" = none
  b_zip : mg "zip" = none
  b_sorted : mg "sorted" = none
  b_set : mg "set" = none
  g_MOST_SIZE : GlD K mg "MOST_SIZE" BX.g_MOST_SIZE
  g_MOST_TIMES : GlD K mg "MOST_TIMES" BX.g_MOST_TIMES
  c_NoForm : ErrC K mg "NoForm" (He.ga K "NoForm") (TB.iniOf K "NoForm")
  i_NoForm : IniOk P w K mg base (TB.iniOf K "NoForm") "told"
  c_NoCount : ErrC K mg "NoCount" (He.ga K "NoCount") (TB.iniOf K "NoCount")
  i_NoCount : IniOk P w K mg base (TB.iniOf K "NoCount") "told"
  ap : ApartX K mg ["NoForm", "NoCount"]
  lb : LamB K mg base
  la_law : ∀ (st : Stmt) (f : Addr) (fd : FuncData), Fun K "law" "law" st f fd → mg "law" = some (.ref f) → LamAt K mg base "law" fd.code
abbrev apCs : List Str := ["NoForm", "NoCount"]
def okD (u v : List PyData) (d : Nat) : Prop := wd u ∧ wd v ∧ u.length ≤ 10 ∧ v.length ≤ 10 ∧ okF u v d
def okP (u v : List PyData) (d : Nat) : Prop := wd u ∧ wd v ∧ u.length ≤ 30 ∧ v.length ≤ 30 ∧ okF u v d
open Classical in
/-- the normal number of a power -/
noncomputable def pwL (u v : List PyData) (d n : Nat) : Nat := if h : ∃ k, isNorm (rep n u) (rep n v) (depthI u v d n).toNat k then Classical.choose h else 0
open Classical in
noncomputable def repB (w : List PyData) (n : Nat) (x : List PyData) (m : Nat) : Bool := decide (rep n w = rep m x)
open Classical in
noncomputable def alkB (u v : List PyData) (d n : Nat) (s t : List PyData) (e m : Nat) : Bool := decide (rep n u = rep m s ∧ rep n v = rep m t ∧ pwL u v d n = pwL s t e m)
open Classical in
noncomputable def okB (u v : List PyData) (n k : Nat) : Bool := decide (okF (rep n u) (rep n v) k)
def sp_is_word : FSp := fun ds Q _ => ∃ v n, ds = [v, .int n] ∧ mildW v ∧ Q (.bool (isWordB n v)) []
def sp_match_lengths : FSp := fun ds Q _ => ∃ p t, ds = [.tuple p, .tuple t] ∧ wd p ∧ wd t ∧ p.length ≤ 5000 ∧ t.length ≤ 5000 ∧ ∀ zs : List Nat, zs.length = t.length → (∀ i z, zs[i]? = some z → isLcp p (t.drop i) z) → Q (.list (zs.map fun (z : Nat) => .int z)) []
def sp_is_fitting : FSp := fun ds Q _ => ∃ u v d, ds = [u, v, d] ∧ mildW u ∧ mildW v ∧ Q (.bool (fits3 u v d)) []
def sp_normal_from : FSp := fun ds Q _ => ∃ u v, ∃ d : Nat, ds = [.tuple u, .tuple v, .int d] ∧ wd u ∧ wd v ∧ u.length ≤ 5000 ∧ v.length ≤ 5000 ∧ d ≤ u.length ∧ ∀ k : Nat, isNorm u v d k → Q (.int k) []
def sp_is_queue_form : FSp := fun ds Q _ => ∃ v, ds = [v] ∧ mildF v ∧ Q (.bool (isQF v)) []
def sp_need_queue_form : FSp := fun ds Q R => ∃ v, ds = [v] ∧ mildF v ∧ (isQF v = true → Q .none []) ∧ (isQF v = false → R ⟨"NoForm", [("told", v)]⟩ [])
def sp_need_count : FSp := fun ds Q R => ∃ v lo hi, ds = [v, .int lo, .int hi] ∧ (betw v lo hi = true → Q .none []) ∧ (betw v lo hi = false → R ⟨"NoCount", [("told", v)]⟩ [])
def sp_need_power : FSp := fun ds Q R => ∃ f n, ds = [f, n] ∧ mildF f ∧ (isQF f = false → R ⟨"NoForm", [("told", f)]⟩ []) ∧ (isQF f = true → betw n 1 (10 ^ 30) = false → R ⟨"NoCount", [("told", n)]⟩ []) ∧ (isQF f = true → betw n 1 (10 ^ 30) = true → Q .none [])
def sp_depth_of : FSp := fun ds Q _ => ∃ u v d, ∃ n : Nat, ds = [frm u v d, .int n] ∧ okP u v d ∧ 1 ≤ n ∧ n ≤ 10 ^ 30 ∧ Q (.int (depthI u v d n)) []
def sp_law_step : FSp := fun ds Q _ => ∃ s ls, ds = [s, g_QUEUE, .list ls] ∧ isSrc s ∧ okL ls ∧ ∀ d s', isStep d → isSrc s' → Q d [s']
def sp_law_row : FSp := fun ds Q _ => ∃ s ls, ds = [s, g_QUEUE, .list ls, .int 7] ∧ isSrc s ∧ okL ls ∧ ∀ xs s', (∀ x ∈ xs, isStep x) → xs.length ≤ 7 → isSrc s' → Q (.tuple xs) [s']
def sp_law_planted : FSp := fun ds Q _ => ∃ xs d, ds = [g_QUEUE, .list xs, d] ∧ (∀ x ∈ xs, isStep x) ∧ xs.length ≤ 7 ∧ isStep d ∧ ∀ r, isStep r → Q r []
def sp_law_contents : FSp := fun ds Q _ => ∃ s ls, ds = [s, g_QUEUE, .list ls] ∧ isSrc s ∧ okL ls ∧ ∀ c s', wd c → c.length ≤ 4 → isSrc s' → Q (.tuple c) [s']
def sp_law_normal : FSp := fun ds Q _ => ∃ u v, ∃ l : Nat, ds = [.tuple u, .tuple v, .int l] ∧ wd u ∧ wd v ∧ u.length ≤ 1000 ∧ v.length ≤ 1000 ∧ l ≤ 10000 ∧ ∀ k : Nat, okF u v k → (l ≤ u.length → isNorm u v l k) → Q (.int k) []
def sp_law_form : FSp := fun ds Q _ => ∃ xs, ds = [.tuple xs] ∧ (∀ x ∈ xs, isStep x) ∧ xs.length ≤ 7 ∧ ∀ u v d, okD u v d → Q (frm u v d) []
def sp_law_turned_word : FSp := fun ds Q _ => ∃ w, ∃ far : Nat, ds = [.tuple w, .int far] ∧ wd w ∧ 0 < w.length ∧ w.length ≤ 3 ∧ far ≤ 4 ∧ ∀ w', wd w' → w'.length = w.length → Q (.tuple w') []
def sp_law_planted_form : FSp := fun ds Q _ => ∃ s ls, ds = [s, .list ls] ∧ isSrc s ∧ okL ls ∧ ∀ u v d c s', okD u v d → wd c → c.length ≤ 50 → isSrc s' → Q (.list [frm u v d, .tuple c]) [s']
def sp_law_drawn_form : FSp := sp_law_planted_form
def sp_law_takeW : FSp := fun ds Q _ => ∃ s n, ds = [s, .int n] ∧ isSrc s ∧ 0 < n ∧ n < 2 ^ 100 ∧ ∀ r s', 0 ≤ r → r < n → isSrc s' → Q (.int r) [s']
def sp_letters_from : FSp := fun ds Q _ => ∃ w, ∃ b m : Nat, ds = [.tuple w, .int b, .int m] ∧ (w ≠ [] ∨ m = 0) ∧ wd w ∧ w.length ≤ 1000 ∧ b ≤ 10 ^ 40 ∧ m ≤ 10000 ∧ Q (.tuple (cyc w b m)) []
def badP2 (f n : PyData) (R : Ex → List PyData → Prop) : Prop := (isQF f = false ∧ R ⟨"NoForm", [("told", f)]⟩ []) ∨ (isQF f = true ∧ betw n 1 (10 ^ 30) = false ∧ R ⟨"NoCount", [("told", n)]⟩ [])
def leastSp : FSp := fun ds Q _ => ∃ u v d, ∃ n : Nat, ds = [frm u v d, .int n] ∧ okP u v d ∧ 1 ≤ n ∧ n ≤ 10 ^ 30 ∧ Q (.int (pwL u v d n : Nat)) []
def sp_least_of_power : FSp := leastSp
def sp_power_least : FSp := leastSp
def sp_law_great_least : FSp := leastSp
def wordsSp : FSp := fun ds Q _ => ∃ w x, ∃ n m : Nat, ds = [.tuple w, .int n, .tuple x, .int m] ∧ wd w ∧ wd x ∧ w.length ≤ 30 ∧ x.length ≤ 30 ∧ 1 ≤ n ∧ 1 ≤ m ∧ Q (.bool (repB w n x m)) []
def sp_repeated_alike : FSp := wordsSp
def sp_law_same_words : FSp := wordsSp
def good4 (f n g m : PyData) (Q : PyData → List PyData → Prop) (R : Ex → List PyData → Prop) : Prop := badP2 f n R ∨ ∃ u v d, ∃ k : Nat, f = frm u v d ∧ n = .int k ∧ okP u v d ∧ 1 ≤ k ∧ k ≤ 10 ^ 30 ∧ (badP2 g m R ∨ ∃ s t e, ∃ j : Nat, g = frm s t e ∧ m = .int j ∧ okP s t e ∧ 1 ≤ j ∧ j ≤ 10 ^ 30 ∧ Q (.bool (alkB u v d k s t e j)) [])
def sp_powers_alike : FSp := fun ds Q R => ∃ f n g m, ds = [f, n, g, m] ∧ mildF f ∧ mildF g ∧ good4 f n g m Q R
def sp_law_alike : FSp := fun ds Q _ => ∃ u v d s t e, ∃ k j : Nat, ds = [frm u v d, .int k, frm s t e, .int j] ∧ okP u v d ∧ okP s t e ∧ 1 ≤ k ∧ k ≤ 10 ^ 30 ∧ 1 ≤ j ∧ j ≤ 10 ^ 30 ∧ Q (.bool (alkB u v d k s t e j)) []
def sp_law_rest_begins : FSp := fun ds Q _ => ∃ u v d, ∃ n k : Nat, ds = [.tuple u, .tuple v, .int k, .int n] ∧ okP u v d ∧ u ≠ [] ∧ v ≠ [] ∧ 1 ≤ n ∧ depthI u v d n ≤ k ∧ k ≤ n * u.length ∧ Q (.bool (okB u v n k)) []
def sp_law_written : FSp := fun ds Q _ => ∃ u v d, ∃ n : Nat, ds = [frm u v d, .int n] ∧ okP u v d ∧ 1 ≤ n ∧ n ≤ 3 ∧ Q (frm (rep n u) (rep n v) (pwL u v d n)) []
def sp_law_pair : FSp := fun ds Q _ => ∃ s ls, ds = [s, .list ls] ∧ isSrc s ∧ okL ls ∧ ∀ u v d s2 t e s', okP u v d → okP s2 t e → isSrc s' → Q (.list [frm u v d, frm s2 t e]) [s']
def hearE (Q : PyData → Prop) (ex : Ex) : Prop := ∃ v, ex.fs = ([("told", v)] : List (Str × PyData)) ∧ ((ex.cls = "NoForm" ∧ Q (.tuple [.str "form", v])) ∨ (ex.cls = "NoCount" ∧ Q (.tuple [.str "times", v])))
def sp_law_heard : SpL := fun tl Q _ => tl (fun d => Q (.tuple [.str "is", d])) (hearE Q)
end BX
/-! E13 -/
/-! a top without a table of 18 rows -/
noncomputable section
namespace TB
open PySem PySem.W PySem.Calls PyProof.Rows HandSHeadRun
open Sem (wp)
/-- the whole; no table in it -/
def topS (p : Program) (w : World) (n0 : Nat) (s0 : St) : Option St := match evO (okT n0) p w callerΓ (start1 p) default s0 with
  | some (.ok (code, frame), q, s1) => (match evO (okT n0) p w (callerΓ.enter (codeOf p code frame) none q) (blockStart (behindTheImports p) (envOf p code frame)) q s1 with
    | some (.ok (), q1, s2) => (match evO (okT n0) p w (callerΓ.enter (codeOf p code frame) none q) (execs (behindTheImports p) (envOf p code frame)) q1 s2 with
      | some (.ok .next, _, s3) => some s3
      | _ => none)
    | _ => none)
  | _ => none
section
variable {p : Program} {w : World} {f : Fx}
theorem topS_ok {n0 : Nat} {s0 : St} (h : (topS p w n0 s0).isSome = true) :
    wp (model p w) callerΓ (topStub p).cur (fun fin _ s' => fin = .done (.ret .none) ∧ ∃ S, topS p w n0 s0 = some S ∧ s' = f.st S ∧ Fr f (okT n0) s0 S) (fun _ _ _ => False) default (f.st s0) := by
  show wp (model p w) callerΓ (do
      let code ← moduleCode p.main
      let frame ← newBodyFrame code mainNs mainNs
      let _ ← run (codeOf p code frame)
      ret .none) _ _ _ _
  have split : (do
      let code ← moduleCode p.main
      let frame ← newBodyFrame code mainNs mainNs
      let _ ← run (codeOf p code frame)
      ret .none : Sem Fin) = (start1 p >>= fun c => (do let _ ← run (codeOf p c.1 c.2); ret .none : Sem Fin)) := by
    unfold start1
    simp only [bind_assoc, pure_bind]
  rw [split, Sem.wp_bind']
  have h0 := h
  unfold topS at h0
  cases e1 : evO (okT n0) p w callerΓ (start1 p) default s0 with
  | none => rw [e1] at h0; cases h0
  | some z =>
    obtain ⟨a, q, s1⟩ := z
    cases a with
    | error _ => rw [e1] at h0; cases h0
    | ok cf =>
      obtain ⟨code, frame⟩ := cf
      rw [e1] at h0
      dsimp only at h0
      obtain ⟨f1, w1⟩ := evO_ok (f := f) e1
      refine w1 _ _ ?_
      show wp (model p w) callerΓ (run (codeOf p code frame) >>= _) _ _ q (f.st s1)
      rw [Sem.wp_bind']
      unfold run
      rw [Sem.wp_call]
      rw [wpCode_iff_wp]
      show wp (model p w) (callerΓ.enter (codeOf p code frame) none q) (denote PySem.table (codeOf p code frame)) _ _ q (f.st s1)
      cases e2 : evO (okT n0) p w (callerΓ.enter (codeOf p code frame) none q) (blockStart (behindTheImports p) (envOf p code frame)) q s1 with
      | none => rw [e2] at h0; cases h0
      | some z =>
        obtain ⟨a, q1, s2⟩ := z
        cases a with
        | error _ => rw [e2] at h0; cases h0
        | ok u =>
          rw [e2] at h0
          dsimp only at h0
          obtain ⟨f2, w2⟩ := evO_ok (f := f) e2
          show wp (model p w) (callerΓ.enter (codeOf p code frame) none q) (do
            blockStart (behindTheImports p) (envOf p code frame)
            let fl ← (execs (behindTheImports p) (envOf p code frame)).onRaise (leaving (envOf p code frame))
            pure (Fin.done fl) : Sem Fin) _ _ q (f.st s1)
          rw [Sem.wp_bind']
          refine w2 _ _ ?_
          show wp (model p w) _ (_ >>= _) _ _ q1 (f.st s2)
          rw [Sem.wp_bind', Sem.wp_onRaise]
          cases e3 : evO (okT n0) p w (callerΓ.enter (codeOf p code frame) none q) (execs (behindTheImports p) (envOf p code frame)) q1 s2 with
          | none => rw [e3] at h0; cases h0
          | some z =>
            obtain ⟨a, q2, s3⟩ := z
            cases a with
            | error _ => rw [e3] at h0; cases h0
            | ok fl =>
              cases fl with
              | next =>
                obtain ⟨f3, w3⟩ := evO_ok (f := f) e3
                refine w3 _ _ ?_
                refine ⟨rfl, s3, ?_, rfl, f1.trans (f2.trans f3)⟩
                unfold topS
                rw [e1]
                dsimp only
                rw [e2]
                dsimp only
                rw [e3]
              | _ => rw [e3] at h0; cases h0
end
/-- from the boot on -/
def topAllS (p : Program) (w : World) : Option St := match putAll (boot_heap w.params).objs.toList .nil 0 with
  | some (t, n) => nat n fun n => nat boot_toks fun k => topS p w n (t, n, k)
  | none => none
/-- what the kernel is asked -/
def RunS (p q : Program) (loose : List PySem.Str) (H : Hook) (ob : SharedT → H.α) (w : World) : Prop :=
  ∀ (os : OsState), (topAllS p w).map (fun s => (looksF p (boot_heap w.params) ((fx w os).st s), seenQ q loose (importedModules p.main.body) (fun s => xlAt q [] s) ((fx w os).st s), ob (toT (fx w os) s))) = some (true, openGood q loose, H.val w)
theorem groundsS {p q : Program} {loose : List PySem.Str} {H : Hook} {ob : SharedT → H.α} (ho : ∀ s : SharedT, ob s = H.obs s.abs) (e : opening p = plainProg p.main.scope.names) (ff : ∀ s, fenceModules? p s = some s) (hch : chainsOk q = true) {w : World} (run : RunS p q loose H ob w) : Grounds p q loose H.says w := by
  obtain ⟨s0, a0, a1⟩ := Option.map_eq_some_iff.mp (boot_open (N := 600) e rfl ff w)
  obtain ⟨sb, b0, b1⟩ := Option.bind_eq_some_iff.mp a0
  rw [← table_eq_tree] at b0
  have AI := AfterImport.of_importEnds b0
  have es : sb = s0 := Option.some.inj ((ff sb).symm.trans b1)
  subst es
  refine ⟨⟨sb, AI⟩, fun s hs => ?_⟩
  obtain rfl : s = sb := AfterImport.unique hs AI
  obtain ⟨bh, bg, bd, bt, bo⟩ := s
  simp only [Prod.mk.injEq] at a1
  obtain ⟨rfl, rfl, rfl, rfl⟩ := a1
  have hz : (⟨boot_heap w.params, #[], boot_drawn, boot_toks, bo⟩ : Shared).asleep := AI.life
  refine ⟨_, b1, rfl, ?_⟩
  -- the boot's heap as a tree
  cases ep : putAll (boot_heap w.params).objs.toList .nil 0 with
  | none =>
    have z := run bo
    unfold topAllS at z
    rw [ep] at z
    cases z
  | some r =>
    obtain ⟨T, n⟩ := r
    have eh := putAll_heap ep
    have en : (boot_heap w.params).objs.size = n := by
      rw [← eh]
      exact absHeap_size T n _
    have est : (fx w bo).st (T, n, boot_toks) = ⟨boot_heap w.params, #[], boot_drawn, boot_toks, bo⟩ := by
      show (⟨absHeap T n (boot_heap w.params).life, #[], boot_drawn, boot_toks, bo⟩ : Shared) = _
      rw [eh]
    have all : ∃ S, topS p w n (T, n, boot_toks) = some S ∧ (looksF p (boot_heap w.params) ((fx w bo).st S), seenQ q loose (importedModules p.main.body) (fun s => xlAt q [] s) ((fx w bo).st S), ob (toT (fx w bo) S)) = (true, openGood q loose, H.val w) := by
      have z := run bo
      unfold topAllS at z
      rw [ep] at z
      dsimp only at z
      rw [nat_eq, nat_eq] at z
      exact Option.map_eq_some_iff.mp z
    have w0 := topS_ok (f := fx w bo) (p := p) (w := w) (n0 := n) (s0 := (T, n, boot_toks)) (by
      obtain ⟨S, h, _⟩ := all
      rw [h]
      rfl)
    rw [est] at w0
    obtain ⟨s1, ⟨S, hS, e1, fr⟩, nn, t1, hrun, hthr⟩ := run_of (p := p) (w := w) hz (R := fun s1 => ∃ S, topS p w n (T, n, boot_toks) = some S ∧ s1 = (fx w bo).st S ∧ Fr (fx w bo) (okT n) (T, n, boot_toks) S)
      (Sem.wp_mono _ _ _ (fun fin _ s' z => by
        obtain ⟨z1, S, z2, z3, z4⟩ := z
        exact ⟨z1, ⟨S, z2, z3, z4⟩, by rw [z3]; rfl⟩) (fun _ _ _ z => z) _ _ w0)
    obtain ⟨S', hS', looks⟩ := all
    obtain rfl : S' = S := Option.some.inj (hS'.symm.trans hS)
    simp only [Prod.mk.injEq] at looks
    obtain ⟨l1, l2, l3⟩ := looks
    rw [← seenQ_eq] at l2
    rw [ho, toT_abs] at l3
    rw [← e1] at l1 l2 l3
    have hlife : s1.heap.life = (boot_heap w.params).life := by
      rw [e1]
      rfl
    have hg : s1.gens = #[] := by
      rw [e1]
      rfl
    unfold looksF at l1
    simp only [Bool.and_eq_true] at l1
    obtain ⟨⟨⟨c1, c2⟩, c3⟩, c4⟩ := l1
    obtain ⟨G, _, g1, g2, g3, g4, g5⟩ := ground_of_open (w := w) (XP := XL q []) (fun s z => xl_of s z) hch l2
    refine ⟨s1, ⟨⟨nn, t1, hrun, hthr⟩, hlife, Shared.rest_eq (by rw [e1]; rfl), fun b o hb hn => ?_, g2, statics_of_ok c1, g3, g4, g5, gens_of_done c3, names_of_bound c2, laid_of_kept c4⟩, Shared.asleep_of_life hlife hz, hg, g1, G, H.of w s1 l3⟩
    rw [e1]
    refine fr.2 b o ?_ (by rw [est]; exact hb)
    have lt : b < n := by
      rw [← en]
      exact Heap.lt_size hb
    unfold okT
    have h1 : Nat.ble n b = false := by
      cases q : Nat.ble n b with
      | false => rfl
      | true => exact absurd (Nat.le_of_ble_eq_true q) (Nat.not_le_of_lt lt)
    have h2 : Nat.beq b mainNs = false := by
      cases q : Nat.beq b mainNs with
      | false => rfl
      | true => exact absurd (.inl (Nat.eq_of_beq_eq_true q)) hn
    have h3 : Nat.beq b cStatics = false := by
      cases q : Nat.beq b cStatics with
      | false => rfl
      | true => exact absurd (.inr (.inl (Nat.eq_of_beq_eq_true q))) hn
    rw [h1, h2, h3]
    rfl
end TB
/-! K18h -/
namespace BX
open PySem PySem.Spec L2
def names : List Str := (["BoxError", "MOST_SIZE", "MOST_TIMES", "NoCount", "NoForm", "_law_alike", "_law_contents", "_law_drawn_form", "_law_form", "_law_great_least", "_law_heard", "_law_letters", "_law_normal", "_law_one", "_law_pair", "_law_planted", "_law_planted_form", "_law_pool", "_law_rest_begins", "_law_row", "_law_same_words", "_law_step", "_law_take", "_law_turned_word", "_law_written", "depth_of", "is_between", "is_fitting", "is_letter", "is_number"] : List Str) ++ (["is_queue_form", "is_word", "least_of_power", "letters_from", "match_lengths", "need_count", "need_power", "need_queue_form", "normal_from", "power_least", "powers_alike", "repeated_alike"] : List Str)
def cfg : TB.Cfg where
  free := ["isinstance", "int", "bool", "str", "tuple", "len", "all", "max", "min", "range", "zip", "sorted", "set"]
  defs := ([("_law_pool", top 28, none), ("_law_take", top 29, none), ("_law_one", top 30, none), ("_law_turned_word", top 38, none), ("_law_normal", top 36, none), ("_law_planted_form", top 39, none), ("_law_form", top 37, none), ("_law_step", top 32, none), ("_law_planted", top 34, none), ("_law_row", top 33, none), ("_law_contents", top 35, none), ("_law_drawn_form", top 40, none), ("_law_written", top 45, none), ("_law_pair", top 46, none), ("_law_letters", top 31, none), ("is_letter", top 8, none), ("is_word", top 9, some 4000), ("is_number", top 6, none), ("is_between", top 7, none), ("is_fitting", top 14, none), ("match_lengths", top 13, none), ("normal_from", top 15, none), ("is_queue_form", top 16, none), ("need_queue_form", top 17, none), ("need_count", top 11, none)] : List (Str × Stmt × Option Int)) ++ ([("need_power", top 20, none), ("letters_from", top 21, none), ("repeated_alike", top 25, none), ("depth_of", top 22, none), ("least_of_power", top 24, none), ("powers_alike", top 26, none), ("_law_same_words", top 43, none), ("_law_rest_begins", top 41, none), ("_law_great_least", top 42, none), ("_law_alike", top 44, none), ("power_least", top 23, none), ("_law_heard", top 47, none), ("law", top 48, none)] : List (Str × Stmt × Option Int))
  data := [("MOST_SIZE", g_MOST_SIZE), ("MOST_TIMES", g_MOST_TIMES)]
  tabs := []
  ttabs := []
  errs := [("NoForm", "BoxError.__init__", inClass (top 1) 0), ("NoCount", "BoxError.__init__", inClass (top 1) 0)]
  apart := ["NoForm", "NoCount"]
  lams := ["law"]
theorem sci_BoxError : FnScope ["self", "told"] ["self", "told"] (defScope (inClass (top 1) 0)) := ⟨rfl, rfl, rfl, by decide +kernel, rfl, by decide +kernel, by decide +kernel⟩
theorem e_NoForm {K : PySem.W.Frag} {h : Heap} {mg : Str → Option Value} {w : World} (KX : K.In h) (G : h.Ns mainGlobals mg) (S : TB.Says cfg w K) : ErrC K mg "NoForm" (He.ga K "NoForm") (TB.iniOf K "NoForm") ∧ ∀ (P : Program) (w : World) (base : Heap), IniOk P w K mg base (TB.iniOf K "NoForm") "told" :=
  TB.err_at KX G (S.err 0).1 (S.err 0).2 sci_BoxError ⟨_, _, _, _, rfl⟩ (Or.inl rfl) (Or.inl rfl) (fun _ _ _ _ _ _ us e => match us, e with | [_, _], _ => rfl)
theorem e_NoCount {K : PySem.W.Frag} {h : Heap} {mg : Str → Option Value} {w : World} (KX : K.In h) (G : h.Ns mainGlobals mg) (S : TB.Says cfg w K) : ErrC K mg "NoCount" (He.ga K "NoCount") (TB.iniOf K "NoCount") ∧ ∀ (P : Program) (w : World) (base : Heap), IniOk P w K mg base (TB.iniOf K "NoCount") "told" :=
  TB.err_at KX G (S.err 1).1 (S.err 1).2 sci_BoxError ⟨_, _, _, _, rfl⟩ (Or.inl rfl) (Or.inl rfl) (fun _ _ _ _ _ _ us e => match us, e with | [_, _], _ => rfl)
abbrev RW0 : PySem.W.OpenRow := PySem.W.OpenLaw.row PySem.Challenge.rw_boxeffects_k18_whole_powers_alike
abbrev QV : Program := PySem.W.view RW0.prog [48]
theorem run1 (w : World) : TB.RunS RW0.prog QV names (TB.hookC cfg) (TB.obC cfg) (w.withFollow "special-get-raises" false) := by
  intro os
  kernel_rfl
theorem run2 (w : World) : TB.RunS RW0.prog QV names (TB.hookC cfg) (TB.obC cfg) (w.withFollow "special-get-raises" true) := by
  intro os
  kernel_rfl
theorem grounds (w : World) : TB.Grounds RW0.prog QV names (TB.hookC cfg).says w :=
  TB.groundsS (TB.obC_eq cfg) (by kernel_rfl) (fun s => by kernel_rfl) (by decide +kernel) (PySem.W.byRow2 "special-get-raises" run1 run2 w)
end BX
/-! K18b -/
namespace BX
open PySem PySem.Spec L2
abbrev s_is_number : Stmt := top 6
theorem sc_is_number : FnScope ["value"] ["value"] (defScope s_is_number) := ⟨rfl, rfl, rfl, by decide +kernel, rfl, by decide +kernel, by decide +kernel⟩
def b_is_number : DS := sSeq (sRet (dAnd (dIsi "int" (dVar 0)) (dNot (dIsi "bool" (dVar 0))))) sNil
theorem d_is_number {P : Program} {w : World} {K : PySem.W.Frag} {mg : Str → Option Value} {base : Heap} {f : Addr} {fd : FuncData} (F : Fun K "is_number" "is_number" s_is_number f fd) (G : Tops P w K mg base)
    (cdv : Value) (A : Around) (outer : List PySem.Env) (s : Shared) (H : Hp) (E : XK) (gd : Gd (cxB P w K mg base ["value"] "is_number" s_is_number f cdv A outer s H E) (wB E) 0) : JSs (cxB P w K mg base ["value"] "is_number" s_is_number f cdv A outer s H E) (wB E) (defBody s_is_number) (b_is_number) :=
  (js_cons (js_ret (j_and (j_isi "int" (by rfl) G.b_isinstance (j_var 0 (pv 0)) (by rfl) G.b_int (by decide +kernel)) (j_andZ (j_not (j_isi "bool" (by rfl) G.b_isinstance (j_var 0 (pv 0)) (by rfl) G.b_bool (by decide +kernel)))))) js_nil)
abbrev s_is_between : Stmt := top 7
theorem sc_is_between : FnScope ["value", "least", "most"] ["value", "least", "most"] (defScope s_is_between) := ⟨rfl, rfl, rfl, by decide +kernel, rfl, by decide +kernel, by decide +kernel⟩
def b_is_between : DS := sSeq (sRet (dAnd (dCall sp_is_number [.d (dVar 0)]) (dChain leD leD (dVar 1) (dVar 0) (dVar 2)))) sNil
theorem d_is_between {P : Program} {w : World} {K : PySem.W.Frag} {mg : Str → Option Value} {base : Heap} {f : Addr} {fd : FuncData} (F : Fun K "is_between" "is_between" s_is_between f fd) (G : Tops P w K mg base) (c_is_number : Cal P w K mg base "is_number" 1 [.d] sp_is_number)
    (cdv : Value) (A : Around) (outer : List PySem.Env) (s : Shared) (H : Hp) (E : XK) (gd : Gd (cxB P w K mg base ["value", "least", "most"] "is_between" s_is_between f cdv A outer s H E) (wB E) 1) : JSs (cxB P w K mg base ["value", "least", "most"] "is_between" s_is_between f cdv A outer s H E) (wB E) (defBody s_is_between) (b_is_between) :=
  (js_cons (js_ret (j_and (j_call (ts := [.d (dVar 0)]) c_is_number gd (by decide) (by rfl) (ja_d (j_var 0 (pv 0)) ja_nil)) (j_andZ (j_chain o_le o_le (j_var 1 (pv 1)) (j_var 0 (pv 0)) (j_var 2 (pv 2)))))) js_nil)
abbrev s_is_letter : Stmt := top 8
theorem sc_is_letter : FnScope ["value", "sign"] ["value"] (defScope s_is_letter) := ⟨rfl, rfl, rfl, by decide +kernel, rfl, by decide +kernel, by decide +kernel⟩
def b_is_letter_1 : DS := sSeq (sRet (dCB allD [dLc [1] (iS (dVar 0)) (gN 1) (dYes) (dChain leS leS (dC (.str "a")) (dVar 1) (dC (.str "z")))])) sNil
def b_is_letter : DS := sSeq (sIf (dOrT (dNotT (dTru (dIsi "str" (dVar 0)))) (dNotT (dTst (dChain leD leD (dC (.int 1)) (dCB lenD [dVar 0]) (dC (.int 4)))))) (sSeq (sRet (dC (.bool false))) sNil) (sNil)) (b_is_letter_1)
theorem d_is_letter {P : Program} {w : World} {K : PySem.W.Frag} {mg : Str → Option Value} {base : Heap} {f : Addr} {fd : FuncData} (F : Fun K "is_letter" "is_letter" s_is_letter f fd) (G : Tops P w K mg base)
    (cdv : Value) (A : Around) (outer : List PySem.Env) (s : Shared) (H : Hp) (E : XK) (gd : Gd (cxB P w K mg base ["value", "sign"] "is_letter" s_is_letter f cdv A outer s H E) (wB E) 0) : JSs (cxB P w K mg base ["value", "sign"] "is_letter" s_is_letter f cdv A outer s H E) (wB E) (defBody s_is_letter) (b_is_letter) :=
  (js_cons (js_if (JW.jt (j_orT (j_notT (j_tru (j_isi "str" (by rfl) G.b_isinstance (j_var 0 (pv 0)) (by rfl) G.b_str (by decide +kernel)))) (j_or1 (j_notT (j_chainT o_le o_le j_int (j_callB (ts := [dVar 0]) c_len (by rfl) G.b_len (by decide +kernel) (ja_d (j_var 0 (pv 0)) ja_nil)) j_int))))) (js_cons (js_ret j_bl) js_nil) js_nil) (js_cons (js_ret (j_callB (ts := [dLc [1] (iS (dVar 0)) (gN 1) (dYes) (dChain leS leS (dC (.str "a")) (dVar 1) (dC (.str "z")))]) (c_all gd.calm) (by rfl) G.b_all (by decide +kernel) (ja_d (JN.je (jn_lc (own := [("sign", 1)]) gd (by rfl) (ji_str (j_var 0 (pv 0))) (fun _ _ _ _ _ => (jgo_name 1 (pg_name (i := 1) gd.blk.nd rfl (by first | exact Or.inl rfl | exact Or.inr rfl)) (by decide))) (fun _ _ _ _ _ => jts_nil) (fun _ _ _ _ _ => (j_chain o_leS o_leS j_str (j_var 1 (pv 1)) j_str)))) ja_nil))) js_nil))
abbrev s_is_word : Stmt := top 9
theorem sc_is_word : FnScope ["value", "most", "letter"] ["value", "most"] (defScope s_is_word) := ⟨rfl, rfl, rfl, by decide +kernel, rfl, by decide +kernel, by decide +kernel⟩
def b_is_word_1 : DS := sSeq (sRet (dCB allD [dLc [2] (iD (dVar 0)) (gN 2) (dYes) (dCall sp_is_letter [.d (dVar 2)])])) sNil
def b_is_word : DS := sSeq (sIf (dOrT (dNotT (dTru (dIsi "tuple" (dVar 0)))) (dTst (dBin gtD (dCB lenD [dVar 0]) (dVar 1)))) (sSeq (sRet (dC (.bool false))) sNil) (sNil)) (b_is_word_1)
theorem d_is_word {P : Program} {w : World} {K : PySem.W.Frag} {mg : Str → Option Value} {base : Heap} {f : Addr} (G : Tops P w K mg base) (c_is_letter : Cal P w K mg base "is_letter" 1 [.d] sp_is_letter)
    (cdv : Value) (A : Around) (outer : List PySem.Env) (s : Shared) (H : Hp) (E : XK) (gd : Gd (cxB P w K mg base ["value", "most", "letter"] "is_word" s_is_word f cdv A outer s H E) (wB E) 1) : JSs (cxB P w K mg base ["value", "most", "letter"] "is_word" s_is_word f cdv A outer s H E) (wB E) (defBody s_is_word) (b_is_word) :=
  (js_cons (js_if (JW.jt (j_orT (j_notT (j_tru (j_isi "tuple" (by rfl) G.b_isinstance (j_var 0 (pv 0)) (by rfl) G.b_tuple (by decide +kernel)))) (j_or1 (j_cmpT o_gt (j_callB (ts := [dVar 0]) c_len (by rfl) G.b_len (by decide +kernel) (ja_d (j_var 0 (pv 0)) ja_nil)) (j_var 1 (pv 1)))))) (js_cons (js_ret j_bl) js_nil) js_nil) (js_cons (js_ret (j_callB (ts := [dLc [2] (iD (dVar 0)) (gN 2) (dYes) (dCall sp_is_letter [.d (dVar 2)])]) (c_all gd.calm) (by rfl) G.b_all (by decide +kernel) (ja_d (JN.je (jn_lc (own := [("letter", 2)]) gd (by rfl) (ji_seq (j_var 0 (pv 0))) (fun _ _ _ _ _ => (jgo_name 2 (pg_name (i := 2) gd.blk.nd rfl (by first | exact Or.inl rfl | exact Or.inr rfl)) (by decide))) (fun _ _ _ _ _ => jts_nil) (fun _ _ _ _ _ => (j_call (ts := [.d (dVar 2)]) c_is_letter gd.blk (by decide) (by rfl) (ja_d (j_var 2 (pv 2)) ja_nil))))) ja_nil))) js_nil))
abbrev s_need_count : Stmt := top 11
theorem sc_need_count : FnScope ["count", "least", "most"] ["count", "least", "most"] (defScope s_need_count) := ⟨rfl, rfl, rfl, by decide +kernel, rfl, by decide +kernel, by decide +kernel⟩
def b_need_count : DS := sSeq (sIf (dNotT (dTru (dCall sp_is_between [.d (dVar 0), .d (dVar 1), .d (dVar 2)]))) (sSeq (sRaise "NoCount" (dVar 0)) sNil) (sNil)) sNil
theorem d_need_count {P : Program} {w : World} {K : PySem.W.Frag} {mg : Str → Option Value} {base : Heap} {f : Addr} {fd : FuncData} (F : Fun K "need_count" "need_count" s_need_count f fd) (G : Tops P w K mg base) (c_is_between : Cal P w K mg base "is_between" 2 [.d, .d, .d] sp_is_between)
    (cdv : Value) (A : Around) (outer : List PySem.Env) (s : Shared) (H : Hp) (E : XK) (gd : Gd (cxB P w K mg base ["count", "least", "most"] "need_count" s_need_count f cdv A outer s H E) (wB E) 2) : JSs (cxB P w K mg base ["count", "least", "most"] "need_count" s_need_count f cdv A outer s H E) (wB E) (defBody s_need_count) (b_need_count) :=
  (js_cons (js_if (j_notT (j_tru (j_call (ts := [.d (dVar 0), .d (dVar 1), .d (dVar 2)]) c_is_between gd (by decide) (by rfl) (ja_d (j_var 0 (pv 0)) (ja_d (j_var 1 (pv 1)) (ja_d (j_var 2 (pv 2)) ja_nil)))))) (js_cons (js_raiseI G.c_NoCount G.i_NoCount gd (by decide) (by rfl) (j_var 0 (pv 0))) js_nil) js_nil) js_nil)
abbrev s_match_lengths : Stmt := top 13
theorem sc_match_lengths : FnScope ["pattern", "text", "both", "lengths", "begin", "end", "at", "length"] ["pattern", "text"] (defScope s_match_lengths) := ⟨rfl, rfl, rfl, by decide +kernel, rfl, by decide +kernel, by decide +kernel⟩
def b_match_lengths_1 : DS := sSeq (sIf (dTst (dBin gtD (dBin addD (dVar 6) (dVar 7)) (dVar 5))) (sSeq (sPar [4, 5] [.d (dVar 6), .d (dBin addD (dVar 6) (dVar 7))]) sNil) (sNil)) sNil
def b_match_lengths_2 : DS := sSeq (sAsg (dVar 7) (gIx 3 (dVar 6))) (b_match_lengths_1)
def b_match_lengths_3 : DS := sSeq (sWhile (dAndT (dTst (dBin ltD (dBin addD (dVar 6) (dVar 7)) (dCB lenD [dVar 2]))) (dTst (dBin eqD (dIx (dVar 2) (dVar 7)) (dIx (dVar 2) (dBin addD (dVar 6) (dVar 7)))))) (sSeq (sAug 7 (int2 (fun _ _ => True) (fun a b => .int (a + b))) (dC (.int 1))) sNil)) (b_match_lengths_2)
def b_match_lengths_4 : DS := sSeq (sRet (dSlP 3 (dSo (dBin addD (dCB lenD [dVar 0]) (dC (.int 1)))) (dNo))) sNil
def b_match_lengths_5 : DS := sSeq (sFor (iR2 (dC (.int 1)) (dCB lenD [dVar 2])) (gN 6) (sSeq (sSet 7 (dIte (dTst (dBin ltD (dVar 6) (dVar 5))) (dCB minD [dBin subD (dVar 5) (dVar 6), dIxP 3 (dBin subD (dVar 6) (dVar 4))]) (dC (.int 0)))) (b_match_lengths_3))) (b_match_lengths_4)
def b_match_lengths_6 : DS := sSeq (sSet2 4 5 (dC (.int 0))) (b_match_lengths_5)
def b_match_lengths_7 : DS := sSeq (sSetO 3 (dMulN (dLst [dC (.int 0)]) (dCB lenD [dVar 2]))) (b_match_lengths_6)
def b_match_lengths : DS := sSeq (sSet 2 (dBin addD (dBin addD (dVar 0) (dTup [dC .none])) (dVar 1))) (b_match_lengths_7)
theorem d_match_lengths {P : Program} {w : World} {K : PySem.W.Frag} {mg : Str → Option Value} {base : Heap} {f : Addr} {fd : FuncData} (F : Fun K "match_lengths" "match_lengths" s_match_lengths f fd) (G : Tops P w K mg base)
    (cdv : Value) (A : Around) (outer : List PySem.Env) (s : Shared) (H : Hp) (E : XK) (gd : Gd (cxB P w K mg base ["pattern", "text", "both", "lengths", "begin", "end", "at", "length"] "match_lengths" s_match_lengths f cdv A outer s H E) (wB E) 0) : JSs (cxB P w K mg base ["pattern", "text", "both", "lengths", "begin", "end", "at", "length"] "match_lengths" s_match_lengths f cdv A outer s H E) (wB E) (defBody s_match_lengths) (b_match_lengths) :=
  (js_cons (js_set 2 (fun te h => ps_set gd.nd rfl (by first | exact Or.inl rfl | exact Or.inr rfl) h) (j_bin o_add (j_bin o_add (j_var 0 (pv 0)) (j_tup (ts := [dC .none]) (ja_d j_non ja_nil))) (j_var 1 (pv 1)))) (js_cons (js_setO 3 (fun te h => ps_set gd.nd rfl (by first | exact Or.inl rfl | exact Or.inr rfl) h) (jn_mul (JN.je (jn_lst (ts := [dC (.int 0)]) (ja_d j_int ja_nil))) (j_callB (ts := [dVar 2]) c_len (by rfl) G.b_len (by decide +kernel) (ja_d (j_var 2 (pv 2)) ja_nil)))) (js_cons (js_set2 4 5 j_int (pg_name (i := 4) gd.nd rfl (by first | exact Or.inl rfl | exact Or.inr rfl)) (pg_name (i := 5) gd.nd rfl (by first | exact Or.inl rfl | exact Or.inr rfl))) (js_cons (js_for gd (ji_range2 (by rfl) G.b_range j_int (j_callB (ts := [dVar 2]) c_len (by rfl) G.b_len (by decide +kernel) (ja_d (j_var 2 (pv 2)) ja_nil))) (jg_name 6 (pg_name (i := 6) gd.nd rfl (by first | exact Or.inl rfl | exact Or.inr rfl))) (js_cons (js_set 7 (fun te h => ps_set gd.nd rfl (by first | exact Or.inl rfl | exact Or.inr rfl) h) (j_ite (j_cmpT o_lt (j_var 6 (pv 6)) (j_var 5 (pv 5))) (j_callB (ts := [dBin subD (dVar 5) (dVar 6), dIxP 3 (dBin subD (dVar 6) (dVar 4))]) (c_min gd.calm) (by rfl) G.b_min (by decide +kernel) (ja_d (j_bin o_sub (j_var 5 (pv 5)) (j_var 6 (pv 6))) (ja_d (j_ixP 3 (pv 3) (j_bin o_sub (j_var 6 (pv 6)) (j_var 4 (pv 4)))) ja_nil))) j_int)) (js_cons (js_while gd (JW.jt (j_andT (j_cmpT o_lt (j_bin o_add (j_var 6 (pv 6)) (j_var 7 (pv 7))) (j_callB (ts := [dVar 2]) c_len (by rfl) G.b_len (by decide +kernel) (ja_d (j_var 2 (pv 2)) ja_nil))) (j_and1 (j_cmpT (o_eq gd.u64) (j_ix (j_var 2 (pv 2)) (j_var 7 (pv 7))) (j_ix (j_var 2 (pv 2)) (j_bin o_add (j_var 6 (pv 6)) (j_var 7 (pv 7)))))))) (js_cons (js_augI 7 (fun te ti h1 h2 => ps_aug gd.nd rfl (by first | exact Or.inl rfl | exact Or.inr rfl) h1 h2) ip_add j_int) js_nil)) (js_cons (js_asg (j_var 7 (pv 7)) (jg_ix 3 (pv 3) (j_var 6 (pv 6)))) (js_cons (js_if (j_cmpT o_gt (j_bin o_add (j_var 6 (pv 6)) (j_var 7 (pv 7))) (j_var 5 (pv 5))) (js_cons (js_par 4 5 gd rfl rfl (jx_d (j_var 6 (pv 6)) (jx_d (j_bin o_add (j_var 6 (pv 6)) (j_var 7 (pv 7))) jx_nil))) js_nil) js_nil) js_nil))))) (js_cons (js_ret (j_slP 3 (pv 3) (jo_some (j_bin o_add (j_callB (ts := [dVar 0]) c_len (by rfl) G.b_len (by decide +kernel) (ja_d (j_var 0 (pv 0)) ja_nil)) j_int)) jo_none)) js_nil)))))
abbrev s_is_fitting : Stmt := top 14
theorem sc_is_fitting : FnScope ["u", "v", "d"] ["u", "v", "d"] (defScope s_is_fitting) := ⟨rfl, rfl, rfl, by decide +kernel, rfl, by decide +kernel, by decide +kernel⟩
def b_is_fitting : DS := sSeq (sRet (dAnd (dCall (fun ds => sp_is_word (ds ++ [.int 4000])) [.d (dVar 0)]) (dAnd (dCall (fun ds => sp_is_word (ds ++ [.int 4000])) [.d (dVar 1)]) (dCall sp_is_between [.d (dVar 2), .d (dC (.int 0)), .d (dCB lenD [dVar 0])])))) sNil
theorem d_is_fitting {P : Program} {w : World} {K : PySem.W.Frag} {mg : Str → Option Value} {base : Heap} {f : Addr} {fd : FuncData} (F : Fun K "is_fitting" "is_fitting" s_is_fitting f fd) (G : Tops P w K mg base) (c_is_word : CalF P w K mg base "is_word" 2 [.d] sp_is_word [.int 4000]) (c_is_between : Cal P w K mg base "is_between" 2 [.d, .d, .d] sp_is_between)
    (cdv : Value) (A : Around) (outer : List PySem.Env) (s : Shared) (H : Hp) (E : XK) (gd : Gd (cxB P w K mg base ["u", "v", "d"] "is_fitting" s_is_fitting f cdv A outer s H E) (wB E) 2) : JSs (cxB P w K mg base ["u", "v", "d"] "is_fitting" s_is_fitting f cdv A outer s H E) (wB E) (defBody s_is_fitting) (b_is_fitting) :=
  (js_cons (js_ret (j_and (j_callF (ts := [.d (dVar 0)]) c_is_word gd (by decide) (by rfl) (ja_d (j_var 0 (pv 0)) ja_nil)) (j_and (j_callF (ts := [.d (dVar 1)]) c_is_word gd (by decide) (by rfl) (ja_d (j_var 1 (pv 1)) ja_nil)) (j_andZ (j_call (ts := [.d (dVar 2), .d (dC (.int 0)), .d (dCB lenD [dVar 0])]) c_is_between gd (by decide) (by rfl) (ja_d (j_var 2 (pv 2)) (ja_d j_int (ja_d (j_callB (ts := [dVar 0]) c_len (by rfl) G.b_len (by decide +kernel) (ja_d (j_var 0 (pv 0)) ja_nil)) ja_nil)))))))) js_nil)
abbrev s_normal_from : Stmt := top 15
theorem sc_normal_from : FnScope ["u", "v", "d", "lengths", "least"] ["u", "v", "d"] (defScope s_normal_from) := ⟨rfl, rfl, rfl, by decide +kernel, rfl, by decide +kernel, by decide +kernel⟩
def b_normal_from_1 : DS := sSeq (sRet (dVar 4)) sNil
def b_normal_from_2 : DS := sSeq (sWhile (dAndT (dTst (dBin ltD (dVar 4) (dCB lenD [dVar 0]))) (dTst (dBin ltD (dIx (dVar 3) (dVar 4)) (dBin subD (dCB lenD [dVar 0]) (dVar 4))))) (sSeq (sAug 4 (int2 (fun _ _ => True) (fun a b => .int (a + b))) (dC (.int 1))) sNil)) (b_normal_from_1)
def b_normal_from_3 : DS := sSeq (sSet 4 (dVar 2)) (b_normal_from_2)
def b_normal_from : DS := sSeq (sSet 3 (dCall sp_match_lengths [.d (dVar 1), .d (dVar 0)])) (b_normal_from_3)
theorem d_normal_from {P : Program} {w : World} {K : PySem.W.Frag} {mg : Str → Option Value} {base : Heap} {f : Addr} {fd : FuncData} (F : Fun K "normal_from" "normal_from" s_normal_from f fd) (G : Tops P w K mg base) (c_match_lengths : Cal P w K mg base "match_lengths" 1 [.d, .d] sp_match_lengths)
    (cdv : Value) (A : Around) (outer : List PySem.Env) (s : Shared) (H : Hp) (E : XK) (gd : Gd (cxB P w K mg base ["u", "v", "d", "lengths", "least"] "normal_from" s_normal_from f cdv A outer s H E) (wB E) 1) : JSs (cxB P w K mg base ["u", "v", "d", "lengths", "least"] "normal_from" s_normal_from f cdv A outer s H E) (wB E) (defBody s_normal_from) (b_normal_from) :=
  (js_cons (js_set 3 (fun te h => ps_set gd.nd rfl (by first | exact Or.inl rfl | exact Or.inr rfl) h) (j_call (ts := [.d (dVar 1), .d (dVar 0)]) c_match_lengths gd (by decide) (by rfl) (ja_d (j_var 1 (pv 1)) (ja_d (j_var 0 (pv 0)) ja_nil)))) (js_cons (js_set 4 (fun te h => ps_set gd.nd rfl (by first | exact Or.inl rfl | exact Or.inr rfl) h) (j_var 2 (pv 2))) (js_cons (js_while gd (JW.jt (j_andT (j_cmpT o_lt (j_var 4 (pv 4)) (j_callB (ts := [dVar 0]) c_len (by rfl) G.b_len (by decide +kernel) (ja_d (j_var 0 (pv 0)) ja_nil))) (j_and1 (j_cmpT o_lt (j_ix (j_var 3 (pv 3)) (j_var 4 (pv 4))) (j_bin o_sub (j_callB (ts := [dVar 0]) c_len (by rfl) G.b_len (by decide +kernel) (ja_d (j_var 0 (pv 0)) ja_nil)) (j_var 4 (pv 4))))))) (js_cons (js_augI 4 (fun te ti h1 h2 => ps_aug gd.nd rfl (by first | exact Or.inl rfl | exact Or.inr rfl) h1 h2) ip_add j_int) js_nil)) (js_cons (js_ret (j_var 4 (pv 4))) js_nil))))
abbrev s_is_queue_form : Stmt := top 16
theorem sc_is_queue_form : FnScope ["value", "u", "v", "d"] ["value"] (defScope s_is_queue_form) := ⟨rfl, rfl, rfl, by decide +kernel, rfl, by decide +kernel, by decide +kernel⟩
def b_is_queue_form_1 : DS := sSeq (sRet (dAnd (dCall sp_is_fitting [.d (dVar 1), .d (dVar 2), .d (dVar 3)]) (dBin eqD (dCall sp_normal_from [.d (dVar 1), .d (dVar 2), .d (dVar 3)]) (dVar 3)))) sNil
def b_is_queue_form_2 : DS := sSeq (sAsg (dVar 0) (gTp 3 (gsCons (gN 1) (gsCons (gN 2) (gsCons (gN 3) (gsNil)))))) (b_is_queue_form_1)
def b_is_queue_form : DS := sSeq (sIf (dOrT (dNotT (dTru (dIsi "tuple" (dVar 0)))) (dTst (dBin neD (dCB lenD [dVar 0]) (dC (.int 3))))) (sSeq (sRet (dC (.bool false))) sNil) (sNil)) (b_is_queue_form_2)
theorem d_is_queue_form {P : Program} {w : World} {K : PySem.W.Frag} {mg : Str → Option Value} {base : Heap} {f : Addr} {fd : FuncData} (F : Fun K "is_queue_form" "is_queue_form" s_is_queue_form f fd) (G : Tops P w K mg base) (c_is_fitting : Cal P w K mg base "is_fitting" 3 [.d, .d, .d] sp_is_fitting) (c_normal_from : Cal P w K mg base "normal_from" 2 [.d, .d, .d] sp_normal_from)
    (cdv : Value) (A : Around) (outer : List PySem.Env) (s : Shared) (H : Hp) (E : XK) (gd : Gd (cxB P w K mg base ["value", "u", "v", "d"] "is_queue_form" s_is_queue_form f cdv A outer s H E) (wB E) 3) : JSs (cxB P w K mg base ["value", "u", "v", "d"] "is_queue_form" s_is_queue_form f cdv A outer s H E) (wB E) (defBody s_is_queue_form) (b_is_queue_form) :=
  (js_cons (js_if (JW.jt (j_orT (j_notT (j_tru (j_isi "tuple" (by rfl) G.b_isinstance (j_var 0 (pv 0)) (by rfl) G.b_tuple (by decide +kernel)))) (j_or1 (j_cmpT (o_ne gd.u64) (j_callB (ts := [dVar 0]) c_len (by rfl) G.b_len (by decide +kernel) (ja_d (j_var 0 (pv 0)) ja_nil)) j_int)))) (js_cons (js_ret j_bl) js_nil) js_nil) (js_cons (js_asg (j_var 0 (pv 0)) (jg_tup gd.calm (jgs_cons (jg_name 1 (pg_name (i := 1) gd.nd rfl (by first | exact Or.inl rfl | exact Or.inr rfl))) (jgs_cons (jg_name 2 (pg_name (i := 2) gd.nd rfl (by first | exact Or.inl rfl | exact Or.inr rfl))) (jgs_cons (jg_name 3 (pg_name (i := 3) gd.nd rfl (by first | exact Or.inl rfl | exact Or.inr rfl))) jgs_nil))))) (js_cons (js_ret (j_and (j_call (ts := [.d (dVar 1), .d (dVar 2), .d (dVar 3)]) c_is_fitting gd (by decide) (by rfl) (ja_d (j_var 1 (pv 1)) (ja_d (j_var 2 (pv 2)) (ja_d (j_var 3 (pv 3)) ja_nil)))) (j_andZ (j_cmp (o_eq gd.u64) (j_call (ts := [.d (dVar 1), .d (dVar 2), .d (dVar 3)]) c_normal_from gd (by decide) (by rfl) (ja_d (j_var 1 (pv 1)) (ja_d (j_var 2 (pv 2)) (ja_d (j_var 3 (pv 3)) ja_nil)))) (j_var 3 (pv 3)))))) js_nil)))
abbrev s_need_queue_form : Stmt := top 17
theorem sc_need_queue_form : FnScope ["form"] ["form"] (defScope s_need_queue_form) := ⟨rfl, rfl, rfl, by decide +kernel, rfl, by decide +kernel, by decide +kernel⟩
def b_need_queue_form : DS := sSeq (sIf (dNotT (dTru (dCall sp_is_queue_form [.d (dVar 0)]))) (sSeq (sRaise "NoForm" (dVar 0)) sNil) (sNil)) sNil
theorem d_need_queue_form {P : Program} {w : World} {K : PySem.W.Frag} {mg : Str → Option Value} {base : Heap} {f : Addr} {fd : FuncData} (F : Fun K "need_queue_form" "need_queue_form" s_need_queue_form f fd) (G : Tops P w K mg base) (c_is_queue_form : Cal P w K mg base "is_queue_form" 4 [.d] sp_is_queue_form)
    (cdv : Value) (A : Around) (outer : List PySem.Env) (s : Shared) (H : Hp) (E : XK) (gd : Gd (cxB P w K mg base ["form"] "need_queue_form" s_need_queue_form f cdv A outer s H E) (wB E) 4) : JSs (cxB P w K mg base ["form"] "need_queue_form" s_need_queue_form f cdv A outer s H E) (wB E) (defBody s_need_queue_form) (b_need_queue_form) :=
  (js_cons (js_if (j_notT (j_tru (j_call (ts := [.d (dVar 0)]) c_is_queue_form gd (by decide) (by rfl) (ja_d (j_var 0 (pv 0)) ja_nil)))) (js_cons (js_raiseI G.c_NoForm G.i_NoForm gd (by decide) (by rfl) (j_var 0 (pv 0))) js_nil) js_nil) js_nil)
abbrev s_need_power : Stmt := top 20
theorem sc_need_power : FnScope ["form", "times"] ["form", "times"] (defScope s_need_power) := ⟨rfl, rfl, rfl, by decide +kernel, rfl, by decide +kernel, by decide +kernel⟩
def b_need_power_1 : DS := sSeq (sExpr (dCall sp_need_count [.d (dVar 1), .d (dC (.int 1)), .d (dC g_MOST_TIMES)])) sNil
def b_need_power : DS := sSeq (sExpr (dCall sp_need_queue_form [.d (dVar 0)])) (b_need_power_1)
theorem d_need_power {P : Program} {w : World} {K : PySem.W.Frag} {mg : Str → Option Value} {base : Heap} {f : Addr} {fd : FuncData} (F : Fun K "need_power" "need_power" s_need_power f fd) (G : Tops P w K mg base) (c_need_queue_form : Cal P w K mg base "need_queue_form" 5 [.d] sp_need_queue_form) (c_need_count : Cal P w K mg base "need_count" 3 [.d, .d, .d] sp_need_count)
    (cdv : Value) (A : Around) (outer : List PySem.Env) (s : Shared) (H : Hp) (E : XK) (gd : Gd (cxB P w K mg base ["form", "times"] "need_power" s_need_power f cdv A outer s H E) (wB E) 5) : JSs (cxB P w K mg base ["form", "times"] "need_power" s_need_power f cdv A outer s H E) (wB E) (defBody s_need_power) (b_need_power) :=
  (js_cons (js_expr (j_call (ts := [.d (dVar 0)]) c_need_queue_form gd (by decide) (by rfl) (ja_d (j_var 0 (pv 0)) ja_nil))) (js_cons (js_expr (j_call (ts := [.d (dVar 1), .d (dC (.int 1)), .d (dC g_MOST_TIMES)]) c_need_count gd (by decide) (by rfl) (ja_d (j_var 1 (pv 1)) (ja_d j_int (ja_d (j_globD G.g_MOST_TIMES (by rfl)) ja_nil))))) js_nil))
abbrev s_letters_from : Stmt := top 21
theorem sc_letters_from : FnScope ["word", "begin", "many", "at"] ["word", "begin", "many"] (defScope s_letters_from) := ⟨rfl, rfl, rfl, by decide +kernel, rfl, by decide +kernel, by decide +kernel⟩
def b_letters_from : DS := sSeq (sRet (dCB tupleD [dLc [3] (iR2W (dVar 1) (dBin addD (dVar 1) (dVar 2))) (gN 3) (dYes) (dIx (dVar 0) (dBin modD (dVar 3) (dCB lenD [dVar 0])))])) sNil
theorem d_letters_from {P : Program} {w : World} {K : PySem.W.Frag} {mg : Str → Option Value} {base : Heap} {f : Addr} {fd : FuncData} (F : Fun K "letters_from" "letters_from" s_letters_from f fd) (G : Tops P w K mg base)
    (cdv : Value) (A : Around) (outer : List PySem.Env) (s : Shared) (H : Hp) (E : XK) (gd : Gd (cxB P w K mg base ["word", "begin", "many", "at"] "letters_from" s_letters_from f cdv A outer s H E) (wB E) 0) : JSs (cxB P w K mg base ["word", "begin", "many", "at"] "letters_from" s_letters_from f cdv A outer s H E) (wB E) (defBody s_letters_from) (b_letters_from) :=
  (js_cons (js_ret (j_callTy (ts := [dLc [3] (iR2W (dVar 1) (dBin addD (dVar 1) (dVar 2))) (gN 3) (dYes) (dIx (dVar 0) (dBin modD (dVar 3) (dCB lenD [dVar 0])))]) c_tuple (by rfl) G.b_tuple (by decide +kernel) (ja_d (JN.je (jn_lc (own := [("at", 3)]) gd (by rfl) (ji_range2W (by rfl) G.b_range (j_var 1 (pv 1)) (j_bin o_add (j_var 1 (pv 1)) (j_var 2 (pv 2)))) (fun _ _ _ _ _ => (jgo_name 3 (pg_name (i := 3) gd.blk.nd rfl (by first | exact Or.inl rfl | exact Or.inr rfl)) (by decide))) (fun _ _ _ _ _ => jts_nil) (fun _ _ _ _ _ => (j_ix (j_var 0 (pv 0)) (j_bin o_mod (j_var 3 (pv 3)) (j_callB (ts := [dVar 0]) c_len (by rfl) G.b_len (by decide +kernel) (ja_d (j_var 0 (pv 0)) ja_nil))))))) ja_nil))) js_nil)
abbrev s_depth_of : Stmt := top 22
theorem sc_depth_of : FnScope ["form", "times", "u", "v", "d"] ["form", "times"] (defScope s_depth_of) := ⟨rfl, rfl, rfl, by decide +kernel, rfl, by decide +kernel, by decide +kernel⟩
def b_depth_of_1 : DS := sSeq (sRet (dCB maxD [dVar 4, dBin addD (dVar 4) (dBin mulD (dBin subD (dVar 1) (dC (.int 1))) (dBin subD (dCB lenD [dVar 2]) (dCB lenD [dVar 3])))])) sNil
def b_depth_of : DS := sSeq (sAsg (dVar 0) (gTp 3 (gsCons (gN 2) (gsCons (gN 3) (gsCons (gN 4) (gsNil)))))) (b_depth_of_1)
theorem d_depth_of {P : Program} {w : World} {K : PySem.W.Frag} {mg : Str → Option Value} {base : Heap} {f : Addr} {fd : FuncData} (F : Fun K "depth_of" "depth_of" s_depth_of f fd) (G : Tops P w K mg base)
    (cdv : Value) (A : Around) (outer : List PySem.Env) (s : Shared) (H : Hp) (E : XK) (gd : Gd (cxB P w K mg base ["form", "times", "u", "v", "d"] "depth_of" s_depth_of f cdv A outer s H E) (wB E) 0) : JSs (cxB P w K mg base ["form", "times", "u", "v", "d"] "depth_of" s_depth_of f cdv A outer s H E) (wB E) (defBody s_depth_of) (b_depth_of) :=
  (js_cons (js_asg (j_var 0 (pv 0)) (jg_tup gd.calm (jgs_cons (jg_name 2 (pg_name (i := 2) gd.nd rfl (by first | exact Or.inl rfl | exact Or.inr rfl))) (jgs_cons (jg_name 3 (pg_name (i := 3) gd.nd rfl (by first | exact Or.inl rfl | exact Or.inr rfl))) (jgs_cons (jg_name 4 (pg_name (i := 4) gd.nd rfl (by first | exact Or.inl rfl | exact Or.inr rfl))) jgs_nil))))) (js_cons (js_ret (j_callB (ts := [dVar 4, dBin addD (dVar 4) (dBin mulD (dBin subD (dVar 1) (dC (.int 1))) (dBin subD (dCB lenD [dVar 2]) (dCB lenD [dVar 3])))]) (c_max gd.calm) (by rfl) G.b_max (by decide +kernel) (ja_d (j_var 4 (pv 4)) (ja_d (j_bin o_add (j_var 4 (pv 4)) (j_bin o_mul (j_bin o_sub (j_var 1 (pv 1)) j_int) (j_bin o_sub (j_callB (ts := [dVar 2]) c_len (by rfl) G.b_len (by decide +kernel) (ja_d (j_var 2 (pv 2)) ja_nil)) (j_callB (ts := [dVar 3]) c_len (by rfl) G.b_len (by decide +kernel) (ja_d (j_var 3 (pv 3)) ja_nil))))) ja_nil)))) js_nil))
abbrev s_power_least : Stmt := top 23
theorem sc_power_least : FnScope ["form", "times"] ["form", "times"] (defScope s_power_least) := ⟨rfl, rfl, rfl, by decide +kernel, rfl, by decide +kernel, by decide +kernel⟩
def b_power_least_1 : DS := sSeq (sRet (dCall sp_least_of_power [.d (dVar 0), .d (dVar 1)])) sNil
def b_power_least : DS := sSeq (sExpr (dCall sp_need_power [.d (dVar 0), .d (dVar 1)])) (b_power_least_1)
theorem d_power_least {P : Program} {w : World} {K : PySem.W.Frag} {mg : Str → Option Value} {base : Heap} {f : Addr} {fd : FuncData} (F : Fun K "power_least" "power_least" s_power_least f fd) (G : Tops P w K mg base) (c_need_power : Cal P w K mg base "need_power" 6 [.d, .d] sp_need_power) (c_least_of_power : Cal P w K mg base "least_of_power" 2 [.d, .d] sp_least_of_power)
    (cdv : Value) (A : Around) (outer : List PySem.Env) (s : Shared) (H : Hp) (E : XK) (gd : Gd (cxB P w K mg base ["form", "times"] "power_least" s_power_least f cdv A outer s H E) (wB E) 6) : JSs (cxB P w K mg base ["form", "times"] "power_least" s_power_least f cdv A outer s H E) (wB E) (defBody s_power_least) (b_power_least) :=
  (js_cons (js_expr (j_call (ts := [.d (dVar 0), .d (dVar 1)]) c_need_power gd (by decide) (by rfl) (ja_d (j_var 0 (pv 0)) (ja_d (j_var 1 (pv 1)) ja_nil)))) (js_cons (js_ret (j_call (ts := [.d (dVar 0), .d (dVar 1)]) c_least_of_power gd (by decide) (by rfl) (ja_d (j_var 0 (pv 0)) (ja_d (j_var 1 (pv 1)) ja_nil)))) js_nil))
abbrev s_least_of_power : Stmt := top 24
theorem sc_least_of_power : FnScope ["form", "times", "u", "v", "_", "whole", "enough", "lengths", "begin", "once", "near", "k"] ["form", "times"] (defScope s_least_of_power) := ⟨rfl, rfl, rfl, by decide +kernel, rfl, by decide +kernel, by decide +kernel⟩
def b_least_of_power_1 : DS := sSeq (sRet (dCB minLD [dBin addD (dBin addD (dSl (dVar 9) (dNo) (dSo (dC (.int 1)))) (dSl (dVar 10) (dNo) (dSo (dC (.int 1))))) (dLst [dVar 5])])) sNil
def b_least_of_power_2 : DS := sSeq (sSet 10 (dLc [11] (iR2W (dCB maxD [dVar 8, dBin subD (dVar 5) (dVar 6)]) (dVar 5)) (gN 11) (dTst (dBin geD (dIx (dVar 7) (dBin modD (dVar 11) (dCB lenD [dVar 2]))) (dBin subD (dVar 5) (dVar 11)))) (dVar 11))) (b_least_of_power_1)
def b_least_of_power_3 : DS := sSeq (sSet 9 (dLc [11] (iR2W (dVar 8) (dCB minD [dBin addD (dVar 8) (dCB lenD [dVar 2]), dVar 5])) (gN 11) (dTst (dBin geD (dIx (dVar 7) (dBin modD (dVar 11) (dCB lenD [dVar 2]))) (dVar 6))) (dVar 11))) (b_least_of_power_2)
def b_least_of_power_4 : DS := sSeq (sSet 8 (dCall sp_depth_of [.d (dVar 0), .d (dVar 1)])) (b_least_of_power_3)
def b_least_of_power_5 : DS := sSeq (sSet 7 (dCall sp_match_lengths [.d (dCall sp_letters_from [.d (dVar 3), .d (dC (.int 0)), .d (dVar 6)]), .d (dCall sp_letters_from [.d (dVar 2), .d (dC (.int 0)), .d (dBin addD (dCB lenD [dVar 2]) (dVar 6))])])) (b_least_of_power_4)
def b_least_of_power_6 : DS := sSeq (sSet 6 (dBin addD (dCB lenD [dVar 2]) (dCB lenD [dVar 3]))) (b_least_of_power_5)
def b_least_of_power_7 : DS := sSeq (sIf (dOrT (dNotT (dTru (dVar 2))) (dNotT (dTru (dVar 3)))) (sSeq (sRet (dVar 5)) sNil) (sNil)) (b_least_of_power_6)
def b_least_of_power_8 : DS := sSeq (sSet 5 (dBin mulD (dCB lenD [dVar 2]) (dVar 1))) (b_least_of_power_7)
def b_least_of_power : DS := sSeq (sAsg (dVar 0) (gTp 3 (gsCons (gN 2) (gsCons (gN 3) (gsCons (gN 4) (gsNil)))))) (b_least_of_power_8)
theorem d_least_of_power {P : Program} {w : World} {K : PySem.W.Frag} {mg : Str → Option Value} {base : Heap} {f : Addr} {fd : FuncData} (F : Fun K "least_of_power" "least_of_power" s_least_of_power f fd) (G : Tops P w K mg base) (c_match_lengths : Cal P w K mg base "match_lengths" 1 [.d, .d] sp_match_lengths) (c_letters_from : Cal P w K mg base "letters_from" 1 [.d, .d, .d] sp_letters_from) (c_depth_of : Cal P w K mg base "depth_of" 1 [.d, .d] sp_depth_of)
    (cdv : Value) (A : Around) (outer : List PySem.Env) (s : Shared) (H : Hp) (E : XK) (gd : Gd (cxB P w K mg base ["form", "times", "u", "v", "_", "whole", "enough", "lengths", "begin", "once", "near", "k"] "least_of_power" s_least_of_power f cdv A outer s H E) (wB E) 1) : JSs (cxB P w K mg base ["form", "times", "u", "v", "_", "whole", "enough", "lengths", "begin", "once", "near", "k"] "least_of_power" s_least_of_power f cdv A outer s H E) (wB E) (defBody s_least_of_power) (b_least_of_power) :=
  (js_cons (js_asg (j_var 0 (pv 0)) (jg_tup gd.calm (jgs_cons (jg_name 2 (pg_name (i := 2) gd.nd rfl (by first | exact Or.inl rfl | exact Or.inr rfl))) (jgs_cons (jg_name 3 (pg_name (i := 3) gd.nd rfl (by first | exact Or.inl rfl | exact Or.inr rfl))) (jgs_cons (jg_name 4 (pg_name (i := 4) gd.nd rfl (by first | exact Or.inl rfl | exact Or.inr rfl))) jgs_nil))))) (js_cons (js_set 5 (fun te h => ps_set gd.nd rfl (by first | exact Or.inl rfl | exact Or.inr rfl) h) (j_bin o_mul (j_callB (ts := [dVar 2]) c_len (by rfl) G.b_len (by decide +kernel) (ja_d (j_var 2 (pv 2)) ja_nil)) (j_var 1 (pv 1)))) (js_cons (js_if (JW.jt (j_orT (j_notT (j_tru (j_var 2 (pv 2)))) (j_or1 (j_notT (j_tru (j_var 3 (pv 3))))))) (js_cons (js_ret (j_var 5 (pv 5))) js_nil) js_nil) (js_cons (js_set 6 (fun te h => ps_set gd.nd rfl (by first | exact Or.inl rfl | exact Or.inr rfl) h) (j_bin o_add (j_callB (ts := [dVar 2]) c_len (by rfl) G.b_len (by decide +kernel) (ja_d (j_var 2 (pv 2)) ja_nil)) (j_callB (ts := [dVar 3]) c_len (by rfl) G.b_len (by decide +kernel) (ja_d (j_var 3 (pv 3)) ja_nil)))) (js_cons (js_set 7 (fun te h => ps_set gd.nd rfl (by first | exact Or.inl rfl | exact Or.inr rfl) h) (j_call (ts := [.d (dCall sp_letters_from [.d (dVar 3), .d (dC (.int 0)), .d (dVar 6)]), .d (dCall sp_letters_from [.d (dVar 2), .d (dC (.int 0)), .d (dBin addD (dCB lenD [dVar 2]) (dVar 6))])]) c_match_lengths gd (by decide) (by rfl) (ja_d (j_call (ts := [.d (dVar 3), .d (dC (.int 0)), .d (dVar 6)]) c_letters_from gd (by decide) (by rfl) (ja_d (j_var 3 (pv 3)) (ja_d j_int (ja_d (j_var 6 (pv 6)) ja_nil)))) (ja_d (j_call (ts := [.d (dVar 2), .d (dC (.int 0)), .d (dBin addD (dCB lenD [dVar 2]) (dVar 6))]) c_letters_from gd (by decide) (by rfl) (ja_d (j_var 2 (pv 2)) (ja_d j_int (ja_d (j_bin o_add (j_callB (ts := [dVar 2]) c_len (by rfl) G.b_len (by decide +kernel) (ja_d (j_var 2 (pv 2)) ja_nil)) (j_var 6 (pv 6))) ja_nil)))) ja_nil)))) (js_cons (js_set 8 (fun te h => ps_set gd.nd rfl (by first | exact Or.inl rfl | exact Or.inr rfl) h) (j_call (ts := [.d (dVar 0), .d (dVar 1)]) c_depth_of gd (by decide) (by rfl) (ja_d (j_var 0 (pv 0)) (ja_d (j_var 1 (pv 1)) ja_nil)))) (js_cons (js_setLc (own := [("k", 11)]) 9 gd rfl rfl (by rfl) (by rfl) (ji_range2W (by rfl) G.b_range (j_var 8 (pv 8)) (j_callB (ts := [dBin addD (dVar 8) (dCB lenD [dVar 2]), dVar 5]) (c_min gd.calm) (by rfl) G.b_min (by decide +kernel) (ja_d (j_bin o_add (j_var 8 (pv 8)) (j_callB (ts := [dVar 2]) c_len (by rfl) G.b_len (by decide +kernel) (ja_d (j_var 2 (pv 2)) ja_nil))) (ja_d (j_var 5 (pv 5)) ja_nil)))) (fun _ _ _ _ _ => (jgo_name 11 (pg_name (i := 11) gd.blk.nd rfl (by first | exact Or.inl rfl | exact Or.inr rfl)) (by decide))) (fun _ _ _ _ _ => (jts_one (j_cmpT o_ge (j_ix (j_var 7 (pv 7)) (j_bin o_mod (j_var 11 (pv 11)) (j_callB (ts := [dVar 2]) c_len (by rfl) G.b_len (by decide +kernel) (ja_d (j_var 2 (pv 2)) ja_nil)))) (j_var 6 (pv 6))))) (fun _ _ _ _ _ => (j_var 11 (pv 11)))) (js_cons (js_setLc (own := [("k", 11)]) 10 gd rfl rfl (by rfl) (by rfl) (ji_range2W (by rfl) G.b_range (j_callB (ts := [dVar 8, dBin subD (dVar 5) (dVar 6)]) (c_max gd.calm) (by rfl) G.b_max (by decide +kernel) (ja_d (j_var 8 (pv 8)) (ja_d (j_bin o_sub (j_var 5 (pv 5)) (j_var 6 (pv 6))) ja_nil))) (j_var 5 (pv 5))) (fun _ _ _ _ _ => (jgo_name 11 (pg_name (i := 11) gd.blk.nd rfl (by first | exact Or.inl rfl | exact Or.inr rfl)) (by decide))) (fun _ _ _ _ _ => (jts_one (j_cmpT o_ge (j_ix (j_var 7 (pv 7)) (j_bin o_mod (j_var 11 (pv 11)) (j_callB (ts := [dVar 2]) c_len (by rfl) G.b_len (by decide +kernel) (ja_d (j_var 2 (pv 2)) ja_nil)))) (j_bin o_sub (j_var 5 (pv 5)) (j_var 11 (pv 11)))))) (fun _ _ _ _ _ => (j_var 11 (pv 11)))) (js_cons (js_ret (j_callB (ts := [dBin addD (dBin addD (dSl (dVar 9) (dNo) (dSo (dC (.int 1)))) (dSl (dVar 10) (dNo) (dSo (dC (.int 1))))) (dLst [dVar 5])]) (c_minL gd.calm) (by rfl) G.b_min (by decide +kernel) (ja_d (j_bin o_add (j_bin o_add (j_sl (j_var 9 (pv 9)) jo_none (jo_some j_int)) (j_sl (j_var 10 (pv 10)) jo_none (jo_some j_int))) (JN.je (jn_lst (ts := [dVar 5]) (ja_d (j_var 5 (pv 5)) ja_nil)))) ja_nil))) js_nil)))))))))
abbrev s_repeated_alike : Stmt := top 25
theorem sc_repeated_alike : FnScope ["word", "times", "other", "more", "many"] ["word", "times", "other", "more"] (defScope s_repeated_alike) := ⟨rfl, rfl, rfl, by decide +kernel, rfl, by decide +kernel, by decide +kernel⟩
def b_repeated_alike_1 : DS := sSeq (sRet (dBin eqD (dCall sp_letters_from [.d (dVar 0), .d (dC (.int 0)), .d (dVar 4)]) (dCall sp_letters_from [.d (dVar 2), .d (dC (.int 0)), .d (dVar 4)]))) sNil
def b_repeated_alike_2 : DS := sSeq (sSet 4 (dBin addD (dCB lenD [dVar 0]) (dCB lenD [dVar 2]))) (b_repeated_alike_1)
def b_repeated_alike_3 : DS := sSeq (sIf (dNotT (dTru (dVar 0))) (sSeq (sRet (dC (.bool true))) sNil) (sNil)) (b_repeated_alike_2)
def b_repeated_alike : DS := sSeq (sIf (dTst (dBin neD (dBin mulD (dCB lenD [dVar 0]) (dVar 1)) (dBin mulD (dCB lenD [dVar 2]) (dVar 3)))) (sSeq (sRet (dC (.bool false))) sNil) (sNil)) (b_repeated_alike_3)
theorem d_repeated_alike {P : Program} {w : World} {K : PySem.W.Frag} {mg : Str → Option Value} {base : Heap} {f : Addr} {fd : FuncData} (F : Fun K "repeated_alike" "repeated_alike" s_repeated_alike f fd) (G : Tops P w K mg base) (c_letters_from : Cal P w K mg base "letters_from" 1 [.d, .d, .d] sp_letters_from)
    (cdv : Value) (A : Around) (outer : List PySem.Env) (s : Shared) (H : Hp) (E : XK) (gd : Gd (cxB P w K mg base ["word", "times", "other", "more", "many"] "repeated_alike" s_repeated_alike f cdv A outer s H E) (wB E) 1) : JSs (cxB P w K mg base ["word", "times", "other", "more", "many"] "repeated_alike" s_repeated_alike f cdv A outer s H E) (wB E) (defBody s_repeated_alike) (b_repeated_alike) :=
  (js_cons (js_if (j_cmpT (o_ne gd.u64) (j_bin o_mul (j_callB (ts := [dVar 0]) c_len (by rfl) G.b_len (by decide +kernel) (ja_d (j_var 0 (pv 0)) ja_nil)) (j_var 1 (pv 1))) (j_bin o_mul (j_callB (ts := [dVar 2]) c_len (by rfl) G.b_len (by decide +kernel) (ja_d (j_var 2 (pv 2)) ja_nil)) (j_var 3 (pv 3)))) (js_cons (js_ret j_bl) js_nil) js_nil) (js_cons (js_if (j_notT (j_tru (j_var 0 (pv 0)))) (js_cons (js_ret j_bl) js_nil) js_nil) (js_cons (js_set 4 (fun te h => ps_set gd.nd rfl (by first | exact Or.inl rfl | exact Or.inr rfl) h) (j_bin o_add (j_callB (ts := [dVar 0]) c_len (by rfl) G.b_len (by decide +kernel) (ja_d (j_var 0 (pv 0)) ja_nil)) (j_callB (ts := [dVar 2]) c_len (by rfl) G.b_len (by decide +kernel) (ja_d (j_var 2 (pv 2)) ja_nil)))) (js_cons (js_ret (j_cmp (o_eq gd.u64) (j_call (ts := [.d (dVar 0), .d (dC (.int 0)), .d (dVar 4)]) c_letters_from gd (by decide) (by rfl) (ja_d (j_var 0 (pv 0)) (ja_d j_int (ja_d (j_var 4 (pv 4)) ja_nil)))) (j_call (ts := [.d (dVar 2), .d (dC (.int 0)), .d (dVar 4)]) c_letters_from gd (by decide) (by rfl) (ja_d (j_var 2 (pv 2)) (ja_d j_int (ja_d (j_var 4 (pv 4)) ja_nil)))))) js_nil))))
abbrev s_powers_alike : Stmt := top 26
theorem sc_powers_alike : FnScope ["one", "times", "other", "more", "word", "second"] ["one", "times", "other", "more"] (defScope s_powers_alike) := ⟨rfl, rfl, rfl, by decide +kernel, rfl, by decide +kernel, by decide +kernel⟩
def b_powers_alike_1 : DS := sSeq (sRet (dBin eqD (dCall sp_least_of_power [.d (dVar 0), .d (dVar 1)]) (dCall sp_least_of_power [.d (dVar 2), .d (dVar 3)]))) sNil
def b_powers_alike_2 : DS := sSeq (sFor (iZ (dSl (dVar 0) (dNo) (dSo (dC (.int 2)))) (dSl (dVar 2) (dNo) (dSo (dC (.int 2))))) (gTp 2 (gsCons (gN 4) (gsCons (gN 5) (gsNil)))) (sSeq (sIf (dNotT (dTru (dCall sp_repeated_alike [.d (dVar 4), .d (dVar 1), .d (dVar 5), .d (dVar 3)]))) (sSeq (sRet (dC (.bool false))) sNil) (sNil)) sNil)) (b_powers_alike_1)
def b_powers_alike_3 : DS := sSeq (sExpr (dCall sp_need_power [.d (dVar 2), .d (dVar 3)])) (b_powers_alike_2)
def b_powers_alike : DS := sSeq (sExpr (dCall sp_need_power [.d (dVar 0), .d (dVar 1)])) (b_powers_alike_3)
theorem d_powers_alike {P : Program} {w : World} {K : PySem.W.Frag} {mg : Str → Option Value} {base : Heap} {f : Addr} {fd : FuncData} (F : Fun K "powers_alike" "powers_alike" s_powers_alike f fd) (G : Tops P w K mg base) (c_need_power : Cal P w K mg base "need_power" 6 [.d, .d] sp_need_power) (c_repeated_alike : Cal P w K mg base "repeated_alike" 2 [.d, .d, .d, .d] sp_repeated_alike) (c_least_of_power : Cal P w K mg base "least_of_power" 2 [.d, .d] sp_least_of_power)
    (cdv : Value) (A : Around) (outer : List PySem.Env) (s : Shared) (H : Hp) (E : XK) (gd : Gd (cxB P w K mg base ["one", "times", "other", "more", "word", "second"] "powers_alike" s_powers_alike f cdv A outer s H E) (wB E) 6) : JSs (cxB P w K mg base ["one", "times", "other", "more", "word", "second"] "powers_alike" s_powers_alike f cdv A outer s H E) (wB E) (defBody s_powers_alike) (b_powers_alike) :=
  (js_cons (js_expr (j_call (ts := [.d (dVar 0), .d (dVar 1)]) c_need_power gd (by decide) (by rfl) (ja_d (j_var 0 (pv 0)) (ja_d (j_var 1 (pv 1)) ja_nil)))) (js_cons (js_expr (j_call (ts := [.d (dVar 2), .d (dVar 3)]) c_need_power gd (by decide) (by rfl) (ja_d (j_var 2 (pv 2)) (ja_d (j_var 3 (pv 3)) ja_nil)))) (js_cons (js_for gd (ji_zip (fun ta h => pi_zipZ (by rfl) G.b_zip h) (j_sl (j_var 0 (pv 0)) jo_none (jo_some j_int)) (j_sl (j_var 2 (pv 2)) jo_none (jo_some j_int))) (jg_tup gd.calm (jgs_cons (jg_name 4 (pg_name (i := 4) gd.nd rfl (by first | exact Or.inl rfl | exact Or.inr rfl))) (jgs_cons (jg_name 5 (pg_name (i := 5) gd.nd rfl (by first | exact Or.inl rfl | exact Or.inr rfl))) jgs_nil))) (js_cons (js_if (j_notT (j_tru (j_call (ts := [.d (dVar 4), .d (dVar 1), .d (dVar 5), .d (dVar 3)]) c_repeated_alike gd (by decide) (by rfl) (ja_d (j_var 4 (pv 4)) (ja_d (j_var 1 (pv 1)) (ja_d (j_var 5 (pv 5)) (ja_d (j_var 3 (pv 3)) ja_nil))))))) (js_cons (js_ret j_bl) js_nil) js_nil) js_nil)) (js_cons (js_ret (j_cmp (o_eq gd.u64) (j_call (ts := [.d (dVar 0), .d (dVar 1)]) c_least_of_power gd (by decide) (by rfl) (ja_d (j_var 0 (pv 0)) (ja_d (j_var 1 (pv 1)) ja_nil))) (j_call (ts := [.d (dVar 2), .d (dVar 3)]) c_least_of_power gd (by decide) (by rfl) (ja_d (j_var 2 (pv 2)) (ja_d (j_var 3 (pv 3)) ja_nil))))) js_nil))))
abbrev s_law_pool : Stmt := top 28
theorem sc_law_pool : FnScope ["_law_script", "_law_k", "_law_cell", "_law_big", "_law_mixed"] ["_law_script", "_law_k"] (defScope s_law_pool) := ⟨rfl, rfl, rfl, by decide +kernel, rfl, by decide +kernel, by decide +kernel⟩
def b_law_pool_1 : DS := sSeq (sRetO (dLst [dBin mulD (dVar 3) (dCB intD [dBin geD (dVar 3) (dBin powD (dC (.int 10)) (dC (.int 18)))]), dVar 4])) sNil
def b_law_pool_2 : DS := sSeq (sSet 4 (dBin modD (dCB intD [dBin mulD (dBin addD (dBin addD (dBin addD (dBin modD (dCB intD [dVar 3]) (dC (.int 2147483629))) (dBin mulD (dBin mulD (dC (.int 7919)) (dVar 1)) (dVar 1))) (dBin mulD (dC (.int 31)) (dVar 1))) (dC (.int 17))) (dC (.int 48271))]) (dC (.int 2147483647)))) (b_law_pool_1)
def b_law_pool_3 : DS := sSeq (sSet 3 (dCB maxD [dCB intD [dVar 2], dCB intD [dBin subD (dNeg (dC (.int 1))) (dVar 2)]])) (b_law_pool_2)
def b_law_pool_4 : DS := sSeq (sIf (dTst (dBin ltD (dVar 1) (dLenP 0))) (sSeq (sSet 2 (dIxP 0 (dVar 1))) sNil) (sNil)) (b_law_pool_3)
def b_law_pool : DS := sSeq (sSet 2 (dC (.int 0))) (b_law_pool_4)
theorem d_law_pool {P : Program} {w : World} {K : PySem.W.Frag} {mg : Str → Option Value} {base : Heap} {f : Addr} {fd : FuncData} (F : Fun K "_law_pool" "_law_pool" s_law_pool f fd) (G : Tops P w K mg base)
    (cdv : Value) (A : Around) (outer : List PySem.Env) (s : Shared) (H : Hp) (E : XK) (gd : Gd (cxB P w K mg base ["_law_script", "_law_k", "_law_cell", "_law_big", "_law_mixed"] "_law_pool" s_law_pool f cdv A outer s H E) (wB E) 0) : JSs (cxB P w K mg base ["_law_script", "_law_k", "_law_cell", "_law_big", "_law_mixed"] "_law_pool" s_law_pool f cdv A outer s H E) (wB E) (defBody s_law_pool) (b_law_pool) :=
  (js_cons (js_set 2 (fun te h => ps_set gd.nd rfl (by first | exact Or.inl rfl | exact Or.inr rfl) h) j_int) (js_cons (js_if (j_cmpT o_lt (j_var 1 (pv 1)) (j_lenP 0 (by rfl) G.b_len (pv 0))) (js_cons (js_set 2 (fun te h => ps_set gd.nd rfl (by first | exact Or.inl rfl | exact Or.inr rfl) h) (j_ixP 0 (pv 0) (j_var 1 (pv 1)))) js_nil) js_nil) (js_cons (js_set 3 (fun te h => ps_set gd.nd rfl (by first | exact Or.inl rfl | exact Or.inr rfl) h) (j_callB (ts := [dCB intD [dVar 2], dCB intD [dBin subD (dNeg (dC (.int 1))) (dVar 2)]]) (c_max gd.calm) (by rfl) G.b_max (by decide +kernel) (ja_d (j_callTy (ts := [dVar 2]) c_int (by rfl) G.b_int (by decide +kernel) (ja_d (j_var 2 (pv 2)) ja_nil)) (ja_d (j_callTy (ts := [dBin subD (dNeg (dC (.int 1))) (dVar 2)]) c_int (by rfl) G.b_int (by decide +kernel) (ja_d (j_bin o_sub (j_neg j_int) (j_var 2 (pv 2))) ja_nil)) ja_nil)))) (js_cons (js_set 4 (fun te h => ps_set gd.nd rfl (by first | exact Or.inl rfl | exact Or.inr rfl) h) (j_bin o_mod (j_callTy (ts := [dBin mulD (dBin addD (dBin addD (dBin addD (dBin modD (dCB intD [dVar 3]) (dC (.int 2147483629))) (dBin mulD (dBin mulD (dC (.int 7919)) (dVar 1)) (dVar 1))) (dBin mulD (dC (.int 31)) (dVar 1))) (dC (.int 17))) (dC (.int 48271))]) c_int (by rfl) G.b_int (by decide +kernel) (ja_d (j_bin o_mul (j_bin o_add (j_bin o_add (j_bin o_add (j_bin o_mod (j_callTy (ts := [dVar 3]) c_int (by rfl) G.b_int (by decide +kernel) (ja_d (j_var 3 (pv 3)) ja_nil)) j_int) (j_bin o_mul (j_bin o_mul j_int (j_var 1 (pv 1))) (j_var 1 (pv 1)))) (j_bin o_mul j_int (j_var 1 (pv 1)))) j_int) j_int) ja_nil)) j_int)) (js_cons (js_retO (jn_lst (ts := [dBin mulD (dVar 3) (dCB intD [dBin geD (dVar 3) (dBin powD (dC (.int 10)) (dC (.int 18)))]), dVar 4]) (ja_d (j_bin o_mul (j_var 3 (pv 3)) (j_callTy (ts := [dBin geD (dVar 3) (dBin powD (dC (.int 10)) (dC (.int 18)))]) c_int (by rfl) G.b_int (by decide +kernel) (ja_d (j_cmp o_ge (j_var 3 (pv 3)) (j_bin o_pow j_int j_int)) ja_nil))) (ja_d (j_var 4 (pv 4)) ja_nil)))) js_nil)))))
abbrev s_law_take : Stmt := top 29
theorem sc_law_take : FnScope ["_law_source", "_law_top", "_law_drawn"] ["_law_source", "_law_top"] (defScope s_law_take) := ⟨rfl, rfl, rfl, by decide +kernel, rfl, by decide +kernel, by decide +kernel⟩
def b_law_take_1 : DS := sSeq (sRet (dVar 2)) sNil
def b_law_take_2 : DS := sSeq (sAsg (dBin fdivWD (dIxP 0 (dC (.int 0))) (dVar 1)) (gIx 0 (dC (.int 0)))) (b_law_take_1)
def b_law_take_3 : DS := sSeq (sRet (dBin modD (dCB intD [dBin fdivD (dBin modD (dCB intD [dBin mulD (dIxP 0 (dC (.int 1))) (dIxP 0 (dC (.int 1)))]) (dC (.int 2147483629))) (dC (.int 32))]) (dVar 1))) sNil
def b_law_take_4 : DS := sSeq (sAsg (dBin modD (dCB intD [dBin addD (dBin mulD (dIxP 0 (dC (.int 1))) (dC (.int 39373))) (dC (.int 7))]) (dC (.int 2147483647))) (gIx 0 (dC (.int 1)))) (b_law_take_3)
def b_law_take : DS := sSeq (sIf (dTst (dBin gtD (dIxP 0 (dC (.int 0))) (dC (.int 0)))) (sSeq (sSet 2 (dBin modD (dCB intD [dIxP 0 (dC (.int 0))]) (dVar 1))) (b_law_take_2)) (sNil)) (b_law_take_4)
theorem d_law_take {P : Program} {w : World} {K : PySem.W.Frag} {mg : Str → Option Value} {base : Heap} {f : Addr} {fd : FuncData} (F : Fun K "_law_take" "_law_take" s_law_take f fd) (G : Tops P w K mg base)
    (cdv : Value) (A : Around) (outer : List PySem.Env) (s : Shared) (H : Hp) (E : XK) (gd : Gd (cxB P w K mg base ["_law_source", "_law_top", "_law_drawn"] "_law_take" s_law_take f cdv A outer s H E) (wB E) 0) : JSs (cxB P w K mg base ["_law_source", "_law_top", "_law_drawn"] "_law_take" s_law_take f cdv A outer s H E) (wB E) (defBody s_law_take) (b_law_take) :=
  (js_cons (js_if (j_cmpT o_gt (j_ixP 0 (pv 0) j_int) j_int) (js_cons (js_set 2 (fun te h => ps_set gd.nd rfl (by first | exact Or.inl rfl | exact Or.inr rfl) h) (j_bin o_mod (j_callTy (ts := [dIxP 0 (dC (.int 0))]) c_int (by rfl) G.b_int (by decide +kernel) (ja_d (j_ixP 0 (pv 0) j_int) ja_nil)) (j_var 1 (pv 1)))) (js_cons (js_asg (j_bin o_fdivW (j_ixP 0 (pv 0) j_int) (j_var 1 (pv 1))) (jg_ix 0 (pv 0) j_int)) (js_cons (js_ret (j_var 2 (pv 2))) js_nil))) js_nil) (js_cons (js_asg (j_bin o_mod (j_callTy (ts := [dBin addD (dBin mulD (dIxP 0 (dC (.int 1))) (dC (.int 39373))) (dC (.int 7))]) c_int (by rfl) G.b_int (by decide +kernel) (ja_d (j_bin o_add (j_bin o_mul (j_ixP 0 (pv 0) j_int) j_int) j_int) ja_nil)) j_int) (jg_ix 0 (pv 0) j_int)) (js_cons (js_ret (j_bin o_mod (j_callTy (ts := [dBin fdivD (dBin modD (dCB intD [dBin mulD (dIxP 0 (dC (.int 1))) (dIxP 0 (dC (.int 1)))]) (dC (.int 2147483629))) (dC (.int 32))]) c_int (by rfl) G.b_int (by decide +kernel) (ja_d (j_bin o_fdiv (j_bin o_mod (j_callTy (ts := [dBin mulD (dIxP 0 (dC (.int 1))) (dIxP 0 (dC (.int 1)))]) c_int (by rfl) G.b_int (by decide +kernel) (ja_d (j_bin o_mul (j_ixP 0 (pv 0) j_int) (j_ixP 0 (pv 0) j_int)) ja_nil)) j_int) j_int) ja_nil)) (j_var 1 (pv 1)))) js_nil)))
abbrev s_law_one : Stmt := top 30
theorem sc_law_one : FnScope ["_law_source", "_law_things"] ["_law_source", "_law_things"] (defScope s_law_one) := ⟨rfl, rfl, rfl, by decide +kernel, rfl, by decide +kernel, by decide +kernel⟩
def b_law_one : DS := sSeq (sRet (dIx (dVar 1) (dCall sp_law_takeW [.io 0, .d (dCB lenD [dVar 1])]))) sNil
theorem d_law_one {P : Program} {w : World} {K : PySem.W.Frag} {mg : Str → Option Value} {base : Heap} {f : Addr} {fd : FuncData} (F : Fun K "_law_one" "_law_one" s_law_one f fd) (G : Tops P w K mg base) (c_law_take : Cal P w K mg base "_law_take" 1 [.io, .d] sp_law_takeW)
    (cdv : Value) (A : Around) (outer : List PySem.Env) (s : Shared) (H : Hp) (E : XK) (gd : Gd (cxB P w K mg base ["_law_source", "_law_things"] "_law_one" s_law_one f cdv A outer s H E) (wB E) 1) : JSs (cxB P w K mg base ["_law_source", "_law_things"] "_law_one" s_law_one f cdv A outer s H E) (wB E) (defBody s_law_one) (b_law_one) :=
  (js_cons (js_ret (j_ix (j_var 1 (pv 1)) (j_call (ts := [.io 0, .d (dCB lenD [dVar 1])]) c_law_take gd (by decide) (by rfl) (ja_io 0 (pv 0) (ja_d (j_callB (ts := [dVar 1]) c_len (by rfl) G.b_len (by decide +kernel) (ja_d (j_var 1 (pv 1)) ja_nil)) ja_nil))))) js_nil)
abbrev s_law_letters : Stmt := top 31
theorem sc_law_letters : FnScope ["_law_source"] ["_law_source"] (defScope s_law_letters) := ⟨rfl, rfl, rfl, by decide +kernel, rfl, by decide +kernel, by decide +kernel⟩
def b_law_letters : DS := sSeq (sRet (dCall sp_law_one [.io 0, .d (dLst [dLst [dC (.str "a"), dC (.str "b")], dLst [dC (.str "a"), dC (.str "b")], dLst [dC (.str "x"), dC (.str "yy"), dC (.str "zzzz")], dLst [dC (.str "b"), dC (.str "a"), dC (.str "aa")]])])) sNil
theorem d_law_letters {P : Program} {w : World} {K : PySem.W.Frag} {mg : Str → Option Value} {base : Heap} {f : Addr} {fd : FuncData} (F : Fun K "_law_letters" "_law_letters" s_law_letters f fd) (G : Tops P w K mg base) (c_law_one : Cal P w K mg base "_law_one" 2 [.io, .d] sp_law_one)
    (cdv : Value) (A : Around) (outer : List PySem.Env) (s : Shared) (H : Hp) (E : XK) (gd : Gd (cxB P w K mg base ["_law_source"] "_law_letters" s_law_letters f cdv A outer s H E) (wB E) 2) : JSs (cxB P w K mg base ["_law_source"] "_law_letters" s_law_letters f cdv A outer s H E) (wB E) (defBody s_law_letters) (b_law_letters) :=
  (js_cons (js_ret (j_call (ts := [.io 0, .d (dLst [dLst [dC (.str "a"), dC (.str "b")], dLst [dC (.str "a"), dC (.str "b")], dLst [dC (.str "x"), dC (.str "yy"), dC (.str "zzzz")], dLst [dC (.str "b"), dC (.str "a"), dC (.str "aa")]])]) c_law_one gd (by decide) (by rfl) (ja_io 0 (pv 0) (ja_d (JN.je (jn_lst (ts := [dLst [dC (.str "a"), dC (.str "b")], dLst [dC (.str "a"), dC (.str "b")], dLst [dC (.str "x"), dC (.str "yy"), dC (.str "zzzz")], dLst [dC (.str "b"), dC (.str "a"), dC (.str "aa")]]) (ja_d (JN.je (jn_lst (ts := [dC (.str "a"), dC (.str "b")]) (ja_d j_str (ja_d j_str ja_nil)))) (ja_d (JN.je (jn_lst (ts := [dC (.str "a"), dC (.str "b")]) (ja_d j_str (ja_d j_str ja_nil)))) (ja_d (JN.je (jn_lst (ts := [dC (.str "x"), dC (.str "yy"), dC (.str "zzzz")]) (ja_d j_str (ja_d j_str (ja_d j_str ja_nil))))) (ja_d (JN.je (jn_lst (ts := [dC (.str "b"), dC (.str "a"), dC (.str "aa")]) (ja_d j_str (ja_d j_str (ja_d j_str ja_nil))))) ja_nil)))))) ja_nil)))) js_nil)
abbrev s_law_step : Stmt := top 32
theorem sc_law_step : FnScope ["_law_source", "_law_kind", "_law_letters_here", "_law_x", "_law_way", "_law_name"] ["_law_source", "_law_kind", "_law_letters_here"] (defScope s_law_step) := ⟨rfl, rfl, rfl, by decide +kernel, rfl, by decide +kernel, by decide +kernel⟩
def b_law_step_1 : DS := sSeq (sNever) sNil
def b_law_step_2 : DS := sSeq (sNever) (b_law_step_1)
def b_law_step_3 : DS := sSeq (sIf (dTst (dBin eqD (dIx (dVar 1) (dC (.int 0))) (dC (.str "gauge")))) (sSeq (sNever) sNil) (sNil)) (b_law_step_2)
def b_law_step_4 : DS := sSeq (sIf (dTst (dBin eqD (dIx (dVar 1) (dC (.int 0))) (dC (.str "heap")))) (sSeq (sNever) sNil) (sNil)) (b_law_step_3)
def b_law_step_5 : DS := sSeq (sIf (dTst (dBin eqD (dIx (dVar 1) (dC (.int 0))) (dC (.str "tape")))) (sSeq (sNever) sNil) (sNil)) (b_law_step_4)
def b_law_step_6 : DS := sSeq (sIf (dTst (dBin eqD (dIx (dVar 1) (dC (.int 0))) (dC (.str "ring")))) (sSeq (sNever) sNil) (sNil)) (b_law_step_5)
def b_law_step_7 : DS := sSeq (sIf (dTst (dBin eqD (dIx (dVar 1) (dC (.int 0))) (dC (.str "queue")))) (sSeq (sRet (dTup [dIte (dTst (dBin eqD (dVar 4) (dC (.int 0)))) (dC (.str "put")) (dC (.str "take")), dVar 3])) sNil) (sNil)) (b_law_step_6)
def b_law_step_8 : DS := sSeq (sIf (dTst (dBin eqD (dIx (dVar 1) (dC (.int 0))) (dC (.str "stack")))) (sSeq (sNever) sNil) (sNil)) (b_law_step_7)
def b_law_step : DS := sSeq (sPar [3, 4] [.d (dCall sp_law_one [.io 0, .d (dVar 2)]), .d (dCall sp_law_takeW [.io 0, .d (dC (.int 2))])]) (b_law_step_8)
theorem d_law_step {P : Program} {w : World} {K : PySem.W.Frag} {mg : Str → Option Value} {base : Heap} {f : Addr} {fd : FuncData} (F : Fun K "_law_step" "_law_step" s_law_step f fd) (G : Tops P w K mg base) (c_law_one : Cal P w K mg base "_law_one" 2 [.io, .d] sp_law_one) (c_law_take : Cal P w K mg base "_law_take" 1 [.io, .d] sp_law_takeW)
    (cdv : Value) (A : Around) (outer : List PySem.Env) (s : Shared) (H : Hp) (E : XK) (gd : Gd (cxB P w K mg base ["_law_source", "_law_kind", "_law_letters_here", "_law_x", "_law_way", "_law_name"] "_law_step" s_law_step f cdv A outer s H E) (wB E) 2) : JSs (cxB P w K mg base ["_law_source", "_law_kind", "_law_letters_here", "_law_x", "_law_way", "_law_name"] "_law_step" s_law_step f cdv A outer s H E) (wB E) (defBody s_law_step) (b_law_step) :=
  (js_cons (js_par 3 4 gd rfl rfl (jx_d (j_call (ts := [.io 0, .d (dVar 2)]) c_law_one gd (by decide) (by rfl) (ja_io 0 (pv 0) (ja_d (j_var 2 (pv 2)) ja_nil))) (jx_d (j_call (ts := [.io 0, .d (dC (.int 2))]) c_law_take gd (by decide) (by rfl) (ja_io 0 (pv 0) (ja_d j_int ja_nil))) jx_nil))) (js_cons (js_if (j_cmpT (o_eq gd.u64) (j_ix (j_var 1 (pv 1)) j_int) j_str) (js_cons js_never js_nil) js_nil) (js_cons (js_if (j_cmpT (o_eq gd.u64) (j_ix (j_var 1 (pv 1)) j_int) j_str) (js_cons (js_ret (j_tup (ts := [dIte (dTst (dBin eqD (dVar 4) (dC (.int 0)))) (dC (.str "put")) (dC (.str "take")), dVar 3]) (ja_d (j_ite (j_cmpT (o_eq gd.u64) (j_var 4 (pv 4)) j_int) j_str j_str) (ja_d (j_var 3 (pv 3)) ja_nil)))) js_nil) js_nil) (js_cons (js_if (j_cmpT (o_eq gd.u64) (j_ix (j_var 1 (pv 1)) j_int) j_str) (js_cons js_never js_nil) js_nil) (js_cons (js_if (j_cmpT (o_eq gd.u64) (j_ix (j_var 1 (pv 1)) j_int) j_str) (js_cons js_never js_nil) js_nil) (js_cons (js_if (j_cmpT (o_eq gd.u64) (j_ix (j_var 1 (pv 1)) j_int) j_str) (js_cons js_never js_nil) js_nil) (js_cons (js_if (j_cmpT (o_eq gd.u64) (j_ix (j_var 1 (pv 1)) j_int) j_str) (js_cons js_never js_nil) js_nil) (js_cons js_never (js_cons js_never js_nil)))))))))
abbrev s_law_row : Stmt := top 33
theorem sc_law_row : FnScope ["_law_source", "_law_kind", "_law_letters_here", "_law_most", "_law_drawn", "_law_turn", "_law_step_here"] ["_law_source", "_law_kind", "_law_letters_here", "_law_most"] (defScope s_law_row) := ⟨rfl, rfl, rfl, by decide +kernel, rfl, by decide +kernel, by decide +kernel⟩
def b_law_row_1 : DS := sSeq (sApp 4 (dVar 6)) sNil
def b_law_row_2 : DS := sSeq (sIf (dAndT (dTst (dBin inD (dIx (dVar 1) (dC (.int 0))) (dLst [dC (.str "stack"), dC (.str "queue")]))) (dTst (dBin eqD (dCall sp_law_takeW [.io 0, .d (dC (.int 2))]) (dC (.int 0))))) (sSeq (sSet 6 (dCall sp_law_planted [.d (dVar 1), .ro 4, .d (dVar 6)])) sNil) (sNil)) (b_law_row_1)
def b_law_row_3 : DS := sSeq (sRet (dTupP 4)) sNil
def b_law_row_4 : DS := sSeq (sFor (iR1 (dCall sp_law_takeW [.io 0, .d (dBin addD (dVar 3) (dC (.int 1)))])) (gN 5) (sSeq (sSet 6 (dCall sp_law_step [.io 0, .d (dVar 1), .d (dVar 2)])) (b_law_row_2))) (b_law_row_3)
def b_law_row : DS := sSeq (sSetO 4 (dLst [])) (b_law_row_4)
theorem d_law_row {P : Program} {w : World} {K : PySem.W.Frag} {mg : Str → Option Value} {base : Heap} {f : Addr} {fd : FuncData} (F : Fun K "_law_row" "_law_row" s_law_row f fd) (G : Tops P w K mg base) (c_law_take : Cal P w K mg base "_law_take" 1 [.io, .d] sp_law_takeW) (c_law_step : Cal P w K mg base "_law_step" 3 [.io, .d, .d] sp_law_step) (c_law_planted : Cal P w K mg base "_law_planted" 1 [.d, .ro, .d] sp_law_planted)
    (cdv : Value) (A : Around) (outer : List PySem.Env) (s : Shared) (H : Hp) (E : XK) (gd : Gd (cxB P w K mg base ["_law_source", "_law_kind", "_law_letters_here", "_law_most", "_law_drawn", "_law_turn", "_law_step_here"] "_law_row" s_law_row f cdv A outer s H E) (wB E) 3) : JSs (cxB P w K mg base ["_law_source", "_law_kind", "_law_letters_here", "_law_most", "_law_drawn", "_law_turn", "_law_step_here"] "_law_row" s_law_row f cdv A outer s H E) (wB E) (defBody s_law_row) (b_law_row) :=
  (js_cons (js_setO 4 (fun te h => ps_set gd.nd rfl (by first | exact Or.inl rfl | exact Or.inr rfl) h) (jn_lst (ts := []) ja_nil)) (js_cons (js_for gd (ji_range1 (by rfl) G.b_range (j_call (ts := [.io 0, .d (dBin addD (dVar 3) (dC (.int 1)))]) c_law_take gd (by decide) (by rfl) (ja_io 0 (pv 0) (ja_d (j_bin o_add (j_var 3 (pv 3)) j_int) ja_nil)))) (jg_name 5 (pg_name (i := 5) gd.nd rfl (by first | exact Or.inl rfl | exact Or.inr rfl))) (js_cons (js_set 6 (fun te h => ps_set gd.nd rfl (by first | exact Or.inl rfl | exact Or.inr rfl) h) (j_call (ts := [.io 0, .d (dVar 1), .d (dVar 2)]) c_law_step gd (by decide) (by rfl) (ja_io 0 (pv 0) (ja_d (j_var 1 (pv 1)) (ja_d (j_var 2 (pv 2)) ja_nil))))) (js_cons (js_if (JW.jt (j_andT (j_cmpT (o_in gd.u65) (j_ix (j_var 1 (pv 1)) j_int) (JN.je (jn_lst (ts := [dC (.str "stack"), dC (.str "queue")]) (ja_d j_str (ja_d j_str ja_nil))))) (j_and1 (j_cmpT (o_eq gd.u64) (j_call (ts := [.io 0, .d (dC (.int 2))]) c_law_take gd (by decide) (by rfl) (ja_io 0 (pv 0) (ja_d j_int ja_nil))) j_int)))) (js_cons (js_set 6 (fun te h => ps_set gd.nd rfl (by first | exact Or.inl rfl | exact Or.inr rfl) h) (j_call (ts := [.d (dVar 1), .ro 4, .d (dVar 6)]) c_law_planted gd (by decide) (by rfl) (ja_d (j_var 1 (pv 1)) (ja_ro 4 (pv 4) (ja_d (j_var 6 (pv 6)) ja_nil))))) js_nil) js_nil) (js_cons (js_app 4 (pv 4) (j_var 6 (pv 6))) js_nil)))) (js_cons (js_ret (j_tupP 4 (by rfl) G.b_tuple (by decide +kernel) (pv 4))) js_nil)))
abbrev s_law_planted : Stmt := top 34
theorem sc_law_planted : FnScope ["_law_kind", "_law_drawn", "_law_step_here", "_law_lies", "_law_one_here"] ["_law_kind", "_law_drawn", "_law_step_here"] (defScope s_law_planted) := ⟨rfl, rfl, rfl, by decide +kernel, rfl, by decide +kernel, by decide +kernel⟩
def b_law_planted_1 : DS := sSeq (sRet (dIte (dTst (dBin neD (dVar 3) (dLst []))) (dTup [dIx (dVar 2) (dC (.int 0)), dIx (dVar 3) (dC (.int 0))]) (dVar 2))) sNil
def b_law_planted_2 : DS := sSeq (sFor (iRo 1) (gN 4) (sSeq (sIf (dTst (dBin eqD (dIx (dVar 4) (dC (.int 0))) (dC (.str "push")))) (sSeq (sNever) sNil) (sSeq (sIf (dTst (dBin eqD (dIx (dVar 4) (dC (.int 0))) (dC (.str "put")))) (sSeq (sSet 3 (dBin addD (dVar 3) (dLst [dIx (dVar 4) (dC (.int 1))]))) sNil) (sSeq (sIf (dTst (dBin neD (dVar 3) (dLst []))) (sSeq (sSet 3 (dSl (dVar 3) (dSo (dC (.int 1))) (dNo))) sNil) (sNil)) sNil)) sNil)) sNil)) (b_law_planted_1)
def b_law_planted_3 : DS := sSeq (sSet 3 (dLst [])) (b_law_planted_2)
def b_law_planted : DS := sSeq (sIf (dTst (dBin ninD (dIx (dVar 2) (dC (.int 0))) (dLst [dC (.str "pop"), dC (.str "take")]))) (sSeq (sRet (dVar 2)) sNil) (sNil)) (b_law_planted_3)
theorem d_law_planted {P : Program} {w : World} {K : PySem.W.Frag} {mg : Str → Option Value} {base : Heap} {f : Addr} {fd : FuncData} (F : Fun K "_law_planted" "_law_planted" s_law_planted f fd) (G : Tops P w K mg base)
    (cdv : Value) (A : Around) (outer : List PySem.Env) (s : Shared) (H : Hp) (E : XK) (gd : Gd (cxB P w K mg base ["_law_kind", "_law_drawn", "_law_step_here", "_law_lies", "_law_one_here"] "_law_planted" s_law_planted f cdv A outer s H E) (wB E) 0) : JSs (cxB P w K mg base ["_law_kind", "_law_drawn", "_law_step_here", "_law_lies", "_law_one_here"] "_law_planted" s_law_planted f cdv A outer s H E) (wB E) (defBody s_law_planted) (b_law_planted) :=
  (js_cons (js_if (j_cmpT (o_nin gd.u65) (j_ix (j_var 2 (pv 2)) j_int) (JN.je (jn_lst (ts := [dC (.str "pop"), dC (.str "take")]) (ja_d j_str (ja_d j_str ja_nil))))) (js_cons (js_ret (j_var 2 (pv 2))) js_nil) js_nil) (js_cons (js_set 3 (fun te h => ps_set gd.nd rfl (by first | exact Or.inl rfl | exact Or.inr rfl) h) (JN.je (jn_lst (ts := []) ja_nil))) (js_cons (js_for gd (ji_ro 1 (pv 1)) (jg_name 4 (pg_name (i := 4) gd.nd rfl (by first | exact Or.inl rfl | exact Or.inr rfl))) (js_cons (js_if (j_cmpT (o_eq gd.u64) (j_ix (j_var 4 (pv 4)) j_int) j_str) (js_cons js_never js_nil) (js_cons (js_if (j_cmpT (o_eq gd.u64) (j_ix (j_var 4 (pv 4)) j_int) j_str) (js_cons (js_set 3 (fun te h => ps_set gd.nd rfl (by first | exact Or.inl rfl | exact Or.inr rfl) h) (j_bin o_add (j_var 3 (pv 3)) (JN.je (jn_lst (ts := [dIx (dVar 4) (dC (.int 1))]) (ja_d (j_ix (j_var 4 (pv 4)) j_int) ja_nil))))) js_nil) (js_cons (js_if (j_cmpT (o_ne gd.u64) (j_var 3 (pv 3)) (JN.je (jn_lst (ts := []) ja_nil))) (js_cons (js_set 3 (fun te h => ps_set gd.nd rfl (by first | exact Or.inl rfl | exact Or.inr rfl) h) (j_sl (j_var 3 (pv 3)) (jo_some j_int) jo_none)) js_nil) js_nil) js_nil)) js_nil)) js_nil)) (js_cons (js_ret (j_ite (j_cmpT (o_ne gd.u64) (j_var 3 (pv 3)) (JN.je (jn_lst (ts := []) ja_nil))) (j_tup (ts := [dIx (dVar 2) (dC (.int 0)), dIx (dVar 3) (dC (.int 0))]) (ja_d (j_ix (j_var 2 (pv 2)) j_int) (ja_d (j_ix (j_var 3 (pv 3)) j_int) ja_nil))) (j_var 2 (pv 2)))) js_nil))))
abbrev s_law_contents : Stmt := top 35
theorem sc_law_contents : FnScope ["_law_source", "_law_kind", "_law_letters_here", "_law_top", "_law_drawn", "_law_names", "_law_rest", "_law_place", "_law_turn", "_law_name", "_law_pair_here", "_law_one_here"] ["_law_source", "_law_kind", "_law_letters_here"] (defScope s_law_contents) := ⟨rfl, rfl, rfl, by decide +kernel, rfl, by decide +kernel, by decide +kernel⟩
def b_law_contents_1 : DS := sSeq (sRet (dCB tupleD [dLc [8] (iR1 (dCall sp_law_takeW [.io 0, .d (dBin addD (dVar 3) (dC (.int 1)))])) (gN 8) (dYes) (dCall sp_law_one [.io 0, .d (dBin addD (dVar 2) (dLst [dC (.str "q")]))])])) sNil
def b_law_contents_2 : DS := sSeq (sNever) sNil
def b_law_contents_3 : DS := sSeq (sNever) sNil
def b_law_contents_4 : DS := sSeq (sNever) sNil
def b_law_contents_5 : DS := sSeq (sNever) (b_law_contents_4)
def b_law_contents_6 : DS := sSeq (sNever) (b_law_contents_5)
def b_law_contents_7 : DS := sSeq (sIf (dTst (dBin eqD (dIx (dVar 1) (dC (.int 0))) (dC (.str "table")))) (sSeq (sNever) (b_law_contents_3)) (sNil)) (b_law_contents_6)
def b_law_contents_8 : DS := sSeq (sIf (dTst (dBin eqD (dIx (dVar 1) (dC (.int 0))) (dC (.str "heap")))) (sSeq (sNever) (b_law_contents_2)) (sNil)) (b_law_contents_7)
def b_law_contents_9 : DS := sSeq (sIf (dTst (dBin eqD (dIx (dVar 1) (dC (.int 0))) (dC (.str "gauge")))) (sSeq (sNever) sNil) (sNil)) (b_law_contents_8)
def b_law_contents : DS := sSeq (sIf (dTst (dBin inD (dIx (dVar 1) (dC (.int 0))) (dLst [dC (.str "stack"), dC (.str "queue"), dC (.str "ring")]))) (sSeq (sSet 3 (dIte (dTst (dBin eqD (dIx (dVar 1) (dC (.int 0))) (dC (.str "ring")))) (dNever) (dC (.int 4)))) (b_law_contents_1)) (sNil)) (b_law_contents_9)
theorem d_law_contents {P : Program} {w : World} {K : PySem.W.Frag} {mg : Str → Option Value} {base : Heap} {f : Addr} {fd : FuncData} (F : Fun K "_law_contents" "_law_contents" s_law_contents f fd) (G : Tops P w K mg base) (c_law_one : Cal P w K mg base "_law_one" 2 [.io, .d] sp_law_one) (c_law_take : Cal P w K mg base "_law_take" 1 [.io, .d] sp_law_takeW)
    (cdv : Value) (A : Around) (outer : List PySem.Env) (s : Shared) (H : Hp) (E : XK) (gd : Gd (cxB P w K mg base ["_law_source", "_law_kind", "_law_letters_here", "_law_top", "_law_drawn", "_law_names", "_law_rest", "_law_place", "_law_turn", "_law_name", "_law_pair_here", "_law_one_here"] "_law_contents" s_law_contents f cdv A outer s H E) (wB E) 2) : JSs (cxB P w K mg base ["_law_source", "_law_kind", "_law_letters_here", "_law_top", "_law_drawn", "_law_names", "_law_rest", "_law_place", "_law_turn", "_law_name", "_law_pair_here", "_law_one_here"] "_law_contents" s_law_contents f cdv A outer s H E) (wB E) (defBody s_law_contents) (b_law_contents) :=
  (js_cons (js_if (j_cmpT (o_in gd.u65) (j_ix (j_var 1 (pv 1)) j_int) (JN.je (jn_lst (ts := [dC (.str "stack"), dC (.str "queue"), dC (.str "ring")]) (ja_d j_str (ja_d j_str (ja_d j_str ja_nil)))))) (js_cons (js_set 3 (fun te h => ps_set gd.nd rfl (by first | exact Or.inl rfl | exact Or.inr rfl) h) (j_ite (j_cmpT (o_eq gd.u64) (j_ix (j_var 1 (pv 1)) j_int) j_str) j_never j_int)) (js_cons (js_ret (j_callTy (ts := [dLc [8] (iR1 (dCall sp_law_takeW [.io 0, .d (dBin addD (dVar 3) (dC (.int 1)))])) (gN 8) (dYes) (dCall sp_law_one [.io 0, .d (dBin addD (dVar 2) (dLst [dC (.str "q")]))])]) c_tuple (by rfl) G.b_tuple (by decide +kernel) (ja_d (JN.je (jn_lc (own := [("_law_turn", 8)]) gd (by rfl) (ji_range1 (by rfl) G.b_range (j_call (ts := [.io 0, .d (dBin addD (dVar 3) (dC (.int 1)))]) c_law_take gd (by decide) (by rfl) (ja_io 0 (pv 0) (ja_d (j_bin o_add (j_var 3 (pv 3)) j_int) ja_nil)))) (fun _ _ _ _ _ => (jgo_name 8 (pg_name (i := 8) gd.blk.nd rfl (by first | exact Or.inl rfl | exact Or.inr rfl)) (by decide))) (fun _ _ _ _ _ => jts_nil) (fun _ _ _ _ _ => (j_call (ts := [.io 0, .d (dBin addD (dVar 2) (dLst [dC (.str "q")]))]) c_law_one gd.blk (by decide) (by rfl) (ja_io 0 (pv 0) (ja_d (j_bin o_add (j_var 2 (pv 2)) (JN.je (jn_lst (ts := [dC (.str "q")]) (ja_d j_str ja_nil)))) ja_nil)))))) ja_nil))) js_nil)) js_nil) (js_cons (js_if (j_cmpT (o_eq gd.u64) (j_ix (j_var 1 (pv 1)) j_int) j_str) (js_cons js_never js_nil) js_nil) (js_cons (js_if (j_cmpT (o_eq gd.u64) (j_ix (j_var 1 (pv 1)) j_int) j_str) (js_cons js_never (js_cons js_never js_nil)) js_nil) (js_cons (js_if (j_cmpT (o_eq gd.u64) (j_ix (j_var 1 (pv 1)) j_int) j_str) (js_cons js_never (js_cons js_never js_nil)) js_nil) (js_cons js_never (js_cons js_never (js_cons js_never js_nil)))))))
abbrev s_law_normal : Stmt := top 36
theorem sc_law_normal : FnScope ["_law_u", "_law_v", "_law_least", "_law_k"] ["_law_u", "_law_v", "_law_least"] (defScope s_law_normal) := ⟨rfl, rfl, rfl, by decide +kernel, rfl, by decide +kernel, by decide +kernel⟩
def b_law_normal_1 : DS := sSeq (sRet (dCB lenD [dVar 0])) sNil
def b_law_normal : DS := sSeq (sFor (iR2 (dVar 2) (dBin addD (dCB lenD [dVar 0]) (dC (.int 1)))) (gN 3) (sSeq (sIf (dOrT (dTst (dBin eqD (dVar 3) (dCB lenD [dVar 0]))) (dTst (dBin eqD (dSl (dVar 0) (dSo (dVar 3)) (dNo)) (dSl (dVar 1) (dNo) (dSo (dBin subD (dCB lenD [dVar 0]) (dVar 3))))))) (sSeq (sRet (dVar 3)) sNil) (sNil)) sNil)) (b_law_normal_1)
theorem d_law_normal {P : Program} {w : World} {K : PySem.W.Frag} {mg : Str → Option Value} {base : Heap} {f : Addr} {fd : FuncData} (F : Fun K "_law_normal" "_law_normal" s_law_normal f fd) (G : Tops P w K mg base)
    (cdv : Value) (A : Around) (outer : List PySem.Env) (s : Shared) (H : Hp) (E : XK) (gd : Gd (cxB P w K mg base ["_law_u", "_law_v", "_law_least", "_law_k"] "_law_normal" s_law_normal f cdv A outer s H E) (wB E) 0) : JSs (cxB P w K mg base ["_law_u", "_law_v", "_law_least", "_law_k"] "_law_normal" s_law_normal f cdv A outer s H E) (wB E) (defBody s_law_normal) (b_law_normal) :=
  (js_cons (js_for gd (ji_range2 (by rfl) G.b_range (j_var 2 (pv 2)) (j_bin o_add (j_callB (ts := [dVar 0]) c_len (by rfl) G.b_len (by decide +kernel) (ja_d (j_var 0 (pv 0)) ja_nil)) j_int)) (jg_name 3 (pg_name (i := 3) gd.nd rfl (by first | exact Or.inl rfl | exact Or.inr rfl))) (js_cons (js_if (JW.jt (j_orT (j_cmpT (o_eq gd.u64) (j_var 3 (pv 3)) (j_callB (ts := [dVar 0]) c_len (by rfl) G.b_len (by decide +kernel) (ja_d (j_var 0 (pv 0)) ja_nil))) (j_or1 (j_cmpT (o_eq gd.u64) (j_sl (j_var 0 (pv 0)) (jo_some (j_var 3 (pv 3))) jo_none) (j_sl (j_var 1 (pv 1)) jo_none (jo_some (j_bin o_sub (j_callB (ts := [dVar 0]) c_len (by rfl) G.b_len (by decide +kernel) (ja_d (j_var 0 (pv 0)) ja_nil)) (j_var 3 (pv 3))))))))) (js_cons (js_ret (j_var 3 (pv 3))) js_nil) js_nil) js_nil)) (js_cons (js_ret (j_callB (ts := [dVar 0]) c_len (by rfl) G.b_len (by decide +kernel) (ja_d (j_var 0 (pv 0)) ja_nil))) js_nil))
abbrev s_law_form : Stmt := top 37
theorem sc_law_form : FnScope ["_law_row_here", "_law_u", "_law_v", "_law_least", "_law_sums", "_law_step_here"] ["_law_row_here"] (defScope s_law_form) := ⟨rfl, rfl, rfl, by decide +kernel, rfl, by decide +kernel, by decide +kernel⟩
def b_law_form_1 : DS := sSeq (sSet 3 (dCB maxD [dCB intD [dVar 3], dCB intD [dVar 4]])) sNil
def b_law_form_2 : DS := sSeq (sRet (dTup [dVar 1, dVar 2, dCall sp_law_normal [.d (dVar 1), .d (dVar 2), .d (dVar 3)]])) sNil
def b_law_form_3 : DS := sSeq (sFor (iD (dVar 0)) (gN 5) (sSeq (sSet 4 (dBin addD (dVar 4) (dIte (dTst (dBin eqD (dIx (dVar 5) (dC (.int 0))) (dC (.str "take")))) (dC (.int 1)) (dNeg (dC (.int 1)))))) (b_law_form_1))) (b_law_form_2)
def b_law_form_4 : DS := sSeq (sAsg (dTup [dC (.int 0), dC (.int 0)]) (gTp 2 (gsCons (gN 3) (gsCons (gN 4) (gsNil))))) (b_law_form_3)
def b_law_form_5 : DS := sSeq (sSet 2 (dCB tupleD [dLc [5] (iD (dVar 0)) (gN 5) (dTst (dBin eqD (dIx (dVar 5) (dC (.int 0))) (dC (.str "put")))) (dIx (dVar 5) (dC (.int 1)))])) (b_law_form_4)
def b_law_form : DS := sSeq (sSet 1 (dCB tupleD [dLc [5] (iD (dVar 0)) (gN 5) (dTst (dBin eqD (dIx (dVar 5) (dC (.int 0))) (dC (.str "take")))) (dIx (dVar 5) (dC (.int 1)))])) (b_law_form_5)
theorem d_law_form {P : Program} {w : World} {K : PySem.W.Frag} {mg : Str → Option Value} {base : Heap} {f : Addr} {fd : FuncData} (F : Fun K "_law_form" "_law_form" s_law_form f fd) (G : Tops P w K mg base) (c_law_normal : Cal P w K mg base "_law_normal" 1 [.d, .d, .d] sp_law_normal)
    (cdv : Value) (A : Around) (outer : List PySem.Env) (s : Shared) (H : Hp) (E : XK) (gd : Gd (cxB P w K mg base ["_law_row_here", "_law_u", "_law_v", "_law_least", "_law_sums", "_law_step_here"] "_law_form" s_law_form f cdv A outer s H E) (wB E) 1) : JSs (cxB P w K mg base ["_law_row_here", "_law_u", "_law_v", "_law_least", "_law_sums", "_law_step_here"] "_law_form" s_law_form f cdv A outer s H E) (wB E) (defBody s_law_form) (b_law_form) :=
  (js_cons (js_set 1 (fun te h => ps_set gd.nd rfl (by first | exact Or.inl rfl | exact Or.inr rfl) h) (j_callTy (ts := [dLc [5] (iD (dVar 0)) (gN 5) (dTst (dBin eqD (dIx (dVar 5) (dC (.int 0))) (dC (.str "take")))) (dIx (dVar 5) (dC (.int 1)))]) c_tuple (by rfl) G.b_tuple (by decide +kernel) (ja_d (JN.je (jn_lc (own := [("_law_step_here", 5)]) gd (by rfl) (ji_seq (j_var 0 (pv 0))) (fun _ _ _ _ _ => (jgo_name 5 (pg_name (i := 5) gd.blk.nd rfl (by first | exact Or.inl rfl | exact Or.inr rfl)) (by decide))) (fun _ _ _ _ _ => (jts_one (j_cmpT (o_eq gd.blk.u64) (j_ix (j_var 5 (pv 5)) j_int) j_str))) (fun _ _ _ _ _ => (j_ix (j_var 5 (pv 5)) j_int)))) ja_nil))) (js_cons (js_set 2 (fun te h => ps_set gd.nd rfl (by first | exact Or.inl rfl | exact Or.inr rfl) h) (j_callTy (ts := [dLc [5] (iD (dVar 0)) (gN 5) (dTst (dBin eqD (dIx (dVar 5) (dC (.int 0))) (dC (.str "put")))) (dIx (dVar 5) (dC (.int 1)))]) c_tuple (by rfl) G.b_tuple (by decide +kernel) (ja_d (JN.je (jn_lc (own := [("_law_step_here", 5)]) gd (by rfl) (ji_seq (j_var 0 (pv 0))) (fun _ _ _ _ _ => (jgo_name 5 (pg_name (i := 5) gd.blk.nd rfl (by first | exact Or.inl rfl | exact Or.inr rfl)) (by decide))) (fun _ _ _ _ _ => (jts_one (j_cmpT (o_eq gd.blk.u64) (j_ix (j_var 5 (pv 5)) j_int) j_str))) (fun _ _ _ _ _ => (j_ix (j_var 5 (pv 5)) j_int)))) ja_nil))) (js_cons (js_asg (j_tup (ts := [dC (.int 0), dC (.int 0)]) (ja_d j_int (ja_d j_int ja_nil))) (jg_tup gd.calm (jgs_cons (jg_name 3 (pg_name (i := 3) gd.nd rfl (by first | exact Or.inl rfl | exact Or.inr rfl))) (jgs_cons (jg_name 4 (pg_name (i := 4) gd.nd rfl (by first | exact Or.inl rfl | exact Or.inr rfl))) jgs_nil)))) (js_cons (js_for gd (ji_seq (j_var 0 (pv 0))) (jg_name 5 (pg_name (i := 5) gd.nd rfl (by first | exact Or.inl rfl | exact Or.inr rfl))) (js_cons (js_set 4 (fun te h => ps_set gd.nd rfl (by first | exact Or.inl rfl | exact Or.inr rfl) h) (j_bin o_add (j_var 4 (pv 4)) (j_ite (j_cmpT (o_eq gd.u64) (j_ix (j_var 5 (pv 5)) j_int) j_str) j_int (j_neg j_int)))) (js_cons (js_set 3 (fun te h => ps_set gd.nd rfl (by first | exact Or.inl rfl | exact Or.inr rfl) h) (j_callB (ts := [dCB intD [dVar 3], dCB intD [dVar 4]]) (c_max gd.calm) (by rfl) G.b_max (by decide +kernel) (ja_d (j_callTy (ts := [dVar 3]) c_int (by rfl) G.b_int (by decide +kernel) (ja_d (j_var 3 (pv 3)) ja_nil)) (ja_d (j_callTy (ts := [dVar 4]) c_int (by rfl) G.b_int (by decide +kernel) (ja_d (j_var 4 (pv 4)) ja_nil)) ja_nil)))) js_nil))) (js_cons (js_ret (j_tup (ts := [dVar 1, dVar 2, dCall sp_law_normal [.d (dVar 1), .d (dVar 2), .d (dVar 3)]]) (ja_d (j_var 1 (pv 1)) (ja_d (j_var 2 (pv 2)) (ja_d (j_call (ts := [.d (dVar 1), .d (dVar 2), .d (dVar 3)]) c_law_normal gd (by decide) (by rfl) (ja_d (j_var 1 (pv 1)) (ja_d (j_var 2 (pv 2)) (ja_d (j_var 3 (pv 3)) ja_nil)))) ja_nil))))) js_nil)))))
abbrev s_law_turned_word : Stmt := top 38
theorem sc_law_turned_word : FnScope ["_law_root", "_law_far", "_law_at"] ["_law_root", "_law_far"] (defScope s_law_turned_word) := ⟨rfl, rfl, rfl, by decide +kernel, rfl, by decide +kernel, by decide +kernel⟩
def b_law_turned_word : DS := sSeq (sRet (dCB tupleD [dLc [2] (iR1 (dCB lenD [dVar 0])) (gN 2) (dYes) (dIx (dVar 0) (dBin modD (dCB intD [dBin addD (dVar 1) (dVar 2)]) (dCB lenD [dVar 0])))])) sNil
theorem d_law_turned_word {P : Program} {w : World} {K : PySem.W.Frag} {mg : Str → Option Value} {base : Heap} {f : Addr} {fd : FuncData} (F : Fun K "_law_turned_word" "_law_turned_word" s_law_turned_word f fd) (G : Tops P w K mg base)
    (cdv : Value) (A : Around) (outer : List PySem.Env) (s : Shared) (H : Hp) (E : XK) (gd : Gd (cxB P w K mg base ["_law_root", "_law_far", "_law_at"] "_law_turned_word" s_law_turned_word f cdv A outer s H E) (wB E) 0) : JSs (cxB P w K mg base ["_law_root", "_law_far", "_law_at"] "_law_turned_word" s_law_turned_word f cdv A outer s H E) (wB E) (defBody s_law_turned_word) (b_law_turned_word) :=
  (js_cons (js_ret (j_callTy (ts := [dLc [2] (iR1 (dCB lenD [dVar 0])) (gN 2) (dYes) (dIx (dVar 0) (dBin modD (dCB intD [dBin addD (dVar 1) (dVar 2)]) (dCB lenD [dVar 0])))]) c_tuple (by rfl) G.b_tuple (by decide +kernel) (ja_d (JN.je (jn_lc (own := [("_law_at", 2)]) gd (by rfl) (ji_range1 (by rfl) G.b_range (j_callB (ts := [dVar 0]) c_len (by rfl) G.b_len (by decide +kernel) (ja_d (j_var 0 (pv 0)) ja_nil))) (fun _ _ _ _ _ => (jgo_name 2 (pg_name (i := 2) gd.blk.nd rfl (by first | exact Or.inl rfl | exact Or.inr rfl)) (by decide))) (fun _ _ _ _ _ => jts_nil) (fun _ _ _ _ _ => (j_ix (j_var 0 (pv 0)) (j_bin o_mod (j_callTy (ts := [dBin addD (dVar 1) (dVar 2)]) c_int (by rfl) G.b_int (by decide +kernel) (ja_d (j_bin o_add (j_var 1 (pv 1)) (j_var 2 (pv 2))) ja_nil)) (j_callB (ts := [dVar 0]) c_len (by rfl) G.b_len (by decide +kernel) (ja_d (j_var 0 (pv 0)) ja_nil))))))) ja_nil))) js_nil)
abbrev s_law_planted_form : Stmt := top 39
theorem sc_law_planted_form : FnScope ["_law_source", "_law_letters_here", "_law_root", "_law_far", "_law_first", "_law_second", "_law_u", "_law_v", "_law_box", "_law_at", "_law_least", "_law_turn"] ["_law_source", "_law_letters_here"] (defScope s_law_planted_form) := ⟨rfl, rfl, rfl, by decide +kernel, rfl, by decide +kernel, by decide +kernel⟩
def b_law_planted_form_1 : DS := sSeq (sSet 7 (dBin addD (dBin addD (dSl (dVar 7) (dNo) (dSo (dVar 9))) (dTup [dCall sp_law_one [.io 0, .d (dVar 1)]])) (dSl (dVar 7) (dSo (dBin addD (dVar 9) (dC (.int 1)))) (dNo)))) sNil
def b_law_planted_form_2 : DS := sSeq (sRet (dLst [dTup [dVar 6, dVar 7, dVar 10], dVar 8])) sNil
def b_law_planted_form_3 : DS := sSeq (sSet 10 (dCall sp_law_normal [.d (dVar 6), .d (dVar 7), .d (dBin addD (dVar 10) (dCall sp_law_takeW [.io 0, .d (dBin addD (dBin subD (dCB lenD [dVar 6]) (dVar 10)) (dC (.int 1)))]))])) (b_law_planted_form_2)
def b_law_planted_form_4 : DS := sSeq (sSet 10 (dCB maxD [dC (.int 0), dBin subD (dCB lenD [dVar 6]) (dCB lenD [dVar 7])])) (b_law_planted_form_3)
def b_law_planted_form_5 : DS := sSeq (sIf (dAndT (dTst (dBin eqD (dCall sp_law_takeW [.io 0, .d (dC (.int 3))]) (dC (.int 0)))) (dTst (dBin neD (dVar 7) (dTup [])))) (sSeq (sSet 9 (dCall sp_law_takeW [.io 0, .d (dCB lenD [dVar 7])])) (b_law_planted_form_1)) (sNil)) (b_law_planted_form_4)
def b_law_planted_form_6 : DS := sSeq (sSet 8 (dSl (dBin mulTD (dVar 2) (dC (.int 5))) (dNo) (dSo (dVar 3)))) (b_law_planted_form_5)
def b_law_planted_form_7 : DS := sSeq (sPar [6, 7] [.d (dBin mulTD (dVar 2) (dVar 4)), .d (dBin mulTD (dCall sp_law_turned_word [.d (dVar 2), .d (dVar 3)]) (dVar 5))]) (b_law_planted_form_6)
def b_law_planted_form_8 : DS := sSeq (sPar [3, 4, 5] [.d (dCall sp_law_takeW [.io 0, .d (dC (.int 5))]), .d (dBin addD (dC (.int 1)) (dCall sp_law_takeW [.io 0, .d (dC (.int 2))])), .d (dCall sp_law_takeW [.io 0, .d (dC (.int 4))])]) (b_law_planted_form_7)
def b_law_planted_form : DS := sSeq (sSet 2 (dCB tupleD [dLc [11] (iR1 (dBin addD (dC (.int 1)) (dCall sp_law_takeW [.io 0, .d (dC (.int 3))]))) (gN 11) (dYes) (dCall sp_law_one [.io 0, .d (dVar 1)])])) (b_law_planted_form_8)
theorem d_law_planted_form {P : Program} {w : World} {K : PySem.W.Frag} {mg : Str → Option Value} {base : Heap} {f : Addr} {fd : FuncData} (F : Fun K "_law_planted_form" "_law_planted_form" s_law_planted_form f fd) (G : Tops P w K mg base) (c_law_one : Cal P w K mg base "_law_one" 2 [.io, .d] sp_law_one) (c_law_take : Cal P w K mg base "_law_take" 1 [.io, .d] sp_law_takeW) (c_law_turned_word : Cal P w K mg base "_law_turned_word" 1 [.d, .d] sp_law_turned_word) (c_law_normal : Cal P w K mg base "_law_normal" 1 [.d, .d, .d] sp_law_normal)
    (cdv : Value) (A : Around) (outer : List PySem.Env) (s : Shared) (H : Hp) (E : XK) (gd : Gd (cxB P w K mg base ["_law_source", "_law_letters_here", "_law_root", "_law_far", "_law_first", "_law_second", "_law_u", "_law_v", "_law_box", "_law_at", "_law_least", "_law_turn"] "_law_planted_form" s_law_planted_form f cdv A outer s H E) (wB E) 2) : JSs (cxB P w K mg base ["_law_source", "_law_letters_here", "_law_root", "_law_far", "_law_first", "_law_second", "_law_u", "_law_v", "_law_box", "_law_at", "_law_least", "_law_turn"] "_law_planted_form" s_law_planted_form f cdv A outer s H E) (wB E) (defBody s_law_planted_form) (b_law_planted_form) :=
  (js_cons (js_set 2 (fun te h => ps_set gd.nd rfl (by first | exact Or.inl rfl | exact Or.inr rfl) h) (j_callTy (ts := [dLc [11] (iR1 (dBin addD (dC (.int 1)) (dCall sp_law_takeW [.io 0, .d (dC (.int 3))]))) (gN 11) (dYes) (dCall sp_law_one [.io 0, .d (dVar 1)])]) c_tuple (by rfl) G.b_tuple (by decide +kernel) (ja_d (JN.je (jn_lc (own := [("_law_turn", 11)]) gd (by rfl) (ji_range1 (by rfl) G.b_range (j_bin o_add j_int (j_call (ts := [.io 0, .d (dC (.int 3))]) c_law_take gd (by decide) (by rfl) (ja_io 0 (pv 0) (ja_d j_int ja_nil))))) (fun _ _ _ _ _ => (jgo_name 11 (pg_name (i := 11) gd.blk.nd rfl (by first | exact Or.inl rfl | exact Or.inr rfl)) (by decide))) (fun _ _ _ _ _ => jts_nil) (fun _ _ _ _ _ => (j_call (ts := [.io 0, .d (dVar 1)]) c_law_one gd.blk (by decide) (by rfl) (ja_io 0 (pv 0) (ja_d (j_var 1 (pv 1)) ja_nil)))))) ja_nil))) (js_cons (js_par3 3 4 5 gd rfl rfl rfl (jx_d (j_call (ts := [.io 0, .d (dC (.int 5))]) c_law_take gd (by decide) (by rfl) (ja_io 0 (pv 0) (ja_d j_int ja_nil))) (jx_d (j_bin o_add j_int (j_call (ts := [.io 0, .d (dC (.int 2))]) c_law_take gd (by decide) (by rfl) (ja_io 0 (pv 0) (ja_d j_int ja_nil)))) (jx_d (j_call (ts := [.io 0, .d (dC (.int 4))]) c_law_take gd (by decide) (by rfl) (ja_io 0 (pv 0) (ja_d j_int ja_nil))) jx_nil)))) (js_cons (js_par 6 7 gd rfl rfl (jx_d (j_bin o_mulT (j_var 2 (pv 2)) (j_var 4 (pv 4))) (jx_d (j_bin o_mulT (j_call (ts := [.d (dVar 2), .d (dVar 3)]) c_law_turned_word gd (by decide) (by rfl) (ja_d (j_var 2 (pv 2)) (ja_d (j_var 3 (pv 3)) ja_nil))) (j_var 5 (pv 5))) jx_nil))) (js_cons (js_set 8 (fun te h => ps_set gd.nd rfl (by first | exact Or.inl rfl | exact Or.inr rfl) h) (j_sl (j_bin o_mulT (j_var 2 (pv 2)) j_int) jo_none (jo_some (j_var 3 (pv 3))))) (js_cons (js_if (JW.jt (j_andT (j_cmpT (o_eq gd.u64) (j_call (ts := [.io 0, .d (dC (.int 3))]) c_law_take gd (by decide) (by rfl) (ja_io 0 (pv 0) (ja_d j_int ja_nil))) j_int) (j_and1 (j_cmpT (o_ne gd.u64) (j_var 7 (pv 7)) (j_tup (ts := []) ja_nil))))) (js_cons (js_set 9 (fun te h => ps_set gd.nd rfl (by first | exact Or.inl rfl | exact Or.inr rfl) h) (j_call (ts := [.io 0, .d (dCB lenD [dVar 7])]) c_law_take gd (by decide) (by rfl) (ja_io 0 (pv 0) (ja_d (j_callB (ts := [dVar 7]) c_len (by rfl) G.b_len (by decide +kernel) (ja_d (j_var 7 (pv 7)) ja_nil)) ja_nil)))) (js_cons (js_set 7 (fun te h => ps_set gd.nd rfl (by first | exact Or.inl rfl | exact Or.inr rfl) h) (j_bin o_add (j_bin o_add (j_sl (j_var 7 (pv 7)) jo_none (jo_some (j_var 9 (pv 9)))) (j_tup (ts := [dCall sp_law_one [.io 0, .d (dVar 1)]]) (ja_d (j_call (ts := [.io 0, .d (dVar 1)]) c_law_one gd (by decide) (by rfl) (ja_io 0 (pv 0) (ja_d (j_var 1 (pv 1)) ja_nil))) ja_nil))) (j_sl (j_var 7 (pv 7)) (jo_some (j_bin o_add (j_var 9 (pv 9)) j_int)) jo_none))) js_nil)) js_nil) (js_cons (js_set 10 (fun te h => ps_set gd.nd rfl (by first | exact Or.inl rfl | exact Or.inr rfl) h) (j_callB (ts := [dC (.int 0), dBin subD (dCB lenD [dVar 6]) (dCB lenD [dVar 7])]) (c_max gd.calm) (by rfl) G.b_max (by decide +kernel) (ja_d j_int (ja_d (j_bin o_sub (j_callB (ts := [dVar 6]) c_len (by rfl) G.b_len (by decide +kernel) (ja_d (j_var 6 (pv 6)) ja_nil)) (j_callB (ts := [dVar 7]) c_len (by rfl) G.b_len (by decide +kernel) (ja_d (j_var 7 (pv 7)) ja_nil))) ja_nil)))) (js_cons (js_set 10 (fun te h => ps_set gd.nd rfl (by first | exact Or.inl rfl | exact Or.inr rfl) h) (j_call (ts := [.d (dVar 6), .d (dVar 7), .d (dBin addD (dVar 10) (dCall sp_law_takeW [.io 0, .d (dBin addD (dBin subD (dCB lenD [dVar 6]) (dVar 10)) (dC (.int 1)))]))]) c_law_normal gd (by decide) (by rfl) (ja_d (j_var 6 (pv 6)) (ja_d (j_var 7 (pv 7)) (ja_d (j_bin o_add (j_var 10 (pv 10)) (j_call (ts := [.io 0, .d (dBin addD (dBin subD (dCB lenD [dVar 6]) (dVar 10)) (dC (.int 1)))]) c_law_take gd (by decide) (by rfl) (ja_io 0 (pv 0) (ja_d (j_bin o_add (j_bin o_sub (j_callB (ts := [dVar 6]) c_len (by rfl) G.b_len (by decide +kernel) (ja_d (j_var 6 (pv 6)) ja_nil)) (j_var 10 (pv 10))) j_int) ja_nil)))) ja_nil))))) (js_cons (js_ret (JN.je (jn_lst (ts := [dTup [dVar 6, dVar 7, dVar 10], dVar 8]) (ja_d (j_tup (ts := [dVar 6, dVar 7, dVar 10]) (ja_d (j_var 6 (pv 6)) (ja_d (j_var 7 (pv 7)) (ja_d (j_var 10 (pv 10)) ja_nil)))) (ja_d (j_var 8 (pv 8)) ja_nil))))) js_nil))))))))
abbrev s_law_drawn_form : Stmt := top 40
theorem sc_law_drawn_form : FnScope ["_law_source", "_law_letters_here", "_law_form_here", "_law_box"] ["_law_source", "_law_letters_here"] (defScope s_law_drawn_form) := ⟨rfl, rfl, rfl, by decide +kernel, rfl, by decide +kernel, by decide +kernel⟩
def b_law_drawn_form_1 : DS := sSeq (sRet (dLst [dVar 2, dVar 3])) sNil
def b_law_drawn_form_2 : DS := sSeq (sIf (dTst (dBin eqD (dCall sp_law_takeW [.io 0, .d (dC (.int 2))]) (dC (.int 0)))) (sSeq (sSet 3 (dSl (dBin mulTD (dIx (dVar 2) (dC (.int 0))) (dC (.int 4))) (dNo) (dSo (dCall sp_law_takeW [.io 0, .d (dC (.int 6))])))) sNil) (sNil)) (b_law_drawn_form_1)
def b_law_drawn_form_3 : DS := sSeq (sSet 3 (dCall sp_law_contents [.io 0, .d (dTup [dC (.str "queue")]), .d (dVar 1)])) (b_law_drawn_form_2)
def b_law_drawn_form_4 : DS := sSeq (sSet 2 (dCall sp_law_form [.d (dCall sp_law_row [.io 0, .d (dTup [dC (.str "queue")]), .d (dVar 1), .d (dC (.int 7))])])) (b_law_drawn_form_3)
def b_law_drawn_form : DS := sSeq (sIf (dTst (dBin gtD (dCall sp_law_takeW [.io 0, .d (dC (.int 3))]) (dC (.int 0)))) (sSeq (sRet (dCall sp_law_planted_form [.io 0, .d (dVar 1)])) sNil) (sNil)) (b_law_drawn_form_4)
theorem d_law_drawn_form {P : Program} {w : World} {K : PySem.W.Frag} {mg : Str → Option Value} {base : Heap} {f : Addr} {fd : FuncData} (F : Fun K "_law_drawn_form" "_law_drawn_form" s_law_drawn_form f fd) (G : Tops P w K mg base) (c_law_take : Cal P w K mg base "_law_take" 1 [.io, .d] sp_law_takeW) (c_law_planted_form : Cal P w K mg base "_law_planted_form" 3 [.io, .d] sp_law_planted_form) (c_law_form : Cal P w K mg base "_law_form" 2 [.d] sp_law_form) (c_law_row : Cal P w K mg base "_law_row" 4 [.io, .d, .d, .d] sp_law_row) (c_law_contents : Cal P w K mg base "_law_contents" 3 [.io, .d, .d] sp_law_contents)
    (cdv : Value) (A : Around) (outer : List PySem.Env) (s : Shared) (H : Hp) (E : XK) (gd : Gd (cxB P w K mg base ["_law_source", "_law_letters_here", "_law_form_here", "_law_box"] "_law_drawn_form" s_law_drawn_form f cdv A outer s H E) (wB E) 4) : JSs (cxB P w K mg base ["_law_source", "_law_letters_here", "_law_form_here", "_law_box"] "_law_drawn_form" s_law_drawn_form f cdv A outer s H E) (wB E) (defBody s_law_drawn_form) (b_law_drawn_form) :=
  (js_cons (js_if (j_cmpT o_gt (j_call (ts := [.io 0, .d (dC (.int 3))]) c_law_take gd (by decide) (by rfl) (ja_io 0 (pv 0) (ja_d j_int ja_nil))) j_int) (js_cons (js_ret (j_call (ts := [.io 0, .d (dVar 1)]) c_law_planted_form gd (by decide) (by rfl) (ja_io 0 (pv 0) (ja_d (j_var 1 (pv 1)) ja_nil)))) js_nil) js_nil) (js_cons (js_set 2 (fun te h => ps_set gd.nd rfl (by first | exact Or.inl rfl | exact Or.inr rfl) h) (j_call (ts := [.d (dCall sp_law_row [.io 0, .d (dTup [dC (.str "queue")]), .d (dVar 1), .d (dC (.int 7))])]) c_law_form gd (by decide) (by rfl) (ja_d (j_call (ts := [.io 0, .d (dTup [dC (.str "queue")]), .d (dVar 1), .d (dC (.int 7))]) c_law_row gd (by decide) (by rfl) (ja_io 0 (pv 0) (ja_d (j_tup (ts := [dC (.str "queue")]) (ja_d j_str ja_nil)) (ja_d (j_var 1 (pv 1)) (ja_d j_int ja_nil))))) ja_nil))) (js_cons (js_set 3 (fun te h => ps_set gd.nd rfl (by first | exact Or.inl rfl | exact Or.inr rfl) h) (j_call (ts := [.io 0, .d (dTup [dC (.str "queue")]), .d (dVar 1)]) c_law_contents gd (by decide) (by rfl) (ja_io 0 (pv 0) (ja_d (j_tup (ts := [dC (.str "queue")]) (ja_d j_str ja_nil)) (ja_d (j_var 1 (pv 1)) ja_nil))))) (js_cons (js_if (j_cmpT (o_eq gd.u64) (j_call (ts := [.io 0, .d (dC (.int 2))]) c_law_take gd (by decide) (by rfl) (ja_io 0 (pv 0) (ja_d j_int ja_nil))) j_int) (js_cons (js_set 3 (fun te h => ps_set gd.nd rfl (by first | exact Or.inl rfl | exact Or.inr rfl) h) (j_sl (j_bin o_mulT (j_ix (j_var 2 (pv 2)) j_int) j_int) jo_none (jo_some (j_call (ts := [.io 0, .d (dC (.int 6))]) c_law_take gd (by decide) (by rfl) (ja_io 0 (pv 0) (ja_d j_int ja_nil)))))) js_nil) js_nil) (js_cons (js_ret (JN.je (jn_lst (ts := [dVar 2, dVar 3]) (ja_d (j_var 2 (pv 2)) (ja_d (j_var 3 (pv 3)) ja_nil))))) js_nil)))))
abbrev s_law_rest_begins : Stmt := top 41
theorem sc_law_rest_begins : FnScope ["_law_u", "_law_v", "_law_k", "_law_many", "_law_left", "_law_far", "_law_at"] ["_law_u", "_law_v", "_law_k", "_law_many"] (defScope s_law_rest_begins) := ⟨rfl, rfl, rfl, by decide +kernel, rfl, by decide +kernel, by decide +kernel⟩
def b_law_rest_begins_1 : DS := sSeq (sRet (dBin eqD (dLc [6] (iR1 (dVar 5)) (gN 6) (dTst (dBin neD (dIx (dVar 0) (dBin modD (dCB intD [dBin addD (dVar 2) (dVar 6)]) (dCB lenD [dVar 0]))) (dIx (dVar 1) (dBin modD (dCB intD [dVar 6]) (dCB lenD [dVar 1]))))) (dVar 6)) (dLst []))) sNil
def b_law_rest_begins_2 : DS := sSeq (sSet 5 (dCB minD [dCB intD [dVar 4], dBin mulD (dCB lenD [dVar 0]) (dCB maxD [dC (.int 1), dCB lenD [dVar 1]])])) (b_law_rest_begins_1)
def b_law_rest_begins_3 : DS := sSeq (sIf (dTst (dBin gtD (dVar 4) (dBin mulD (dCB lenD [dVar 1]) (dVar 3)))) (sSeq (sRet (dC (.bool false))) sNil) (sNil)) (b_law_rest_begins_2)
def b_law_rest_begins : DS := sSeq (sSet 4 (dBin subD (dBin mulD (dCB lenD [dVar 0]) (dVar 3)) (dVar 2))) (b_law_rest_begins_3)
theorem d_law_rest_begins {P : Program} {w : World} {K : PySem.W.Frag} {mg : Str → Option Value} {base : Heap} {f : Addr} {fd : FuncData} (F : Fun K "_law_rest_begins" "_law_rest_begins" s_law_rest_begins f fd) (G : Tops P w K mg base)
    (cdv : Value) (A : Around) (outer : List PySem.Env) (s : Shared) (H : Hp) (E : XK) (gd : Gd (cxB P w K mg base ["_law_u", "_law_v", "_law_k", "_law_many", "_law_left", "_law_far", "_law_at"] "_law_rest_begins" s_law_rest_begins f cdv A outer s H E) (wB E) 0) : JSs (cxB P w K mg base ["_law_u", "_law_v", "_law_k", "_law_many", "_law_left", "_law_far", "_law_at"] "_law_rest_begins" s_law_rest_begins f cdv A outer s H E) (wB E) (defBody s_law_rest_begins) (b_law_rest_begins) :=
  (js_cons (js_set 4 (fun te h => ps_set gd.nd rfl (by first | exact Or.inl rfl | exact Or.inr rfl) h) (j_bin o_sub (j_bin o_mul (j_callB (ts := [dVar 0]) c_len (by rfl) G.b_len (by decide +kernel) (ja_d (j_var 0 (pv 0)) ja_nil)) (j_var 3 (pv 3))) (j_var 2 (pv 2)))) (js_cons (js_if (j_cmpT o_gt (j_var 4 (pv 4)) (j_bin o_mul (j_callB (ts := [dVar 1]) c_len (by rfl) G.b_len (by decide +kernel) (ja_d (j_var 1 (pv 1)) ja_nil)) (j_var 3 (pv 3)))) (js_cons (js_ret j_bl) js_nil) js_nil) (js_cons (js_set 5 (fun te h => ps_set gd.nd rfl (by first | exact Or.inl rfl | exact Or.inr rfl) h) (j_callB (ts := [dCB intD [dVar 4], dBin mulD (dCB lenD [dVar 0]) (dCB maxD [dC (.int 1), dCB lenD [dVar 1]])]) (c_min gd.calm) (by rfl) G.b_min (by decide +kernel) (ja_d (j_callTy (ts := [dVar 4]) c_int (by rfl) G.b_int (by decide +kernel) (ja_d (j_var 4 (pv 4)) ja_nil)) (ja_d (j_bin o_mul (j_callB (ts := [dVar 0]) c_len (by rfl) G.b_len (by decide +kernel) (ja_d (j_var 0 (pv 0)) ja_nil)) (j_callB (ts := [dC (.int 1), dCB lenD [dVar 1]]) (c_max gd.calm) (by rfl) G.b_max (by decide +kernel) (ja_d j_int (ja_d (j_callB (ts := [dVar 1]) c_len (by rfl) G.b_len (by decide +kernel) (ja_d (j_var 1 (pv 1)) ja_nil)) ja_nil)))) ja_nil)))) (js_cons (js_ret (j_cmp (o_eq gd.u64) (JN.je (jn_lc (own := [("_law_at", 6)]) gd (by rfl) (ji_range1 (by rfl) G.b_range (j_var 5 (pv 5))) (fun _ _ _ _ _ => (jgo_name 6 (pg_name (i := 6) gd.blk.nd rfl (by first | exact Or.inl rfl | exact Or.inr rfl)) (by decide))) (fun _ _ _ _ _ => (jts_one (j_cmpT (o_ne gd.blk.u64) (j_ix (j_var 0 (pv 0)) (j_bin o_mod (j_callTy (ts := [dBin addD (dVar 2) (dVar 6)]) c_int (by rfl) G.b_int (by decide +kernel) (ja_d (j_bin o_add (j_var 2 (pv 2)) (j_var 6 (pv 6))) ja_nil)) (j_callB (ts := [dVar 0]) c_len (by rfl) G.b_len (by decide +kernel) (ja_d (j_var 0 (pv 0)) ja_nil)))) (j_ix (j_var 1 (pv 1)) (j_bin o_mod (j_callTy (ts := [dVar 6]) c_int (by rfl) G.b_int (by decide +kernel) (ja_d (j_var 6 (pv 6)) ja_nil)) (j_callB (ts := [dVar 1]) c_len (by rfl) G.b_len (by decide +kernel) (ja_d (j_var 1 (pv 1)) ja_nil))))))) (fun _ _ _ _ _ => (j_var 6 (pv 6))))) (JN.je (jn_lst (ts := []) ja_nil)))) js_nil))))
abbrev s_law_great_least : Stmt := top 42
theorem sc_law_great_least : FnScope ["_law_form_here", "_law_many", "_law_u", "_law_v", "_law_least", "_law_low", "_law_top", "_law_near", "_law_k", "_law_at"] ["_law_form_here", "_law_many"] (defScope s_law_great_least) := ⟨rfl, rfl, rfl, by decide +kernel, rfl, by decide +kernel, by decide +kernel⟩
def b_law_great_least_1 : DS := sSeq (sRet (dVar 6)) sNil
def b_law_great_least_2 : DS := sSeq (sFor (iD (dVar 7)) (gN 8) (sSeq (sIf (dAndT (dTst (dChain leD leD (dVar 5) (dVar 8) (dVar 6))) (dOrT (dTst (dBin eqD (dVar 8) (dVar 6))) (dAndT (dTst (dBin neD (dVar 3) (dTup []))) (dTru (dCall sp_law_rest_begins [.d (dVar 2), .d (dVar 3), .d (dVar 8), .d (dVar 1)]))))) (sSeq (sRet (dVar 8)) sNil) (sNil)) sNil)) (b_law_great_least_1)
def b_law_great_least_3 : DS := sSeq (sSet 7 (dBin addD (dLc [9] (iR1 (dBin addD (dCB lenD [dVar 2]) (dC (.int 1)))) (gN 9) (dYes) (dBin addD (dVar 5) (dVar 9))) (dRevL (dLc [9] (iR1 (dBin addD (dBin mulD (dCB lenD [dVar 2]) (dCB lenD [dVar 3])) (dC (.int 2)))) (gN 9) (dYes) (dBin subD (dVar 6) (dVar 9)))))) (b_law_great_least_2)
def b_law_great_least_4 : DS := sSeq (sSet 6 (dBin mulD (dCB lenD [dVar 2]) (dVar 1))) (b_law_great_least_3)
def b_law_great_least_5 : DS := sSeq (sSet 5 (dCB maxD [dCB intD [dVar 4], dCB intD [dBin addD (dVar 4) (dBin mulD (dBin subD (dVar 1) (dC (.int 1))) (dBin subD (dCB lenD [dVar 2]) (dCB lenD [dVar 3])))]])) (b_law_great_least_4)
def b_law_great_least : DS := sSeq (sAsg (dVar 0) (gTp 3 (gsCons (gN 2) (gsCons (gN 3) (gsCons (gN 4) (gsNil)))))) (b_law_great_least_5)
theorem d_law_great_least {P : Program} {w : World} {K : PySem.W.Frag} {mg : Str → Option Value} {base : Heap} {f : Addr} {fd : FuncData} (F : Fun K "_law_great_least" "_law_great_least" s_law_great_least f fd) (G : Tops P w K mg base) (c_law_rest_begins : Cal P w K mg base "_law_rest_begins" 1 [.d, .d, .d, .d] sp_law_rest_begins)
    (cdv : Value) (A : Around) (outer : List PySem.Env) (s : Shared) (H : Hp) (E : XK) (gd : Gd (cxB P w K mg base ["_law_form_here", "_law_many", "_law_u", "_law_v", "_law_least", "_law_low", "_law_top", "_law_near", "_law_k", "_law_at"] "_law_great_least" s_law_great_least f cdv A outer s H E) (wB E) 1) : JSs (cxB P w K mg base ["_law_form_here", "_law_many", "_law_u", "_law_v", "_law_least", "_law_low", "_law_top", "_law_near", "_law_k", "_law_at"] "_law_great_least" s_law_great_least f cdv A outer s H E) (wB E) (defBody s_law_great_least) (b_law_great_least) :=
  (js_cons (js_asg (j_var 0 (pv 0)) (jg_tup gd.calm (jgs_cons (jg_name 2 (pg_name (i := 2) gd.nd rfl (by first | exact Or.inl rfl | exact Or.inr rfl))) (jgs_cons (jg_name 3 (pg_name (i := 3) gd.nd rfl (by first | exact Or.inl rfl | exact Or.inr rfl))) (jgs_cons (jg_name 4 (pg_name (i := 4) gd.nd rfl (by first | exact Or.inl rfl | exact Or.inr rfl))) jgs_nil))))) (js_cons (js_set 5 (fun te h => ps_set gd.nd rfl (by first | exact Or.inl rfl | exact Or.inr rfl) h) (j_callB (ts := [dCB intD [dVar 4], dCB intD [dBin addD (dVar 4) (dBin mulD (dBin subD (dVar 1) (dC (.int 1))) (dBin subD (dCB lenD [dVar 2]) (dCB lenD [dVar 3])))]]) (c_max gd.calm) (by rfl) G.b_max (by decide +kernel) (ja_d (j_callTy (ts := [dVar 4]) c_int (by rfl) G.b_int (by decide +kernel) (ja_d (j_var 4 (pv 4)) ja_nil)) (ja_d (j_callTy (ts := [dBin addD (dVar 4) (dBin mulD (dBin subD (dVar 1) (dC (.int 1))) (dBin subD (dCB lenD [dVar 2]) (dCB lenD [dVar 3])))]) c_int (by rfl) G.b_int (by decide +kernel) (ja_d (j_bin o_add (j_var 4 (pv 4)) (j_bin o_mul (j_bin o_sub (j_var 1 (pv 1)) j_int) (j_bin o_sub (j_callB (ts := [dVar 2]) c_len (by rfl) G.b_len (by decide +kernel) (ja_d (j_var 2 (pv 2)) ja_nil)) (j_callB (ts := [dVar 3]) c_len (by rfl) G.b_len (by decide +kernel) (ja_d (j_var 3 (pv 3)) ja_nil))))) ja_nil)) ja_nil)))) (js_cons (js_set 6 (fun te h => ps_set gd.nd rfl (by first | exact Or.inl rfl | exact Or.inr rfl) h) (j_bin o_mul (j_callB (ts := [dVar 2]) c_len (by rfl) G.b_len (by decide +kernel) (ja_d (j_var 2 (pv 2)) ja_nil)) (j_var 1 (pv 1)))) (js_cons (js_set 7 (fun te h => ps_set gd.nd rfl (by first | exact Or.inl rfl | exact Or.inr rfl) h) (j_bin o_add (JN.je (jn_lc (own := [("_law_at", 9)]) gd (by rfl) (ji_range1 (by rfl) G.b_range (j_bin o_add (j_callB (ts := [dVar 2]) c_len (by rfl) G.b_len (by decide +kernel) (ja_d (j_var 2 (pv 2)) ja_nil)) j_int)) (fun _ _ _ _ _ => (jgo_name 9 (pg_name (i := 9) gd.blk.nd rfl (by first | exact Or.inl rfl | exact Or.inr rfl)) (by decide))) (fun _ _ _ _ _ => jts_nil) (fun _ _ _ _ _ => (j_bin o_add (j_var 5 (pv 5)) (j_var 9 (pv 9)))))) (JN.je (jn_revL (JN.je (jn_lc (own := [("_law_at", 9)]) gd (by rfl) (ji_range1 (by rfl) G.b_range (j_bin o_add (j_bin o_mul (j_callB (ts := [dVar 2]) c_len (by rfl) G.b_len (by decide +kernel) (ja_d (j_var 2 (pv 2)) ja_nil)) (j_callB (ts := [dVar 3]) c_len (by rfl) G.b_len (by decide +kernel) (ja_d (j_var 3 (pv 3)) ja_nil))) j_int)) (fun _ _ _ _ _ => (jgo_name 9 (pg_name (i := 9) gd.blk.nd rfl (by first | exact Or.inl rfl | exact Or.inr rfl)) (by decide))) (fun _ _ _ _ _ => jts_nil) (fun _ _ _ _ _ => (j_bin o_sub (j_var 6 (pv 6)) (j_var 9 (pv 9)))))))))) (js_cons (js_for gd (ji_seq (j_var 7 (pv 7))) (jg_name 8 (pg_name (i := 8) gd.nd rfl (by first | exact Or.inl rfl | exact Or.inr rfl))) (js_cons (js_if (JW.jt (j_andT (j_chainT o_le o_le (j_var 5 (pv 5)) (j_var 8 (pv 8)) (j_var 6 (pv 6))) (j_and1 (JW.jt (j_orT (j_cmpT (o_eq gd.u64) (j_var 8 (pv 8)) (j_var 6 (pv 6))) (j_or1 (JW.jt (j_andT (j_cmpT (o_ne gd.u64) (j_var 3 (pv 3)) (j_tup (ts := []) ja_nil)) (j_and1 (j_tru (j_call (ts := [.d (dVar 2), .d (dVar 3), .d (dVar 8), .d (dVar 1)]) c_law_rest_begins gd (by decide) (by rfl) (ja_d (j_var 2 (pv 2)) (ja_d (j_var 3 (pv 3)) (ja_d (j_var 8 (pv 8)) (ja_d (j_var 1 (pv 1)) ja_nil))))))))))))))) (js_cons (js_ret (j_var 8 (pv 8))) js_nil) js_nil) js_nil)) (js_cons (js_ret (j_var 6 (pv 6))) js_nil))))))
abbrev s_law_same_words : Stmt := top 43
theorem sc_law_same_words : FnScope ["_law_one_here", "_law_times", "_law_other", "_law_more", "_law_far", "_law_at"] ["_law_one_here", "_law_times", "_law_other", "_law_more"] (defScope s_law_same_words) := ⟨rfl, rfl, rfl, by decide +kernel, rfl, by decide +kernel, by decide +kernel⟩
def b_law_same_words_1 : DS := sSeq (sRet (dBin eqD (dLc [5] (iR1 (dVar 4)) (gN 5) (dTst (dBin neD (dIx (dVar 0) (dBin modD (dCB intD [dVar 5]) (dCB lenD [dVar 0]))) (dIx (dVar 2) (dBin modD (dCB intD [dVar 5]) (dCB lenD [dVar 2]))))) (dVar 5)) (dLst []))) sNil
def b_law_same_words_2 : DS := sSeq (sSet 4 (dCB minD [dBin mulD (dCB lenD [dVar 0]) (dVar 1), dBin mulD (dCB lenD [dVar 0]) (dCB maxD [dC (.int 1), dCB lenD [dVar 2]])])) (b_law_same_words_1)
def b_law_same_words : DS := sSeq (sIf (dTst (dBin neD (dBin mulD (dCB lenD [dVar 0]) (dVar 1)) (dBin mulD (dCB lenD [dVar 2]) (dVar 3)))) (sSeq (sRet (dC (.bool false))) sNil) (sNil)) (b_law_same_words_2)
theorem d_law_same_words {P : Program} {w : World} {K : PySem.W.Frag} {mg : Str → Option Value} {base : Heap} {f : Addr} {fd : FuncData} (F : Fun K "_law_same_words" "_law_same_words" s_law_same_words f fd) (G : Tops P w K mg base)
    (cdv : Value) (A : Around) (outer : List PySem.Env) (s : Shared) (H : Hp) (E : XK) (gd : Gd (cxB P w K mg base ["_law_one_here", "_law_times", "_law_other", "_law_more", "_law_far", "_law_at"] "_law_same_words" s_law_same_words f cdv A outer s H E) (wB E) 0) : JSs (cxB P w K mg base ["_law_one_here", "_law_times", "_law_other", "_law_more", "_law_far", "_law_at"] "_law_same_words" s_law_same_words f cdv A outer s H E) (wB E) (defBody s_law_same_words) (b_law_same_words) :=
  (js_cons (js_if (j_cmpT (o_ne gd.u64) (j_bin o_mul (j_callB (ts := [dVar 0]) c_len (by rfl) G.b_len (by decide +kernel) (ja_d (j_var 0 (pv 0)) ja_nil)) (j_var 1 (pv 1))) (j_bin o_mul (j_callB (ts := [dVar 2]) c_len (by rfl) G.b_len (by decide +kernel) (ja_d (j_var 2 (pv 2)) ja_nil)) (j_var 3 (pv 3)))) (js_cons (js_ret j_bl) js_nil) js_nil) (js_cons (js_set 4 (fun te h => ps_set gd.nd rfl (by first | exact Or.inl rfl | exact Or.inr rfl) h) (j_callB (ts := [dBin mulD (dCB lenD [dVar 0]) (dVar 1), dBin mulD (dCB lenD [dVar 0]) (dCB maxD [dC (.int 1), dCB lenD [dVar 2]])]) (c_min gd.calm) (by rfl) G.b_min (by decide +kernel) (ja_d (j_bin o_mul (j_callB (ts := [dVar 0]) c_len (by rfl) G.b_len (by decide +kernel) (ja_d (j_var 0 (pv 0)) ja_nil)) (j_var 1 (pv 1))) (ja_d (j_bin o_mul (j_callB (ts := [dVar 0]) c_len (by rfl) G.b_len (by decide +kernel) (ja_d (j_var 0 (pv 0)) ja_nil)) (j_callB (ts := [dC (.int 1), dCB lenD [dVar 2]]) (c_max gd.calm) (by rfl) G.b_max (by decide +kernel) (ja_d j_int (ja_d (j_callB (ts := [dVar 2]) c_len (by rfl) G.b_len (by decide +kernel) (ja_d (j_var 2 (pv 2)) ja_nil)) ja_nil)))) ja_nil)))) (js_cons (js_ret (j_cmp (o_eq gd.u64) (JN.je (jn_lc (own := [("_law_at", 5)]) gd (by rfl) (ji_range1 (by rfl) G.b_range (j_var 4 (pv 4))) (fun _ _ _ _ _ => (jgo_name 5 (pg_name (i := 5) gd.blk.nd rfl (by first | exact Or.inl rfl | exact Or.inr rfl)) (by decide))) (fun _ _ _ _ _ => (jts_one (j_cmpT (o_ne gd.blk.u64) (j_ix (j_var 0 (pv 0)) (j_bin o_mod (j_callTy (ts := [dVar 5]) c_int (by rfl) G.b_int (by decide +kernel) (ja_d (j_var 5 (pv 5)) ja_nil)) (j_callB (ts := [dVar 0]) c_len (by rfl) G.b_len (by decide +kernel) (ja_d (j_var 0 (pv 0)) ja_nil)))) (j_ix (j_var 2 (pv 2)) (j_bin o_mod (j_callTy (ts := [dVar 5]) c_int (by rfl) G.b_int (by decide +kernel) (ja_d (j_var 5 (pv 5)) ja_nil)) (j_callB (ts := [dVar 2]) c_len (by rfl) G.b_len (by decide +kernel) (ja_d (j_var 2 (pv 2)) ja_nil))))))) (fun _ _ _ _ _ => (j_var 5 (pv 5))))) (JN.je (jn_lst (ts := []) ja_nil)))) js_nil)))
abbrev s_law_alike : Stmt := top 44
theorem sc_law_alike : FnScope ["_law_one_here", "_law_times", "_law_other", "_law_more", "_law_k"] ["_law_one_here", "_law_times", "_law_other", "_law_more"] (defScope s_law_alike) := ⟨rfl, rfl, rfl, by decide +kernel, rfl, by decide +kernel, by decide +kernel⟩
def b_law_alike_1 : DS := sSeq (sRet (dBin eqD (dCall sp_law_great_least [.d (dVar 0), .d (dVar 1)]) (dCall sp_law_great_least [.d (dVar 2), .d (dVar 3)]))) sNil
def b_law_alike : DS := sSeq (sFor (iR1 (dC (.int 2))) (gN 4) (sSeq (sIf (dNotT (dTru (dCall sp_law_same_words [.d (dIx (dVar 0) (dVar 4)), .d (dVar 1), .d (dIx (dVar 2) (dVar 4)), .d (dVar 3)]))) (sSeq (sRet (dC (.bool false))) sNil) (sNil)) sNil)) (b_law_alike_1)
theorem d_law_alike {P : Program} {w : World} {K : PySem.W.Frag} {mg : Str → Option Value} {base : Heap} {f : Addr} {fd : FuncData} (F : Fun K "_law_alike" "_law_alike" s_law_alike f fd) (G : Tops P w K mg base) (c_law_same_words : Cal P w K mg base "_law_same_words" 1 [.d, .d, .d, .d] sp_law_same_words) (c_law_great_least : Cal P w K mg base "_law_great_least" 2 [.d, .d] sp_law_great_least)
    (cdv : Value) (A : Around) (outer : List PySem.Env) (s : Shared) (H : Hp) (E : XK) (gd : Gd (cxB P w K mg base ["_law_one_here", "_law_times", "_law_other", "_law_more", "_law_k"] "_law_alike" s_law_alike f cdv A outer s H E) (wB E) 2) : JSs (cxB P w K mg base ["_law_one_here", "_law_times", "_law_other", "_law_more", "_law_k"] "_law_alike" s_law_alike f cdv A outer s H E) (wB E) (defBody s_law_alike) (b_law_alike) :=
  (js_cons (js_for gd (ji_range1 (by rfl) G.b_range j_int) (jg_name 4 (pg_name (i := 4) gd.nd rfl (by first | exact Or.inl rfl | exact Or.inr rfl))) (js_cons (js_if (j_notT (j_tru (j_call (ts := [.d (dIx (dVar 0) (dVar 4)), .d (dVar 1), .d (dIx (dVar 2) (dVar 4)), .d (dVar 3)]) c_law_same_words gd (by decide) (by rfl) (ja_d (j_ix (j_var 0 (pv 0)) (j_var 4 (pv 4))) (ja_d (j_var 1 (pv 1)) (ja_d (j_ix (j_var 2 (pv 2)) (j_var 4 (pv 4))) (ja_d (j_var 3 (pv 3)) ja_nil))))))) (js_cons (js_ret j_bl) js_nil) js_nil) js_nil)) (js_cons (js_ret (j_cmp (o_eq gd.u64) (j_call (ts := [.d (dVar 0), .d (dVar 1)]) c_law_great_least gd (by decide) (by rfl) (ja_d (j_var 0 (pv 0)) (ja_d (j_var 1 (pv 1)) ja_nil))) (j_call (ts := [.d (dVar 2), .d (dVar 3)]) c_law_great_least gd (by decide) (by rfl) (ja_d (j_var 2 (pv 2)) (ja_d (j_var 3 (pv 3)) ja_nil))))) js_nil))
abbrev s_law_written : Stmt := top 45
theorem sc_law_written : FnScope ["_law_form_here", "_law_many", "_law_u", "_law_v", "_law_least", "_law_low"] ["_law_form_here", "_law_many"] (defScope s_law_written) := ⟨rfl, rfl, rfl, by decide +kernel, rfl, by decide +kernel, by decide +kernel⟩
def b_law_written_1 : DS := sSeq (sRet (dTup [dBin mulTD (dVar 2) (dVar 1), dBin mulTD (dVar 3) (dVar 1), dCall sp_law_normal [.d (dBin mulTD (dVar 2) (dVar 1)), .d (dBin mulTD (dVar 3) (dVar 1)), .d (dVar 5)]])) sNil
def b_law_written_2 : DS := sSeq (sSet 5 (dCB maxD [dCB intD [dVar 4], dCB intD [dBin addD (dVar 4) (dBin mulD (dBin subD (dVar 1) (dC (.int 1))) (dBin subD (dCB lenD [dVar 2]) (dCB lenD [dVar 3])))]])) (b_law_written_1)
def b_law_written : DS := sSeq (sAsg (dVar 0) (gTp 3 (gsCons (gN 2) (gsCons (gN 3) (gsCons (gN 4) (gsNil)))))) (b_law_written_2)
theorem d_law_written {P : Program} {w : World} {K : PySem.W.Frag} {mg : Str → Option Value} {base : Heap} {f : Addr} {fd : FuncData} (F : Fun K "_law_written" "_law_written" s_law_written f fd) (G : Tops P w K mg base) (c_law_normal : Cal P w K mg base "_law_normal" 1 [.d, .d, .d] sp_law_normal)
    (cdv : Value) (A : Around) (outer : List PySem.Env) (s : Shared) (H : Hp) (E : XK) (gd : Gd (cxB P w K mg base ["_law_form_here", "_law_many", "_law_u", "_law_v", "_law_least", "_law_low"] "_law_written" s_law_written f cdv A outer s H E) (wB E) 1) : JSs (cxB P w K mg base ["_law_form_here", "_law_many", "_law_u", "_law_v", "_law_least", "_law_low"] "_law_written" s_law_written f cdv A outer s H E) (wB E) (defBody s_law_written) (b_law_written) :=
  (js_cons (js_asg (j_var 0 (pv 0)) (jg_tup gd.calm (jgs_cons (jg_name 2 (pg_name (i := 2) gd.nd rfl (by first | exact Or.inl rfl | exact Or.inr rfl))) (jgs_cons (jg_name 3 (pg_name (i := 3) gd.nd rfl (by first | exact Or.inl rfl | exact Or.inr rfl))) (jgs_cons (jg_name 4 (pg_name (i := 4) gd.nd rfl (by first | exact Or.inl rfl | exact Or.inr rfl))) jgs_nil))))) (js_cons (js_set 5 (fun te h => ps_set gd.nd rfl (by first | exact Or.inl rfl | exact Or.inr rfl) h) (j_callB (ts := [dCB intD [dVar 4], dCB intD [dBin addD (dVar 4) (dBin mulD (dBin subD (dVar 1) (dC (.int 1))) (dBin subD (dCB lenD [dVar 2]) (dCB lenD [dVar 3])))]]) (c_max gd.calm) (by rfl) G.b_max (by decide +kernel) (ja_d (j_callTy (ts := [dVar 4]) c_int (by rfl) G.b_int (by decide +kernel) (ja_d (j_var 4 (pv 4)) ja_nil)) (ja_d (j_callTy (ts := [dBin addD (dVar 4) (dBin mulD (dBin subD (dVar 1) (dC (.int 1))) (dBin subD (dCB lenD [dVar 2]) (dCB lenD [dVar 3])))]) c_int (by rfl) G.b_int (by decide +kernel) (ja_d (j_bin o_add (j_var 4 (pv 4)) (j_bin o_mul (j_bin o_sub (j_var 1 (pv 1)) j_int) (j_bin o_sub (j_callB (ts := [dVar 2]) c_len (by rfl) G.b_len (by decide +kernel) (ja_d (j_var 2 (pv 2)) ja_nil)) (j_callB (ts := [dVar 3]) c_len (by rfl) G.b_len (by decide +kernel) (ja_d (j_var 3 (pv 3)) ja_nil))))) ja_nil)) ja_nil)))) (js_cons (js_ret (j_tup (ts := [dBin mulTD (dVar 2) (dVar 1), dBin mulTD (dVar 3) (dVar 1), dCall sp_law_normal [.d (dBin mulTD (dVar 2) (dVar 1)), .d (dBin mulTD (dVar 3) (dVar 1)), .d (dVar 5)]]) (ja_d (j_bin o_mulT (j_var 2 (pv 2)) (j_var 1 (pv 1))) (ja_d (j_bin o_mulT (j_var 3 (pv 3)) (j_var 1 (pv 1))) (ja_d (j_call (ts := [.d (dBin mulTD (dVar 2) (dVar 1)), .d (dBin mulTD (dVar 3) (dVar 1)), .d (dVar 5)]) c_law_normal gd (by decide) (by rfl) (ja_d (j_bin o_mulT (j_var 2 (pv 2)) (j_var 1 (pv 1))) (ja_d (j_bin o_mulT (j_var 3 (pv 3)) (j_var 1 (pv 1))) (ja_d (j_var 5 (pv 5)) ja_nil)))) ja_nil))))) js_nil)))
abbrev s_law_pair : Stmt := top 46
theorem sc_law_pair : FnScope ["_law_source", "_law_letters_here", "_law_form_here", "_law_box", "_law_way", "_law_other", "_law_low"] ["_law_source", "_law_letters_here"] (defScope s_law_pair) := ⟨rfl, rfl, rfl, by decide +kernel, rfl, by decide +kernel, by decide +kernel⟩
def b_law_pair_1 : DS := sSeq (sSet 5 (dBin addD (dSl (dVar 5) (dNo) (dSo (dC (.int 2)))) (dTup [dCall sp_law_normal [.d (dIx (dVar 5) (dC (.int 0))), .d (dIx (dVar 5) (dC (.int 1))), .d (dVar 6)]]))) sNil
def b_law_pair_2 : DS := sSeq (sSet 6 (dBin addD (dVar 6) (dCall sp_law_takeW [.io 0, .d (dBin addD (dBin subD (dCB lenD [dIx (dVar 5) (dC (.int 0))]) (dVar 6)) (dC (.int 1)))]))) (b_law_pair_1)
def b_law_pair_3 : DS := sSeq (sRet (dLst [dVar 2, dVar 5])) sNil
def b_law_pair_4 : DS := sSeq (sIf (dAndT (dTst (dBin eqD (dVar 4) (dC (.int 2)))) (dTst (dBin neD (dIx (dVar 5) (dC (.int 0))) (dTup [])))) (sSeq (sSet 6 (dCB maxD [dC (.int 0), dBin subD (dCB lenD [dIx (dVar 5) (dC (.int 0))]) (dCB lenD [dIx (dVar 5) (dC (.int 1))])])) (b_law_pair_2)) (sNil)) (b_law_pair_3)
def b_law_pair_5 : DS := sSeq (sSet 5 (dCall sp_law_written [.d (dVar 2), .d (dBin addD (dC (.int 1)) (dCall sp_law_takeW [.io 0, .d (dC (.int 3))]))])) (b_law_pair_4)
def b_law_pair_6 : DS := sSeq (sIf (dTst (dBin eqD (dVar 4) (dC (.int 3)))) (sSeq (sRet (dLst [dVar 2, dIx (dCall sp_law_drawn_form [.io 0, .d (dVar 1)]) (dC (.int 0))])) sNil) (sNil)) (b_law_pair_5)
def b_law_pair_7 : DS := sSeq (sSet 4 (dCall sp_law_takeW [.io 0, .d (dC (.int 4))])) (b_law_pair_6)
def b_law_pair : DS := sSeq (sAsg (dCall sp_law_drawn_form [.io 0, .d (dVar 1)]) (gLs 2 (gsCons (gN 2) (gsCons (gN 3) (gsNil))))) (b_law_pair_7)
theorem d_law_pair {P : Program} {w : World} {K : PySem.W.Frag} {mg : Str → Option Value} {base : Heap} {f : Addr} {fd : FuncData} (F : Fun K "_law_pair" "_law_pair" s_law_pair f fd) (G : Tops P w K mg base) (c_law_drawn_form : Cal P w K mg base "_law_drawn_form" 5 [.io, .d] sp_law_drawn_form) (c_law_take : Cal P w K mg base "_law_take" 1 [.io, .d] sp_law_takeW) (c_law_written : Cal P w K mg base "_law_written" 2 [.d, .d] sp_law_written) (c_law_normal : Cal P w K mg base "_law_normal" 1 [.d, .d, .d] sp_law_normal)
    (cdv : Value) (A : Around) (outer : List PySem.Env) (s : Shared) (H : Hp) (E : XK) (gd : Gd (cxB P w K mg base ["_law_source", "_law_letters_here", "_law_form_here", "_law_box", "_law_way", "_law_other", "_law_low"] "_law_pair" s_law_pair f cdv A outer s H E) (wB E) 5) : JSs (cxB P w K mg base ["_law_source", "_law_letters_here", "_law_form_here", "_law_box", "_law_way", "_law_other", "_law_low"] "_law_pair" s_law_pair f cdv A outer s H E) (wB E) (defBody s_law_pair) (b_law_pair) :=
  (js_cons (js_asg (j_call (ts := [.io 0, .d (dVar 1)]) c_law_drawn_form gd (by decide) (by rfl) (ja_io 0 (pv 0) (ja_d (j_var 1 (pv 1)) ja_nil))) (jg_lst gd.calm (jgs_cons (jg_name 2 (pg_name (i := 2) gd.nd rfl (by first | exact Or.inl rfl | exact Or.inr rfl))) (jgs_cons (jg_name 3 (pg_name (i := 3) gd.nd rfl (by first | exact Or.inl rfl | exact Or.inr rfl))) jgs_nil)))) (js_cons (js_set 4 (fun te h => ps_set gd.nd rfl (by first | exact Or.inl rfl | exact Or.inr rfl) h) (j_call (ts := [.io 0, .d (dC (.int 4))]) c_law_take gd (by decide) (by rfl) (ja_io 0 (pv 0) (ja_d j_int ja_nil)))) (js_cons (js_if (j_cmpT (o_eq gd.u64) (j_var 4 (pv 4)) j_int) (js_cons (js_ret (JN.je (jn_lst (ts := [dVar 2, dIx (dCall sp_law_drawn_form [.io 0, .d (dVar 1)]) (dC (.int 0))]) (ja_d (j_var 2 (pv 2)) (ja_d (j_ix (j_call (ts := [.io 0, .d (dVar 1)]) c_law_drawn_form gd (by decide) (by rfl) (ja_io 0 (pv 0) (ja_d (j_var 1 (pv 1)) ja_nil))) j_int) ja_nil))))) js_nil) js_nil) (js_cons (js_set 5 (fun te h => ps_set gd.nd rfl (by first | exact Or.inl rfl | exact Or.inr rfl) h) (j_call (ts := [.d (dVar 2), .d (dBin addD (dC (.int 1)) (dCall sp_law_takeW [.io 0, .d (dC (.int 3))]))]) c_law_written gd (by decide) (by rfl) (ja_d (j_var 2 (pv 2)) (ja_d (j_bin o_add j_int (j_call (ts := [.io 0, .d (dC (.int 3))]) c_law_take gd (by decide) (by rfl) (ja_io 0 (pv 0) (ja_d j_int ja_nil)))) ja_nil)))) (js_cons (js_if (JW.jt (j_andT (j_cmpT (o_eq gd.u64) (j_var 4 (pv 4)) j_int) (j_and1 (j_cmpT (o_ne gd.u64) (j_ix (j_var 5 (pv 5)) j_int) (j_tup (ts := []) ja_nil))))) (js_cons (js_set 6 (fun te h => ps_set gd.nd rfl (by first | exact Or.inl rfl | exact Or.inr rfl) h) (j_callB (ts := [dC (.int 0), dBin subD (dCB lenD [dIx (dVar 5) (dC (.int 0))]) (dCB lenD [dIx (dVar 5) (dC (.int 1))])]) (c_max gd.calm) (by rfl) G.b_max (by decide +kernel) (ja_d j_int (ja_d (j_bin o_sub (j_callB (ts := [dIx (dVar 5) (dC (.int 0))]) c_len (by rfl) G.b_len (by decide +kernel) (ja_d (j_ix (j_var 5 (pv 5)) j_int) ja_nil)) (j_callB (ts := [dIx (dVar 5) (dC (.int 1))]) c_len (by rfl) G.b_len (by decide +kernel) (ja_d (j_ix (j_var 5 (pv 5)) j_int) ja_nil))) ja_nil)))) (js_cons (js_set 6 (fun te h => ps_set gd.nd rfl (by first | exact Or.inl rfl | exact Or.inr rfl) h) (j_bin o_add (j_var 6 (pv 6)) (j_call (ts := [.io 0, .d (dBin addD (dBin subD (dCB lenD [dIx (dVar 5) (dC (.int 0))]) (dVar 6)) (dC (.int 1)))]) c_law_take gd (by decide) (by rfl) (ja_io 0 (pv 0) (ja_d (j_bin o_add (j_bin o_sub (j_callB (ts := [dIx (dVar 5) (dC (.int 0))]) c_len (by rfl) G.b_len (by decide +kernel) (ja_d (j_ix (j_var 5 (pv 5)) j_int) ja_nil)) (j_var 6 (pv 6))) j_int) ja_nil))))) (js_cons (js_set 5 (fun te h => ps_set gd.nd rfl (by first | exact Or.inl rfl | exact Or.inr rfl) h) (j_bin o_add (j_sl (j_var 5 (pv 5)) jo_none (jo_some j_int)) (j_tup (ts := [dCall sp_law_normal [.d (dIx (dVar 5) (dC (.int 0))), .d (dIx (dVar 5) (dC (.int 1))), .d (dVar 6)]]) (ja_d (j_call (ts := [.d (dIx (dVar 5) (dC (.int 0))), .d (dIx (dVar 5) (dC (.int 1))), .d (dVar 6)]) c_law_normal gd (by decide) (by rfl) (ja_d (j_ix (j_var 5 (pv 5)) j_int) (ja_d (j_ix (j_var 5 (pv 5)) j_int) (ja_d (j_var 6 (pv 6)) ja_nil)))) ja_nil)))) js_nil))) js_nil) (js_cons (js_ret (JN.je (jn_lst (ts := [dVar 2, dVar 5]) (ja_d (j_var 2 (pv 2)) (ja_d (j_var 5 (pv 5)) ja_nil))))) js_nil))))))
abbrev s_law_heard : Stmt := top 47
theorem sc_law_heard : FnScope ["_law_call", "e"] ["_law_call"] (defScope s_law_heard) := ⟨rfl, rfl, rfl, by decide +kernel, rfl, by decide +kernel, by decide +kernel⟩
def b_law_heard (act : DE) : DS := sSeq (sTryN apCs [⟨"NoForm", 1, fun o => sSeq (sRet (dTup [dC (.str "form"), dXf o 1 "told"])) sNil⟩, ⟨"NoCount", 1, fun o => sSeq (sRet (dTup [dC (.str "times"), dXf o 1 "told"])) sNil⟩] (sSeq (sRet (dTup [dC (.str "is"), act])) sNil)) sNil
theorem d_law_heard {P : Program} {w : World} {K : PySem.W.Frag} {mg : Str → Option Value} {base : Heap} {f : Addr} {fd : FuncData} (F : Fun K "_law_heard" "_law_heard" s_law_heard f fd) (G : Tops P w K mg base)
    (act : DE) (cdv : Value) (A : Around) (outer : List PySem.Env) (s : Shared) (H : Hp) (E : XK) (k : Nat) (ha : ∀ (pn : List (Addr × Obj)) (xe : Value → Shared → Prop) (W1 : WX) (p1 p2 : Pos), Gd ((cxB P w K mg base ["_law_call", "e"] "_law_heard" s_law_heard f cdv A outer s H E).tr pn xe) W1 k → JE ((cxB P w K mg base ["_law_call", "e"] "_law_heard" s_law_heard f cdv A outer s H E).tr pn xe) W1 (.Call (.Name "_law_call" p1) [] [] p2) act) (gd : Gd (cxB P w K mg base ["_law_call", "e"] "_law_heard" s_law_heard f cdv A outer s H E) (wB E) k) : JSs (cxB P w K mg base ["_law_call", "e"] "_law_heard" s_law_heard f cdv A outer s H E) (wB E) (defBody s_law_heard) (b_law_heard act) :=
  (js_cons (js_tryN G.ap gd (hb := fun W1 pn1 xe1 gd => (js_cons (js_ret (j_tup (ts := [dC (.str "is"), act]) (ja_d j_str (ja_d (ha _ _ _ _ _ gd) ja_nil)))) js_nil)) (hh := (.cons (i := 1) (m := "e") G.c_NoForm.gC (by simp) (by rfl) rfl rfl (by decide) (fun o oe pn hc hz hf => let hgu := gd.gu; let hu66 := gd.u66; (js_cons (js_ret (j_tup (ts := [dC (.str "form"), dXf o 1 "told"]) (ja_d j_str (ja_d (j_xfR G.c_NoForm.r G.c_NoForm.no hz hf (pv 1)) ja_nil)))) js_nil)) (.cons (i := 1) (m := "e") G.c_NoCount.gC (by simp) (by rfl) rfl rfl (by decide) (fun o oe pn hc hz hf => let hgu := gd.gu; let hu66 := gd.u66; (js_cons (js_ret (j_tup (ts := [dC (.str "times"), dXf o 1 "told"]) (ja_d j_str (ja_d (j_xfR G.c_NoCount.r G.c_NoCount.no hz hf (pv 1)) ja_nil)))) js_nil)) .nil)))) js_nil)
abbrev s_law : Stmt := top 48
theorem sc_law : FnScope ["_law_script", "_law_k", "_law_source", "_law_one_here", "_law_other", "_law_times", "_law_more", "_law_due", "_law_far", "_law_first", "_law_second", "_law_odd", "_law_told"] ["_law_script"] (defScope s_law) := ⟨rfl, rfl, rfl, by decide +kernel, rfl, by decide +kernel, by decide +kernel⟩
def b_law_1 : DS := sSeq (sIf (dTst (dBin neD (dCall sp_powers_alike [.d (dVar 3), .d (dVar 5), .d (dVar 4), .d (dVar 6)]) (dVar 7))) (sSeq (sRet (dC (.bool false))) sNil) (sNil)) sNil
def b_law_2 : DS := sSeq (sIf (dTst (dBin neD (dCall sp_power_least [.d (dVar 3), .d (dVar 9)]) (dCall sp_law_great_least [.d (dVar 3), .d (dVar 9)]))) (sSeq (sRet (dC (.bool false))) sNil) (sNil)) sNil
def b_law_3 : DS := sSeq (sKept 7 12 [(dTup [dC (.str "form"), dC .none], dCall sp_powers_alike [.d (dC .none), .d (dVar 11), .d (dC .none), .d (dVar 11)]), (dTup [dC (.str "times"), dVar 11], dCall sp_powers_alike [.d (dVar 3), .d (dVar 11), .d (dC .none), .d (dVar 11)]), (dTup [dC (.str "form"), dC (.int 5)], dCall sp_powers_alike [.d (dVar 3), .d (dC (.int 1)), .d (dC (.int 5)), .d (dVar 11)]), (dTup [dC (.str "times"), dVar 11], dCall sp_powers_alike [.d (dVar 3), .d (dC (.int 1)), .d (dVar 4), .d (dVar 11)])] (fun oK teK => sSeq (sIf (dTst (dBin neD (dKept oK 12 sp_law_heard teK) (dVar 7))) (sSeq (sRet (dC (.bool false))) sNil) (sNil)) sNil)) sNil
def b_law_4 : DS := sSeq (sSet 11 (dCall sp_law_one [.io 2, .d (dLst [dC (.int 0), dNeg (dC (.int 1)), dC .none, dC (.bool true), dBin addD (dBin powD (dC (.int 10)) (dC (.int 30))) (dC (.int 1))])])) (b_law_3)
def b_law_5 : DS := sSeq (sIf (dTst (dBin leD (dCB maxD [dCB intD [dVar 9], dCB intD [dVar 10]]) (dBin powD (dC (.int 10)) (dC (.int 30))))) (sSeq (sIf (dTst (dBin neD (dCall sp_powers_alike [.d (dVar 3), .d (dVar 9), .d (dVar 4), .d (dVar 10)]) (dCall sp_law_alike [.d (dVar 3), .d (dVar 9), .d (dVar 4), .d (dVar 10)]))) (sSeq (sRet (dC (.bool false))) sNil) (sNil)) (b_law_2)) (sNil)) (b_law_4)
def b_law_6 : DS := sSeq (sPar [9, 10] [.d (dBin mulD (dCB maxD [dC (.int 1), dCB lenD [dBin addD (dIx (dVar 4) (dC (.int 0))) (dIx (dVar 4) (dC (.int 1)))]]) (dVar 8)), .d (dBin mulD (dCB maxD [dC (.int 1), dCB lenD [dBin addD (dIx (dVar 3) (dC (.int 0))) (dIx (dVar 3) (dC (.int 1)))]]) (dVar 8))]) (b_law_5)
def b_law_7 : DS := sSeq (sSet 8 (dCall sp_law_one [.io 2, .d (dLst [dC (.int 7), dC (.int 1000), dBin powD (dC (.int 10)) (dC (.int 12)), dBin powD (dC (.int 10)) (dC (.int 29))])])) (b_law_6)
def b_law_8 : DS := sSeq (sFor (iR2 (dC (.int 1)) (dC (.int 4))) (gN 5) (sSeq (sFor (iR2 (dC (.int 1)) (dC (.int 4))) (gN 6) (sSeq (sSet 7 (dBin eqD (dCall sp_law_written [.d (dVar 3), .d (dVar 5)]) (dCall sp_law_written [.d (dVar 4), .d (dVar 6)]))) (b_law_1))) sNil)) (b_law_7)
def b_law_9 : DS := sSeq (sAsg (dCall sp_law_pair [.io 2, .d (dCall sp_law_letters [.io 2])]) (gLs 2 (gsCons (gN 3) (gsCons (gN 4) (gsNil))))) (b_law_8)
def b_law_10 : DS := sSeq (sRet (dC (.bool true))) sNil
def b_law : DS := sSeq (sFor (iR1 (dCB maxD [dC (.int 1), dCB minD [dC (.int 2), dLenP 0]])) (gN 1) (sSeq (sSetO 2 (dCall sp_law_pool [.ro 0, .d (dVar 1)])) (b_law_9))) (b_law_10)
theorem d_law {P : Program} {w : World} {K : PySem.W.Frag} {mg : Str → Option Value} {base : Heap} {f : Addr} {fd : FuncData} (F : Fun K "law" "law" s_law f fd) (G : Tops P w K mg base) (c_law_pool : CalN P w K mg base "_law_pool" 1 [.ro, .d] sp_law_pool) (c_law_pair : Cal P w K mg base "_law_pair" 6 [.io, .d] sp_law_pair) (c_law_letters : Cal P w K mg base "_law_letters" 3 [.io] sp_law_letters) (c_law_written : Cal P w K mg base "_law_written" 2 [.d, .d] sp_law_written) (c_powers_alike : Cal P w K mg base "powers_alike" 7 [.d, .d, .d, .d] sp_powers_alike) (c_law_one : Cal P w K mg base "_law_one" 2 [.io, .d] sp_law_one) (c_law_alike : Cal P w K mg base "_law_alike" 3 [.d, .d, .d, .d] sp_law_alike) (c_power_least : Cal P w K mg base "power_least" 7 [.d, .d] sp_power_least) (c_law_great_least : Cal P w K mg base "_law_great_least" 2 [.d, .d] sp_law_great_least) (c_law_heard : CalL P w K mg base "_law_heard" 0 sp_law_heard)
    (cdv : Value) (LA : LamAt K mg base "law" cdv) (A : Around) (outer : List PySem.Env) (s : Shared) (H : Hp) (E : XK) (gd : Gd (cxB P w K mg base ["_law_script", "_law_k", "_law_source", "_law_one_here", "_law_other", "_law_times", "_law_more", "_law_due", "_law_far", "_law_first", "_law_second", "_law_odd", "_law_told"] "law" s_law f cdv A outer s H E) (wB E) 9) : JSs (cxB P w K mg base ["_law_script", "_law_k", "_law_source", "_law_one_here", "_law_other", "_law_times", "_law_more", "_law_due", "_law_far", "_law_first", "_law_second", "_law_odd", "_law_told"] "law" s_law f cdv A outer s H E) (wB E) (defBody s_law) (b_law) :=
  (js_cons (js_for gd (ji_range1 (by rfl) G.b_range (j_callB (ts := [dC (.int 1), dCB minD [dC (.int 2), dLenP 0]]) (c_max gd.calm) (by rfl) G.b_max (by decide +kernel) (ja_d j_int (ja_d (j_callB (ts := [dC (.int 2), dLenP 0]) (c_min gd.calm) (by rfl) G.b_min (by decide +kernel) (ja_d j_int (ja_d (j_lenP 0 (by rfl) G.b_len (pv 0)) ja_nil))) ja_nil)))) (jg_name 1 (pg_name (i := 1) gd.nd rfl (by first | exact Or.inl rfl | exact Or.inr rfl))) (js_cons (js_setO 2 (fun te h => ps_set gd.nd rfl (by first | exact Or.inl rfl | exact Or.inr rfl) h) (jn_call (ts := [.ro 0, .d (dVar 1)]) c_law_pool gd (by decide) (by rfl) (ja_ro 0 (pv 0) (ja_d (j_var 1 (pv 1)) ja_nil)))) (js_cons (js_asg (j_call (ts := [.io 2, .d (dCall sp_law_letters [.io 2])]) c_law_pair gd (by decide) (by rfl) (ja_io 2 (pv 2) (ja_d (j_call (ts := [.io 2]) c_law_letters gd (by decide) (by rfl) (ja_io 2 (pv 2) ja_nil)) ja_nil))) (jg_lst gd.calm (jgs_cons (jg_name 3 (pg_name (i := 3) gd.nd rfl (by first | exact Or.inl rfl | exact Or.inr rfl))) (jgs_cons (jg_name 4 (pg_name (i := 4) gd.nd rfl (by first | exact Or.inl rfl | exact Or.inr rfl))) jgs_nil)))) (js_cons (js_for gd (ji_range2 (by rfl) G.b_range j_int j_int) (jg_name 5 (pg_name (i := 5) gd.nd rfl (by first | exact Or.inl rfl | exact Or.inr rfl))) (js_cons (js_for gd (ji_range2 (by rfl) G.b_range j_int j_int) (jg_name 6 (pg_name (i := 6) gd.nd rfl (by first | exact Or.inl rfl | exact Or.inr rfl))) (js_cons (js_set 7 (fun te h => ps_set gd.nd rfl (by first | exact Or.inl rfl | exact Or.inr rfl) h) (j_cmp (o_eq gd.u64) (j_call (ts := [.d (dVar 3), .d (dVar 5)]) c_law_written gd (by decide) (by rfl) (ja_d (j_var 3 (pv 3)) (ja_d (j_var 5 (pv 5)) ja_nil))) (j_call (ts := [.d (dVar 4), .d (dVar 6)]) c_law_written gd (by decide) (by rfl) (ja_d (j_var 4 (pv 4)) (ja_d (j_var 6 (pv 6)) ja_nil))))) (js_cons (js_if (j_cmpT (o_ne gd.u64) (j_call (ts := [.d (dVar 3), .d (dVar 5), .d (dVar 4), .d (dVar 6)]) c_powers_alike gd (by decide) (by rfl) (ja_d (j_var 3 (pv 3)) (ja_d (j_var 5 (pv 5)) (ja_d (j_var 4 (pv 4)) (ja_d (j_var 6 (pv 6)) ja_nil))))) (j_var 7 (pv 7))) (js_cons (js_ret j_bl) js_nil) js_nil) js_nil))) js_nil)) (js_cons (js_set 8 (fun te h => ps_set gd.nd rfl (by first | exact Or.inl rfl | exact Or.inr rfl) h) (j_call (ts := [.io 2, .d (dLst [dC (.int 7), dC (.int 1000), dBin powD (dC (.int 10)) (dC (.int 12)), dBin powD (dC (.int 10)) (dC (.int 29))])]) c_law_one gd (by decide) (by rfl) (ja_io 2 (pv 2) (ja_d (JN.je (jn_lst (ts := [dC (.int 7), dC (.int 1000), dBin powD (dC (.int 10)) (dC (.int 12)), dBin powD (dC (.int 10)) (dC (.int 29))]) (ja_d j_int (ja_d j_int (ja_d (j_bin o_pow j_int j_int) (ja_d (j_bin o_pow j_int j_int) ja_nil)))))) ja_nil)))) (js_cons (js_par 9 10 gd rfl rfl (jx_d (j_bin o_mul (j_callB (ts := [dC (.int 1), dCB lenD [dBin addD (dIx (dVar 4) (dC (.int 0))) (dIx (dVar 4) (dC (.int 1)))]]) (c_max gd.calm) (by rfl) G.b_max (by decide +kernel) (ja_d j_int (ja_d (j_callB (ts := [dBin addD (dIx (dVar 4) (dC (.int 0))) (dIx (dVar 4) (dC (.int 1)))]) c_len (by rfl) G.b_len (by decide +kernel) (ja_d (j_bin o_add (j_ix (j_var 4 (pv 4)) j_int) (j_ix (j_var 4 (pv 4)) j_int)) ja_nil)) ja_nil))) (j_var 8 (pv 8))) (jx_d (j_bin o_mul (j_callB (ts := [dC (.int 1), dCB lenD [dBin addD (dIx (dVar 3) (dC (.int 0))) (dIx (dVar 3) (dC (.int 1)))]]) (c_max gd.calm) (by rfl) G.b_max (by decide +kernel) (ja_d j_int (ja_d (j_callB (ts := [dBin addD (dIx (dVar 3) (dC (.int 0))) (dIx (dVar 3) (dC (.int 1)))]) c_len (by rfl) G.b_len (by decide +kernel) (ja_d (j_bin o_add (j_ix (j_var 3 (pv 3)) j_int) (j_ix (j_var 3 (pv 3)) j_int)) ja_nil)) ja_nil))) (j_var 8 (pv 8))) jx_nil))) (js_cons (js_if (j_cmpT o_le (j_callB (ts := [dCB intD [dVar 9], dCB intD [dVar 10]]) (c_max gd.calm) (by rfl) G.b_max (by decide +kernel) (ja_d (j_callTy (ts := [dVar 9]) c_int (by rfl) G.b_int (by decide +kernel) (ja_d (j_var 9 (pv 9)) ja_nil)) (ja_d (j_callTy (ts := [dVar 10]) c_int (by rfl) G.b_int (by decide +kernel) (ja_d (j_var 10 (pv 10)) ja_nil)) ja_nil))) (j_bin o_pow j_int j_int)) (js_cons (js_if (j_cmpT (o_ne gd.u64) (j_call (ts := [.d (dVar 3), .d (dVar 9), .d (dVar 4), .d (dVar 10)]) c_powers_alike gd (by decide) (by rfl) (ja_d (j_var 3 (pv 3)) (ja_d (j_var 9 (pv 9)) (ja_d (j_var 4 (pv 4)) (ja_d (j_var 10 (pv 10)) ja_nil))))) (j_call (ts := [.d (dVar 3), .d (dVar 9), .d (dVar 4), .d (dVar 10)]) c_law_alike gd (by decide) (by rfl) (ja_d (j_var 3 (pv 3)) (ja_d (j_var 9 (pv 9)) (ja_d (j_var 4 (pv 4)) (ja_d (j_var 10 (pv 10)) ja_nil)))))) (js_cons (js_ret j_bl) js_nil) js_nil) (js_cons (js_if (j_cmpT (o_ne gd.u64) (j_call (ts := [.d (dVar 3), .d (dVar 9)]) c_power_least gd (by decide) (by rfl) (ja_d (j_var 3 (pv 3)) (ja_d (j_var 9 (pv 9)) ja_nil))) (j_call (ts := [.d (dVar 3), .d (dVar 9)]) c_law_great_least gd (by decide) (by rfl) (ja_d (j_var 3 (pv 3)) (ja_d (j_var 9 (pv 9)) ja_nil)))) (js_cons (js_ret j_bl) js_nil) js_nil) js_nil)) js_nil) (js_cons (js_set 11 (fun te h => ps_set gd.nd rfl (by first | exact Or.inl rfl | exact Or.inr rfl) h) (j_call (ts := [.io 2, .d (dLst [dC (.int 0), dNeg (dC (.int 1)), dC .none, dC (.bool true), dBin addD (dBin powD (dC (.int 10)) (dC (.int 30))) (dC (.int 1))])]) c_law_one gd (by decide) (by rfl) (ja_io 2 (pv 2) (ja_d (JN.je (jn_lst (ts := [dC (.int 0), dNeg (dC (.int 1)), dC .none, dC (.bool true), dBin addD (dBin powD (dC (.int 10)) (dC (.int 30))) (dC (.int 1))]) (ja_d j_int (ja_d (j_neg j_int) (ja_d j_non (ja_d j_bl (ja_d (j_bin o_add (j_bin o_pow j_int j_int) j_int) ja_nil))))))) ja_nil)))) (js_cons (js_kept 7 12 gd (jp_cons (m := 7) (xq := "law") LA (by rfl) (j_tup (ts := [dC (.str "form"), dC .none]) (ja_d j_str (ja_d j_non ja_nil))) ⟨LamX.lamS_by (by kernel_rfl), by rfl, fun _ _ _ _ _ => by rfl, fun _ _ _ _ _ _ _ gd => (j_call (ts := [.d (dC .none), .d (dVar 11), .d (dC .none), .d (dVar 11)]) c_powers_alike gd (by decide) (by rfl) (ja_d j_non (ja_d (j_var 11 (pv 11)) (ja_d j_non (ja_d (j_var 11 (pv 11)) ja_nil)))))⟩ (jp_cons (m := 7) (xq := "law") LA (by rfl) (j_tup (ts := [dC (.str "times"), dVar 11]) (ja_d j_str (ja_d (j_var 11 (pv 11)) ja_nil))) ⟨LamX.lamS_by (by kernel_rfl), by rfl, fun _ _ _ _ _ => by rfl, fun _ _ _ _ _ _ _ gd => (j_call (ts := [.d (dVar 3), .d (dVar 11), .d (dC .none), .d (dVar 11)]) c_powers_alike gd (by decide) (by rfl) (ja_d (j_var 3 (pv 3)) (ja_d (j_var 11 (pv 11)) (ja_d j_non (ja_d (j_var 11 (pv 11)) ja_nil)))))⟩ (jp_cons (m := 7) (xq := "law") LA (by rfl) (j_tup (ts := [dC (.str "form"), dC (.int 5)]) (ja_d j_str (ja_d j_int ja_nil))) ⟨LamX.lamS_by (by kernel_rfl), by rfl, fun _ _ _ _ _ => by rfl, fun _ _ _ _ _ _ _ gd => (j_call (ts := [.d (dVar 3), .d (dC (.int 1)), .d (dC (.int 5)), .d (dVar 11)]) c_powers_alike gd (by decide) (by rfl) (ja_d (j_var 3 (pv 3)) (ja_d j_int (ja_d j_int (ja_d (j_var 11 (pv 11)) ja_nil)))))⟩ (jp_cons (m := 7) (xq := "law") LA (by rfl) (j_tup (ts := [dC (.str "times"), dVar 11]) (ja_d j_str (ja_d (j_var 11 (pv 11)) ja_nil))) ⟨LamX.lamS_by (by kernel_rfl), by rfl, fun _ _ _ _ _ => by rfl, fun _ _ _ _ _ _ _ gd => (j_call (ts := [.d (dVar 3), .d (dC (.int 1)), .d (dVar 4), .d (dVar 11)]) c_powers_alike gd (by decide) (by rfl) (ja_d (j_var 3 (pv 3)) (ja_d j_int (ja_d (j_var 4 (pv 4)) (ja_d (j_var 11 (pv 11)) ja_nil)))))⟩ jp_nil)))) (pg_name (i := 7) gd.nd rfl (by first | exact Or.inl rfl | exact Or.inr rfl)) (pg_name (i := 12) gd.nd rfl (by first | exact Or.inl rfl | exact Or.inr rfl)) (fun _ _ _ _ _ okK => (js_cons (js_if (j_cmpT (o_ne gd.u64) (j_kept (m := 7) (i := 12) c_law_heard gd (by decide) (by decide) (by rfl) rfl (by first | exact Or.inl rfl | exact Or.inr (Or.inl rfl) | exact Or.inr (Or.inr rfl)) (by decide) (by decide) okK.L okK.hbind okK.hbody) (j_var 7 (pv 7))) (js_cons (js_ret j_bl) js_nil) js_nil) js_nil))) js_nil))))))))) (js_cons (js_ret j_bl) js_nil))
end BX
/-! K18c -/
namespace BX
local macro_rules | `(tactic| walk_at "bx ux") => `(tactic| simp only [dChain3, iE, sSeq, sNil, sRet, sRetO, sRetN, sSet, sSetO, sIf, sAsg, sExpr, sPar, sApp, sBrk, sCnt, sAug, sRaise, sNever, sSet2, dTupP, dSlP, iR2, iRo, gLs, dMulN, dAnd, dOr, dNot, dIsi, dIsi2, dVar, dC, dNeg, dBin, dChain, dTst, dTru, dNotT, dAndT, dOrT, dIte, dTup, dLst, dCB, dCall, dCall1, dA, dX, AK.mo, ioIx, roIx, putL, putO, ow, pk, setS, dIx, dIxP, dLenP, dTruP, dEqP, dSl, dNo, dSo, dJoin, dD0, gN, gTp, gsNil, gsCons, gIx, iD, iS, iR1, dYes, dPop, dPopAt, inTab, ixTab, startE, inE, outE, List.map_cons, List.map_nil, List.length_cons, List.length_nil, List.getElem?_cons_zero, List.getElem?_cons_succ, List.set_cons_zero, List.set_cons_succ, List.cons_append, List.nil_append, List.replicate, Nat.reduceSub, Nat.reduceAdd, Nat.zero_add, Nat.sub_self, Option.map_some, Option.map_none, exOut, exEq, exEq', truthB, truthOkB, fnD, kit_int, kit_bool, kit_str, kit_list, kit_tuple, Option.some.injEq, true_and, and_true, List.zip_cons_cons, List.zip_nil_left, List.not_mem_nil, false_and, List.nodup_nil, Option.isSome_some, nd1, fi])
local macro_rules | `(tactic| walk_at "bx ui") => `(tactic| simp only [addI, addSt, addTu, addLi, subI, mulI, mulLi, modI, fdivI, powI, ltI, leI, gtI, geI, intI, intB, lenLi, lenTu, lenSt, maxI, minI, mulTu, ixLi, ixTu, ixSt, boolEq, intEq, true_and, and_true, truthB, truthOkB, exOut, exEq, exEq'])
open PySem PySem.Spec L2
theorem w_law_take : ∀ ds Qd Rd, sp_law_takeW ds Qd Rd → b_law_take (fin [.io, .d] Qd Rd) (startE 3 [.io, .d] ds) := by
  rintro ds Qd Rd ⟨s, n, rfl, ⟨a, b, rfl⟩, h1, h2, q⟩
  unfold b_law_take
  walk_at "bx ux"
  walk_at "bx ui"
  have hn : n ≠ 0 := by omega
  refine ⟨_, at0, ?_⟩
  walk_at "bx ui"
  by_cases h : 0 < a
  · rw [if_pos (by simpa using h)]
    refine ⟨_, at0, ?_⟩
    walk_at "bx ui"
    refine ⟨hn, ?_⟩
    unfold b_law_take_2
    walk_at "bx ux"
    walk_at "bx ui"
    refine ⟨_, at0, ?_⟩
    rw [fdivWI]
    refine ⟨⟨h1, ?_⟩, _, _, 0, rfl, rfl, rfl, ?_⟩
    · have : n.natAbs.log2 < 100 := (Nat.log2_lt (by omega)).mpr (by omega)
      omega
    unfold b_law_take_1
    walk_at "bx ux"
    exact q _ _ (fmod_b h1).1 (fmod_b h1).2 ⟨_, _, rfl⟩
  · rw [if_neg (by simpa using h)]
    unfold b_law_take_4
    walk_at "bx ux"
    walk_at "bx ui"
    refine ⟨_, at1, ?_⟩
    walk_at "bx ui"
    refine ⟨.inr (by decide), by decide, _, _, 1, rfl, rfl, rfl, ?_⟩
    have hb := fmod_b (i := b * 39373 + 7) (n := 2147483647) (by decide)
    generalize (b * 39373 + 7).fmod 2147483647 = z at hb ⊢
    unfold b_law_take_3
    walk_at "bx ux"
    walk_at "bx ui"
    refine ⟨_, at1, _, at1, ?_⟩
    walk_at "bx ui"
    refine ⟨.inl (by omega), by decide, ⟨by decide, by decide⟩, hn, q _ _ (fmod_b h1).1 (fmod_b h1).2 ⟨_, _, rfl⟩⟩
theorem w_letters_from : ∀ ds Qd Rd, sp_letters_from ds Qd Rd → b_letters_from (fin [.d, .d, .d] Qd Rd) (startE 4 [.d, .d, .d] ds) := by
  rintro ds Qd Rd ⟨w, b, m, rfl, hw, hwd, hl, hb, hm, q⟩
  unfold b_letters_from
  walk_at "bx ux"
  refine lcMap (env1 := [Sl.v (.tuple w), Sl.v (.int b), Sl.v (.int m), Sl.e]) (ds := (List.range m).map fun i : Nat => .int ((b + i : Nat) : Int)) (f := fun d => match d with
    | .int i => w.getD (i.toNat % w.length) .none
    | _ => .none) (fun K h => ?_) rfl ?_ (fun d hd Q' R' q' => ?_) ?_
  · refine ⟨b, (b : Int) + m, rfl, rfl, ?_⟩
    rw [rangeN]
    exact h
  · rw [List.length_map]; rw [List.length_range]
    exact Nat.le_trans hm (by decide)
  · obtain ⟨i, hi, rfl⟩ := List.mem_map.mp hd
    have hi := List.mem_range.mp hi
    have hw : 0 < w.length := by
      rcases hw with h | h
      · exact List.length_pos_iff.mpr h
      · omega
    show dIx (dVar 0) (dBin modD (dVar 3) (dCB lenD [dVar 0])) [Sl.v (.tuple w), Sl.v (.int b), Sl.v (.int m), Sl.v (.int ((b + i : Nat) : Int))] Q' R'
    walk_at "bx ux"
    walk_at "bx ui"
    refine ⟨by omega, w.getD ((b + i) % w.length) .none, ?_, ?_⟩
    · rw [fmodN]
      exact atN (getD_some (Nat.mod_lt _ hw))
    · have q' : Q' (w.getD (((b + i : Nat) : Int).toNat % w.length) .none) _ := q'
      rw [Int.toNat_natCast] at q'
      exact q'
  · have e : List.map (fun d => match d with
      | PyData.int i => w.getD (i.toNat % w.length) PyData.none
      | _ => PyData.none) ((List.range m).map fun i : Nat => PyData.int ((b + i : Nat) : Int)) = cyc w b m := by
      rw [List.map_map]
      unfold cyc
      refine List.map_congr_left (fun i _ => ?_)
      show w.getD (((b + i : Nat) : Int).toNat % w.length) _ = _
      rw [Int.toNat_natCast]
    rw [e]
    exact q
theorem w_is_number : ∀ ds Qd Rd, sp_is_number ds Qd Rd → b_is_number (fin [.d] Qd Rd) (startE 1 [.d] ds) := by
  rintro ds Qd Rd ⟨v, rfl, q⟩
  unfold b_is_number
  walk_at "bx ux"
  cases v <;> simpa [isTy, isNum] using q
theorem w_is_between : ∀ ds Qd Rd, sp_is_between ds Qd Rd → b_is_between (fin [.d, .d, .d] Qd Rd) (startE 3 [.d, .d, .d] ds) := by
  rintro ds Qd Rd ⟨v, lo, hi, rfl, q⟩
  unfold b_is_between
  walk_at "bx ux"
  refine ⟨v, rfl, ?_⟩
  cases v with
  | int i =>
    simp only [truthB, truthOkB, isNum, if_true, leD, int2, true_and]
    refine ⟨_, rfl, ?_⟩
    simp only [betw] at q
    by_cases h : lo ≤ i
    · rw [decide_eq_true h] at q ⊢
      simpa using q
    · rw [decide_eq_false h] at q ⊢
      simpa using q
  | _ => simpa [isNum, betw, truthB, truthOkB] using q
theorem w_is_letter : ∀ ds Qd Rd, sp_is_letter ds Qd Rd → b_is_letter (fin [.d] Qd Rd) (startE 2 [.d] ds) := by
  rintro ds Qd Rd ⟨v, rfl, hz, q⟩
  unfold b_is_letter
  walk_at "bx ux"
  cases v with
  | str x =>
    have hx := hz x rfl
    have fin_ : Qd (.bool (x.cps.toList.all isLow)) [] → b_is_letter_1 (fin [.d] Qd Rd) [Sl.v (.str x), Sl.e] := by
      intro q
      unfold b_is_letter_1
      walk_at "bx ux"
      refine lcMap (env1 := [Sl.v (.str x), Sl.e]) (ds := signs x) (f := lowD) (fun K h => ?_) rfl (by unfold signs; rw [List.length_map, Array.length_toList]; exact hx) (fun d hd Q' R' q' => ?_) ?_
      · exact ⟨x, rfl, h⟩
      · unfold signs at hd
        obtain ⟨c, hc, rfl⟩ := List.mem_map.mp hd
        show dChain leS leS (dC (.str "a")) (dVar 1) (dC (.str "z")) [Sl.v (.str x), Sl.v (.str ⟨#[c]⟩)] Q' R'
        walk_at "bx ux"
        simp only [leS, leS_low, leS_high]
        refine ⟨_, rfl, ?_⟩
        have q' : Q' (.bool ([c].all isLow)) [Sl.v (.str x), Sl.v (.str ⟨#[c]⟩)] := q'
        simp only [List.all_cons, List.all_nil, Bool.and_true, isLow] at q'
        by_cases h : 97 ≤ c
        · rw [decide_eq_true h] at q' ⊢
          simpa using q'
        · rw [decide_eq_false h] at q' ⊢
          simpa using q'
      · refine ⟨_, bools_low _, ?_⟩
        rw [List.all_map]
        exact q
    simp only [isTy, lenD, leD, int2, beq_self_eq_true, Bool.not_true, Bool.false_eq_true, if_false]
    simp only [isLetter] at q
    refine ⟨hx, trivial, _, rfl, ?_⟩
    by_cases h1 : (1 : Int) ≤ x.length
    · have h1' : 1 ≤ x.length := by omega
      rw [decide_eq_true h1, if_pos rfl]
      rw [decide_eq_true h1'] at q
      refine ⟨trivial, _, rfl, ?_⟩
      by_cases h2 : (x.length : Int) ≤ 4
      · have h2' : x.length ≤ 4 := by omega
        rw [decide_eq_true h2]
        rw [decide_eq_true h2'] at q
        simpa using fin_ (by simpa using q)
      · have h2' : ¬ x.length ≤ 4 := by omega
        rw [decide_eq_false h2]
        rw [decide_eq_false h2'] at q
        simpa using q
    · have h1' : ¬ 1 ≤ x.length := by omega
      rw [decide_eq_false h1, if_neg Bool.false_ne_true]
      rw [decide_eq_false h1'] at q
      exact ⟨_, rfl, by simpa using q⟩
  | _ => simpa [isTy, isLetter] using q
theorem mild1_len {x : PyData} (h : mild1 x) : ∀ s, x = .str s → s.length ≤ sizeLine := by
  rintro s rfl
  exact Nat.le_trans h (by decide)
theorem boolsM {f : PyData → Bool} : ∀ {xs : List PyData}, boolsOf (xs.map fun x => .bool (f x)) = some (xs.map f)
  | [] => rfl
  | x :: xs => by
    rw [List.map_cons, boolsOf, boolsM (xs := xs)]
    rfl
theorem w_is_word : ∀ ds Qd Rd, sp_is_word ds Qd Rd → b_is_word (fin [.d, .d] Qd Rd) (startE 3 [.d, .d] ds) := by
  rintro ds Qd Rd ⟨v, n, rfl, hv, q⟩
  have sz : (20000 : Nat) ≤ sizeLine := by decide
  unfold b_is_word
  cases v with
  | tuple xs =>
    obtain ⟨h1, h2⟩ := hv
    walk_at "bx ux"
    simp only [ty_tup, Bool.not_true, Bool.false_eq_true, if_false, truthB, truthOkB, true_and]
    walk_at "bx ui"
    by_cases h : (xs.length : Int) ≤ n
    · rw [(decide_eq_false (by omega))]
      refine itF ?_
      unfold b_is_word_1
      walk_at "bx ux"
      refine lcMap (env1 := [.v (.tuple xs), .v (.int n), .e]) (ds := xs) (f := fun x => .bool (isLetter x)) (fun K h => ⟨xs, rfl, h⟩) rfl (by omega) (fun d hd Q' R' q' => ?_) ?_
      · exact And.intro List.nodup_nil (And.intro (fun i h => by cases h) ⟨d, rfl, mild1_len (h2 d hd), q'⟩)
      · refine ⟨_, boolsM, ?_⟩
        have e : isWordB n (.tuple xs) = (xs.map isLetter).all id := by
          show (decide ((xs.length : Int) ≤ n) && xs.all isLetter) = _
          rw [decide_eq_true h, List.all_map]
          rfl
        rw [e] at q
        exact q
    · rw [(decide_eq_true (by omega))]
      refine itT ?_
      have e : isWordB n (.tuple xs) = false := by
        show (decide ((xs.length : Int) ≤ n) && xs.all isLetter) = _
        rw [decide_eq_false h]
        rfl
      rw [e] at q
      exact q
  | _ =>
    walk_at "bx ux"
    simpa [isTy, isWordB] using q
theorem w_law_one : ∀ ds Qd Rd, sp_law_one ds Qd Rd → b_law_one (fin [.io, .d] Qd Rd) (startE 2 [.io, .d] ds) := by
  rintro ds Qd Rd ⟨s, xs, rfl, hs, h1, h2, q⟩
  unfold b_law_one
  walk_at "bx ux"
  walk_at "bx ui"
  refine ⟨s, _, rfl, hs, by omega, by omega, fun r s' h3 h4 hs' => ?_⟩
  walk_at "bx ui"
  obtain ⟨d, e, hd⟩ := at_get h3 h4
  exact ⟨d, e, _, rfl, q d hd s' hs'⟩
theorem w_law_pool : ∀ ds Qd Rd, sp_law_pool ds Qd Rd → b_law_pool (finN [.ro, .d] Qd Rd) (startE 5 [.ro, .d] ds) := by
  rintro ds Qd Rd ⟨ns, k, rfl, h1, h2, h3, q⟩
  have tail : ∀ c : Int, b_law_pool_3 (finN [.ro, .d] Qd Rd) [.ro (ns.map .int), .v (.int k), .v (.int c), .e, .e] := by
    intro c
    unfold b_law_pool_3 b_law_pool_2 b_law_pool_1
    walk_at "bx ux"
    walk_at "bx ui"
    refine ⟨by decide, .inl (by omega), .inr (by omega), .inl (by omega), .inr (by decide), by decide, ⟨by decide, by decide, by decide⟩, cmul_b, by decide, q _ _⟩
  unfold b_law_pool b_law_pool_4
  walk_at "bx ux"
  walk_at "bx ui"
  by_cases h : k < (ns.map PyData.int).length
  · rw [if_pos (by simpa using h)]
    obtain ⟨d, e, hd⟩ := at_get h1 h
    obtain ⟨c, _, rfl⟩ := List.mem_map.mp hd
    exact ⟨_, e, tail c⟩
  · rw [if_neg (by simpa using h)]
    exact tail 0
theorem w_law_letters : ∀ ds Qd Rd, sp_law_letters ds Qd Rd → b_law_letters (fin [.io] Qd Rd) (startE 1 [.io] ds) := by
  rintro ds Qd Rd ⟨s, rfl, hs, q⟩
  unfold b_law_letters
  walk_at "bx ux"
  refine ⟨by decide, by decide, by decide, by decide, by decide, one_go hs (fun x hx s' hs' => ?_) (by decide) (by decide)⟩
  have go : ∀ l : List PyData, l.all isLetter = true → 0 < l.length → l.length ≤ 100 → l.all notNew = true → Qd (.list l) [s'] := fun l h1 h2 h3 h4 => q l s' ⟨wd_lit h1, h2, h3⟩ (nn_of h4) hs'
  simp only [List.not_mem_nil, List.mem_cons, or_false] at hx
  refine ⟨_, rfl, ?_⟩
  rcases hx with rfl | rfl | rfl | rfl <;> exact go _ (by decide) (by decide) (by decide) (by decide)
theorem lcp_pre {p s : List PyData} {z : Nat} (h : isLcp p s z) : s <+: p ↔ s.length ≤ z := by
  obtain ⟨h1, h2, h3, h4⟩ := h
  constructor
  · intro g
    rcases Nat.lt_or_ge z s.length with hz | hz
    · have hp := g.length_le
      have := h4 (by omega) hz
      exfalso
      apply this
      rw [(List.prefix_iff_getElem?.mp g) z hz, List.getElem?_eq_getElem hz]
    · exact hz
  · intro g
    have e : z = s.length := by omega
    subst e
    rw [List.take_length] at h3
    rw [← h3]
    exact List.take_prefix _ _
theorem w_normal_from : ∀ ds Qd Rd, sp_normal_from ds Qd Rd → b_normal_from (fin [.d, .d, .d] Qd Rd) (startE 5 [.d, .d, .d] ds) := by
  rintro ds Qd Rd ⟨u, v, d, rfl, wu, wv, lu, lv, hd, q⟩
  unfold b_normal_from
  walk_at "bx ux"
  refine ⟨v, u, rfl, wv, wu, by omega, by omega, fun zs hz1 hz2 => ?_⟩
  unfold b_normal_from_3
  walk_at "bx ux"
  unfold b_normal_from_2
  refine ⟨fun m env => ∃ k : Nat, env = [.v (.tuple u), .v (.tuple v), .v (.int d), .v (.list (zs.map fun (z : Nat) => .int z)), .v (.int k)] ∧ m = u.length - k ∧ d ≤ k ∧ k ≤ u.length ∧ ∀ j, d ≤ j → j < k → ¬ okF u v j, ⟨_, d, rfl, rfl, Nat.le_refl _, hd, fun j h1 h2 => by omega⟩, ?_⟩
  rintro m env ⟨k, rfl, rfl, h1, h2, h3⟩
  have stop : okF u v k → b_normal_from_1 (fin [.d, .d, .d] Qd Rd) [.v (.tuple u), .v (.tuple v), .v (.int d), .v (.list (zs.map fun (z : Nat) => .int z)), .v (.int k)] := fun ok => by
    unfold b_normal_from_1
    walk_at "bx ux"
    exact q k ⟨h1, ok, h3⟩
  walk_at "bx ux"
  walk_at "bx ui"
  by_cases hk : k < u.length
  · rw [(decide_eq_true (by omega))]
    have gz : zs[k]? = some (zs[k]'(by omega)) := List.getElem?_eq_getElem (by omega)
    have hl := hz2 k _ gz
    have pre := lcp_pre hl
    rw [List.length_drop] at pre
    refine itT ?_
    refine ⟨.int (zs[k]'(by omega) : Nat), atN (by rw [List.getElem?_map, gz]; rfl), ?_⟩
    walk_at "bx ui"
    by_cases hz : (zs[k]'(by omega)) < u.length - k
    · rw [(decide_eq_true (by omega))]
      refine itT ?_
      refine ⟨_, rfl, And.intro trivial ?_⟩
      refine ⟨u.length - (k + 1), by omega, k + 1, rfl, rfl, by omega, by omega, fun j g1 g2 => ?_⟩
      by_cases hj : j = k
      · subst hj
        rintro ⟨_, g | g⟩
        · omega
        · have := pre.mp g; omega
      · exact h3 j g1 (by omega)
    · rw [(decide_eq_false (by omega))]
      exact itF (stop ⟨h2, .inr (pre.mpr (by omega))⟩)
  · rw [(decide_eq_false (by omega))]
    exact itF (stop ⟨h2, .inl (by omega)⟩)
abbrev nats (zs : List Nat) : List PyData := zs.map fun (z : Nat) => .int z
/-- m letters from the beginning stand at a, too -/
def Mt (B : List PyData) (a m : Nat) : Prop := ∀ k, k < m → B[k]? = B[a + k]?
def lcpB (B : List PyData) (a m : Nat) : Prop := a + m ≤ B.length ∧ Mt B a m ∧ (a + m < B.length → B[m]? ≠ B[a + m]?)
/-- what is known ahead of place a -/
structure Zs (B : List PyData) (a : Nat) (zs : List Nat) (b e : Nat) : Prop where
  len : zs.length = B.length
  done : ∀ j, 1 ≤ j → j < a → ∀ z, zs[j]? = some z → lcpB B j z
  le : e ≤ B.length
  win : ∀ k, k < e - b → B[k]? = B[b + k]?
  at_ : a < e → 1 ≤ b ∧ b < a
theorem range_at {lo : Int} {n i : Nat} {x : PyData} (hd : (rangeD lo n)[i]? = some x) : i < n ∧ x = .int (lo + i) := by
  have hi := (List.getElem?_eq_some_iff.mp hd).1
  rw [rangeD_len] at hi
  refine ⟨hi, ?_⟩
  unfold rangeD at hd
  rw [List.getElem?_map, List.getElem?_range hi] at hd
  exact (Option.some.inj hd).symm
theorem g3 {a b c : Nat} {x y z : PyData} {env : Ev} {Q : Ev → Prop} (q : Q (((env.set a (.v x)).set b (.v y)).set c (.v z))) : gTp 3 (gsCons (gN a) (gsCons (gN b) (gsCons (gN c) (gsNil)))) (.tuple [x, y, z]) env Q := ⟨_, rfl, rfl, _, _, rfl, _, _, rfl, _, _, rfl, rfl, q⟩
theorem ixNat {n a : Nat} (h : a < n) : ixN n (a : Int) = some a := by
  unfold ixN
  rw [if_pos (by omega)]; rw [if_pos (by omega)]
  rfl
section
variable {Qd : PyData → List PyData → Prop} {Rd : Ex → List PyData → Prop} {p t B : List PyData} {zs : List Nat} {a b e : Nat} {D : DEnds}
/-- behind the walk: what is found is put down -/
theorem ml_2 {m : Nat} (ha : 1 ≤ a) (Z : Zs B a zs b e) (hl : lcpB B a m) (q : ∀ zs' b' e', Zs B (a + 1) zs' b' e' → D.nx [.v (.tuple p), .v (.tuple t), .v (.tuple B), .o (.list (nats zs')), .v (.int b'), .v (.int e'), .v (.int a), .v (.int m)]) (hB : B.length ≤ 30000) (haB : a < B.length) :
    b_match_lengths_2 D [.v (.tuple p), .v (.tuple t), .v (.tuple B), .o (.list (nats zs)), .v (.int b), .v (.int e), .v (.int a), .v (.int m)] := by
  have inl : a < (nats zs).length := by rw [List.length_map, Z.len]; exact haB
  have es : (nats zs).set a (.int m) = nats (zs.set a m) := by unfold nats; rw [List.map_set]
  have Z1 : ∀ b' e', e' ≤ B.length → (∀ k, k < e' - b' → B[k]? = B[b' + k]?) → (a + 1 < e' → 1 ≤ b' ∧ b' < a + 1) → Zs B (a + 1) (zs.set a m) b' e' := fun b' e' g1 g2 g3 => {
    len := by rw [List.length_set]; exact Z.len
    done := fun j h1 h2 z hz => by
      by_cases hj : j = a
      · subst hj
        rw [List.getElem?_set_self (by rw [Z.len]; exact haB)] at hz
        cases hz
        exact hl
      · rw [List.getElem?_set_ne (fun x => hj x.symm)] at hz
        exact Z.done j h1 (by omega) z hz
    le := g1
    win := g2
    at_ := g3 }
  unfold b_match_lengths_2
  walk_at "bx ux"
  refine ⟨_, _, _, rfl, rfl, ixNat inl, ?_⟩
  show b_match_lengths_1 D [.v (.tuple p), .v (.tuple t), .v (.tuple B), .o (.list ((nats zs).set a (.int m))), .v (.int b), .v (.int e), .v (.int a), .v (.int m)]
  rw [es]
  unfold b_match_lengths_1
  walk_at "bx ux"
  walk_at "bx ui"
  by_cases h : e < a + m
  · rw [(decide_eq_true (by omega))]
    refine itT ?_
    refine q (zs.set a m) a (a + m) (Z1 _ _ hl.1 (fun k hk => hl.2.1 k (by omega)) fun _ => ⟨ha, by omega⟩)
  · rw [(decide_eq_false (by omega))]
    refine itF ?_
    exact q (zs.set a m) b e (Z1 _ _ Z.le Z.win fun h => ⟨(Z.at_ (by omega)).1, by have := (Z.at_ (by omega)).2; omega⟩)
end
section
variable {Qd : PyData → List PyData → Prop} {Rd : Ex → List PyData → Prop} {p t B : List PyData} {zs : List Nat} {a b e : Nat} {D : DEnds}
theorem eqBB {B : List PyData} (hB : ∀ x ∈ B, LN x) {i j : Nat} {k : PyData → Prop} (hi : i < B.length) (hj : j < B.length) (h1 : B[i]? = B[j]? → k (.bool true)) (h2 : B[i]? ≠ B[j]? → k (.bool false)) : eqD (B.getD i .none) (B.getD j .none) k := by
  have g1 := getD_some hi
  have g2 := getD_some hj
  refine eqLN (hB _ (List.mem_of_getElem? g1)) (hB _ (List.mem_of_getElem? g2)) (fun e => h1 (by rw [g1, g2, e])) fun e => h2 fun z => e ?_
  rw [g1, g2] at z
  exact Option.some.inj z
end
section
variable {Qd : PyData → List PyData → Prop} {Rd : Ex → List PyData → Prop} {p t B : List PyData} {zs : List Nat} {a b e : Nat} {D : DEnds}
theorem ml_3 {l : Nat} (ha : 1 ≤ a) (Z : Zs B a zs b e) (h1 : a + l ≤ B.length) (h2 : Mt B a l) (q : ∀ zs' b' e' m, Zs B (a + 1) zs' b' e' → D.nx [.v (.tuple p), .v (.tuple t), .v (.tuple B), .o (.list (nats zs')), .v (.int b'), .v (.int e'), .v (.int a), .v (.int m)]) (hB : B.length ≤ 30000) (haB : a < B.length) (hLN : ∀ x ∈ B, LN x) :
    b_match_lengths_3 D [.v (.tuple p), .v (.tuple t), .v (.tuple B), .o (.list (nats zs)), .v (.int b), .v (.int e), .v (.int a), .v (.int l)] := by
  unfold b_match_lengths_3
  refine ⟨fun m env => ∃ l : Nat, env = [.v (.tuple p), .v (.tuple t), .v (.tuple B), .o (.list (nats zs)), .v (.int b), .v (.int e), .v (.int a), .v (.int l)] ∧ m = B.length - l ∧ a + l ≤ B.length ∧ Mt B a l, ⟨_, l, rfl, rfl, h1, h2⟩, ?_⟩
  rintro m env ⟨l, rfl, rfl, g1, g2⟩
  have stop : (a + l < B.length → B[l]? ≠ B[a + l]?) → b_match_lengths_2 D [.v (.tuple p), .v (.tuple t), .v (.tuple B), .o (.list (nats zs)), .v (.int b), .v (.int e), .v (.int a), .v (.int l)] := fun h =>
    ml_2 ha Z ⟨g1, g2, h⟩ (fun zs' b' e' Z' => q zs' b' e' _ Z') hB haB
  walk_at "bx ux"
  walk_at "bx ui"
  by_cases h : a + l < B.length
  · rw [(decide_eq_true (by omega))]
    refine itT ?_
    refine ⟨_, atN (getD_some (show l < B.length by omega)), B.getD (a + l) .none, ?_, ?_⟩
    · exact atN (k := a + l) (getD_some h)
    · refine eqBB hLN (by omega) h (fun g => ?_) (fun g => ?_)
      · refine ⟨_, rfl, itT ?_⟩
        refine ⟨_, rfl, And.intro trivial ?_⟩
        refine ⟨B.length - (l + 1), by omega, l + 1, rfl, rfl, by omega, fun k hk => ?_⟩
        by_cases hkl : k = l
        · subst hkl; exact g
        · exact g2 k (by omega)
      · exact ⟨_, rfl, itF (stop fun _ => g)⟩
  · rw [(decide_eq_false (by omega))]
    exact itF (stop fun z => absurd z h)
end
theorem lcp_of {p t : List PyData} (wp : wd p) (wt : wd t) {i m : Nat} (hi : i < t.length) (h : lcpB (p ++ [.none] ++ t) (p.length + 1 + i) m) : isLcp p (t.drop i) m := by
  obtain ⟨h1, h2, h3⟩ := h
  have gp : ∀ k, k < p.length → (p ++ [PyData.none] ++ t)[k]? = p[k]? := fun k hk => by
    rw [List.append_assoc, List.getElem?_append_left hk]
  have gn : (p ++ [PyData.none] ++ t)[p.length]? = some .none := by
    rw [List.append_assoc, List.getElem?_append_right (Nat.le_refl _)]; simp
  have gt : ∀ k, (p ++ [PyData.none] ++ t)[p.length + 1 + k]? = t[k]? := fun k => by
    rw [List.getElem?_append_right (by simp)]
    congr 1
    simp
  rw [List.length_append, List.length_append, List.length_cons, List.length_nil] at h1 h3
  have hmp : m ≤ p.length := by
    rcases Nat.lt_or_ge p.length m with z | z
    · have := h2 p.length z
      rw [gn, Nat.add_assoc (p.length + 1) i, gt] at this
      have := wt _ (List.mem_of_getElem? this.symm)
      cases this
    · exact z
  refine ⟨hmp, by rw [List.length_drop]; omega, ?_, fun g1 g2 => ?_⟩
  · apply List.ext_getElem?
    intro k
    by_cases hk : k < m
    · have := h2 k hk
      rw [gp k (by omega), Nat.add_assoc (p.length + 1) i, gt] at this
      rw [List.getElem?_take_of_lt hk, List.getElem?_take_of_lt hk, List.getElem?_drop]
      exact this
    · rw [List.getElem?_eq_none (by rw [List.length_take]; omega), List.getElem?_eq_none (by rw [List.length_take]; omega)]
  · rw [List.length_drop] at g2
    have := h3 (by omega)
    rw [gp m g1, Nat.add_assoc (p.length + 1) i, gt] at this
    rw [List.getElem?_drop]
    exact this
theorem w_match_lengths : ∀ ds Qd Rd, sp_match_lengths ds Qd Rd → b_match_lengths (fin [.d, .d] Qd Rd) (startE 8 [.d, .d] ds) := by
  rintro ds Qd Rd ⟨p, t, rfl, wp, wt, lp, lt, q⟩
  have sz : (40000 : Nat) ≤ sizeLine := by decide
  unfold b_match_lengths
  walk_at "bx ux"
  walk_at "bx ui"
  refine ⟨by decide, by rw [List.length_cons, List.length_nil]; omega, by rw [List.length_append, List.length_cons, List.length_nil]; omega, ?_⟩
  generalize hB : p ++ [PyData.none] ++ t = B
  have lB : B.length = p.length + 1 + t.length := by rw [← hB]; simp; omega
  have hLN : ∀ x ∈ B, LN x := fun x hx => by
    rw [← hB] at hx
    rcases (List.mem_append.mp hx) with hx | hx
    · rcases (List.mem_append.mp hx) with hx | hx
      · exact .inl (wp x hx)
      · exact .inr (List.mem_singleton.mp hx)
    · exact .inl (wt x hx)
  unfold b_match_lengths_7
  walk_at "bx ux"
  walk_at "bx ui"
  refine ⟨by decide, _, _, rfl, rfl, ⟨by omega, by omega, ?_⟩, ?_⟩
  · rw [List.length_cons, List.length_nil, Int.toNat_natCast]
    omega
  have e0 : (List.replicate (B.length : Int).toNat [PyData.int 0]).flatten = nats (List.replicate B.length 0) := by
    rw [Int.toNat_natCast]
    generalize B.length = n
    induction n with
    | zero => rfl
    | succ n ih => rw [List.replicate_succ, List.flatten_cons, ih]; rfl
  rw [e0]
  unfold b_match_lengths_6
  walk_at "bx ux"
  unfold b_match_lengths_5
  refine Exists.intro 1 (Exists.intro (B.length : Int) (And.intro rfl (And.intro rfl (And.intro (by omega) ?_))))
  refine ⟨fun i env => ∃ zs b e s6 s7, ∃ b' e' : Nat, env = [.v (.tuple p), .v (.tuple t), .v (.tuple B), .o (.list (nats zs)), .v (.int b'), .v (.int e'), s6, s7] ∧ b = b' ∧ e = e' ∧ Zs B (1 + i) zs b e, ⟨_, 0, 0, _, _, 0, 0, rfl, rfl, rfl, ?_⟩, ?_, ?_⟩
  · exact { len := by simp, done := fun j h1 h2 => by omega, le := by omega, win := fun k hk => by omega, at_ := fun h => by omega }
  · rintro i x env hd ⟨zs, b, e, s6, s7, b', e', rfl, rfl, rfl, Z⟩
    obtain ⟨hi, rfl⟩ := range_at hd
    rw [show (1 : Int) + (i : Int) = ((1 + i : Nat) : Int) from rfl]
    generalize ha : 1 + i = a
    rw [ha] at Z
    have haB : a < B.length := by omega
    walk_at "bx ux"
    walk_at "bx ui"
    by_cases h : a < e
    · rw [(decide_eq_true (by omega))]
      refine itT ?_
      obtain ⟨g1, g2⟩ := Z.at_ h
      have gz : zs[a - b]? = some (zs[a - b]'(by rw [Z.len]; omega)) := List.getElem?_eq_getElem _
      have hl := Z.done (a - b) (by omega) (by omega) _ gz
      generalize (zs[a - b]'(by rw [Z.len]; omega)) = z at gz hl
      refine ⟨.int z, ?_, ?_⟩
      · rw [show (a : Int) - (b : Int) = ((a - b : Nat) : Int) by omega]
        exact atN (by rw [List.getElem?_map, gz]; rfl)
      · walk_at "bx ui"
        have em : (if (z : Int) < (e : Int) - a then (z : Int) else (e : Int) - a) = ((min (e - a) z : Nat) : Int) := by split <;> omega
        rw [em]
        obtain ⟨h1, h2, h3⟩ := hl
        refine ml_3 (by omega) Z (by have := Z.le; omega) (fun k hk => ?_) (fun zs' b' e' m Z' => ⟨zs', b', e', _, _, b', e', rfl, rfl, rfl, by rw [show 1 + (i + 1) = a + 1 by omega]; exact Z'⟩) (by omega) haB hLN
        have w1 := h2 k (by omega)
        have w2 := Z.win (a - b + k) (by omega)
        rw [w1, w2]
        congr 1
        omega
    · rw [(decide_eq_false (by omega))]
      refine itF ?_
      exact ml_3 (l := 0) (by omega) Z (by omega) (fun k hk => by omega) (fun zs' b' e' m Z' => ⟨zs', b', e', _, _, b', e', rfl, rfl, rfl, by rw [show 1 + (i + 1) = a + 1 by omega]; exact Z'⟩) (by omega) haB hLN
  · rintro env ⟨zs, b, e, s6, s7, b', e', rfl, rfl, rfl, Z⟩
    rw [rangeD_len] at Z
    show b_match_lengths_4 (fin [.d, .d] Qd Rd) [.v (.tuple p), .v (.tuple t), .v (.tuple B), .o (.list (nats zs)), .v (.int b), .v (.int e), s6, s7]
    unfold b_match_lengths_4
    walk_at "bx ux"
    walk_at "bx ui"
    refine ⟨_, rfl, ?_⟩
    rw [show (p.length : Int) + 1 = ((p.length + 1 : Nat) : Int) from rfl, cut_lo]
    have eB : 1 + ((B.length : Int) - 1).toNat = B.length := by omega
    rw [eB] at Z
    have ed : (nats zs).drop (p.length + 1) = nats (zs.drop (p.length + 1)) := by unfold nats; rw [List.map_drop]
    rw [ed]
    refine q _ (by rw [List.length_drop, Z.len]; omega) fun i z hz => ?_
    rw [List.getElem?_drop] at hz
    have hi : p.length + 1 + i < B.length := by
      have := (List.getElem?_eq_some_iff.mp hz).1
      rw [Z.len] at this
      exact this
    refine lcp_of wp wt (by omega) ?_
    rw [hB]
    exact Z.done _ (by omega) hi z hz
theorem wd_of {n : Int} {xs : List PyData} (h : isWordB n (.tuple xs) = true) : wd xs ∧ (xs.length : Int) ≤ n := by
  obtain ⟨h1, h2⟩ := Bool.and_eq_true_iff.mp (show (decide ((xs.length : Int) ≤ n) && xs.all isLetter) = true from h)
  exact ⟨fun x hx => List.all_eq_true.mp h2 x hx, of_decide_eq_true h1⟩
theorem word_of {n : Int} {d : PyData} (h : isWordB n d = true) : ∃ xs, d = .tuple xs ∧ wd xs ∧ (xs.length : Int) ≤ n := by
  cases d with
  | tuple xs => exact ⟨xs, rfl, wd_of h⟩
  | _ => cases h
theorem if_t {a b : Prop} : (if truth (.bool true) = true then a else b) = a := if_pos rfl
theorem w_is_fitting : ∀ ds Qd Rd, sp_is_fitting ds Qd Rd → b_is_fitting (fin [.d, .d, .d] Qd Rd) (startE 3 [.d, .d, .d] ds) := by
  rintro ds Qd Rd ⟨u, v, d, rfl, hu, hv, q⟩
  unfold b_is_fitting
  unfold fits3 at q
  walk_at "bx ux"
  refine ⟨u, _, rfl, hu, ?_⟩
  cases e1 : isWordB 4000 u with
  | false =>
    rw [e1] at q
    exact ⟨trivial, q⟩
  | true =>
    obtain ⟨us, rfl, w1, l1⟩ := word_of e1
    rw [e1, Bool.true_and] at q
    refine ⟨trivial, ?_⟩
    rw [if_t]
    refine ⟨v, _, rfl, hv, ?_⟩
    cases e2 : isWordB 4000 v with
    | false =>
      rw [e2] at q
      exact ⟨trivial, q⟩
    | true =>
      rw [e2, Bool.true_and] at q
      refine ⟨trivial, ?_⟩
      rw [if_t]
      walk_at "bx ui"
      exact ⟨_, _, _, rfl, q⟩
theorem betw_of {d : PyData} {n : Nat} (h : betw d 0 n = true) : ∃ k : Nat, d = .int k ∧ k ≤ n := by
  cases d with
  | int i =>
    obtain ⟨h1, h2⟩ := Bool.and_eq_true_iff.mp (show (decide ((0 : Int) ≤ i) && decide (i ≤ (n : Int))) = true from h)
    have h1 := of_decide_eq_true h1
    have h2 := of_decide_eq_true h2
    exact ⟨i.toNat, by rw [Int.toNat_of_nonneg h1], by omega⟩
  | _ => cases h
theorem fits_of {u v d : PyData} (h : fits3 u v d = true) : ∃ us vs, ∃ k : Nat, u = .tuple us ∧ v = .tuple vs ∧ d = .int k ∧ wd us ∧ wd vs ∧ us.length ≤ 4000 ∧ vs.length ≤ 4000 ∧ k ≤ us.length := by
  obtain ⟨h1, h⟩ := Bool.and_eq_true_iff.mp h
  obtain ⟨h2, h3⟩ := Bool.and_eq_true_iff.mp h
  obtain ⟨us, rfl, w1, l1⟩ := word_of h1
  obtain ⟨vs, rfl, w2, l2⟩ := word_of h2
  obtain ⟨k, rfl, lk⟩ := betw_of (n := us.length) h3
  exact ⟨us, vs, k, rfl, rfl, rfl, w1, w2, by omega, by omega, lk⟩
theorem of_wd {n : Int} {xs : List PyData} (h : wd xs) (l : (xs.length : Int) ≤ n) : isWordB n (.tuple xs) = true := by
  show (decide ((xs.length : Int) ≤ n) && xs.all isLetter) = true
  rw [decide_eq_true l, Bool.true_and, List.all_eq_true]
  exact h
theorem of_fits {us vs : List PyData} {k : Nat} (w1 : wd us) (w2 : wd vs) (l1 : us.length ≤ 4000) (l2 : vs.length ≤ 4000) (lk : k ≤ us.length) : fits3 (.tuple us) (.tuple vs) (.int k) = true := by
  show (isWordB 4000 (.tuple us) && (isWordB 4000 (.tuple vs) && betw (.int k) 0 us.length)) = true
  rw [of_wd w1 (by omega), of_wd w2 (by omega), betw_nat lk]
  rfl
open Classical in
theorem qf_eq {u v : List PyData} {d : Nat} (w1 : wd u) (w2 : wd v) (l1 : u.length ≤ 4000) (l2 : v.length ≤ 4000) (lk : d ≤ u.length) : isQF (frm u v d) = decide (okF u v d) := by
  unfold isQF frm
  show (fits3 (.tuple u) (.tuple v) (.int d) && decide (okF u v (d : Int).toNat)) = _
  rw [of_fits w1 w2 l1 l2 lk, Bool.true_and, Int.toNat_natCast]
open Classical in
theorem w_is_queue_form : ∀ ds Qd Rd, sp_is_queue_form ds Qd Rd → b_is_queue_form (fin [.d] Qd Rd) (startE 4 [.d] ds) := by
  rintro ds Qd Rd ⟨v, rfl, hv, q⟩
  unfold b_is_queue_form
  cases v with
  | tuple xs =>
    walk_at "bx ux"
    simp only [isTy, lenTu, beq_self_eq_true, Bool.not_true, Bool.false_eq_true, if_false]
    refine neI2 (fun e => ?_) fun e => ?_
    · refine ⟨_, rfl, ?_⟩
      rw [if_neg (by decide)]
      match xs, e with
      | [u, v, d], _ =>
      unfold b_is_queue_form_2
      walk_at "bx ux"
      refine ⟨_, rfl, rfl, _, _, rfl, _, _, rfl, _, _, rfl, rfl, ?_⟩
      unfold b_is_queue_form_1
      walk_at "bx ux"
      refine ⟨_, _, _, rfl, hv.2 u (by simp), hv.2 v (by simp), ?_⟩
      cases e : fits3 u v d with
      | false =>
        have e3 : isQF (.tuple [u, v, d]) = false := by
          unfold isQF
          dsimp only
          rw [e, Bool.false_and]
        rw [e3] at q
        exact ⟨trivial, q⟩
      | true =>
        obtain ⟨us, vs, k, rfl, rfl, rfl, w1, w2, l1, l2, lk⟩ := fits_of e
        have e3 := qf_eq w1 w2 l1 l2 lk
        unfold frm at e3
        rw [e3] at q
        refine ⟨trivial, ?_⟩
        rw [if_t]
        refine ⟨us, vs, k, rfl, w1, w2, by omega, by omega, lk, fun j hj => ?_⟩
        refine eqI2 (fun e => ?_) fun e => ?_
        · have e : j = k := by omega
          subst e
          rw [decide_eq_true hj.2.1] at q
          exact q
        · have : ¬ okF us vs k := fun z => hj.2.2 k (Nat.le_refl _) (by have := hj.1; omega) z
          rw [decide_eq_false this] at q
          exact q
    · refine ⟨_, rfl, ?_⟩
      rw [if_pos rfl]
      have e3 : isQF (.tuple xs) = false := by
        unfold isQF
        split
        · rename_i z
          cases z
          exact absurd rfl e
        · rfl
      rw [e3] at q
      exact q
  | _ =>
    walk_at "bx ux"
    simp only [isTy]
    exact q
theorem w_need_queue_form : ∀ ds Qd Rd, sp_need_queue_form ds Qd Rd → b_need_queue_form (fin [.d] Qd Rd) (startE 1 [.d] ds) := by
  rintro ds Qd Rd ⟨v, rfl, hv, q1, q2⟩
  unfold b_need_queue_form
  walk_at "bx ux"
  refine ⟨_, rfl, hv, ?_⟩
  cases e : isQF v with
  | true => exact ⟨trivial, q1 e⟩
  | false => exact ⟨trivial, q2 e⟩
theorem w_need_count : ∀ ds Qd Rd, sp_need_count ds Qd Rd → b_need_count (fin [.d, .d, .d] Qd Rd) (startE 3 [.d, .d, .d] ds) := by
  rintro ds Qd Rd ⟨v, lo, hi, rfl, q1, q2⟩
  unfold b_need_count
  walk_at "bx ux"
  refine ⟨_, _, _, rfl, ?_⟩
  cases e : betw v lo hi with
  | true => exact ⟨trivial, q1 e⟩
  | false => exact ⟨trivial, q2 e⟩
theorem take_goW {s : PyData} {n : Int} {Q : PyData → List PyData → Prop} {R : Ex → List PyData → Prop} (hs : isSrc s) (k : ∀ r s', 0 ≤ r → r < n → isSrc s' → Q (.int r) [s']) (h1 : 0 < n := by decide) (h2 : n < 2 ^ 100 := by decide) : sp_law_takeW [s, .int n] Q R := ⟨s, n, rfl, hs, h1, h2, k⟩
theorem w_law_step : ∀ ds Qd Rd, sp_law_step ds Qd Rd → b_law_step (fin [.io, .d, .d] Qd Rd) (startE 6 [.io, .d, .d] ds) := by
  rintro ds Qd Rd ⟨s, ls, rfl, hs, hl, q⟩
  unfold b_law_step
  walk_at "bx ux"
  refine one_go hs (fun x hx s1 hs1 => ?_) hl.2.1 (by have := hl.2.2; omega)
  walk_at "bx ux"
  refine take_goW hs1 fun r s2 hr1 hr2 hs2 => ?_
  show b_law_step_8 (fin [.io, .d, .d] Qd Rd) [.io s2, .v g_QUEUE, .v (.list ls), .v x, .v (.int r), .e]
  unfold b_law_step_8 g_QUEUE
  walk_at "bx ux"
  walk_at "bx ui"
  refine ⟨_, at0, eqS ⟨_, rfl, ?_⟩⟩
  rw [if_neg (by decide)]
  unfold b_law_step_7
  walk_at "bx ux"
  walk_at "bx ui"
  refine ⟨_, at0, eqS ⟨_, rfl, ?_⟩⟩
  rw [if_pos (by decide)]
  refine eqI2 (fun e => ?_) (fun e => ?_)
  · exact ⟨_, rfl, itT ⟨by decide, q (stp true x) s2 ⟨true, x, rfl, hl.1 x hx⟩ hs2⟩⟩
  · exact ⟨_, rfl, itF ⟨by decide, q (stp false x) s2 ⟨false, x, rfl, hl.1 x hx⟩ hs2⟩⟩
theorem w_law_planted : ∀ ds Qd Rd, sp_law_planted ds Qd Rd → b_law_planted (fin [.d, .ro, .d] Qd Rd) (startE 5 [.d, .ro, .d] ds) := by
  rintro ds Qd Rd ⟨xs, d, rfl, hx, hl, hd, q⟩
  have q2 := q
  obtain ⟨b, x, rfl, hx1⟩ := hd
  unfold b_law_planted stp
  walk_at "bx ux"
  walk_at "bx ui"
  refine ⟨_, at0, by decide, ?_⟩
  refine ninStrs (l := ["pop", "take"]) ?_
  refine ⟨_, rfl, ?_⟩
  cases b with
  | true =>
    rw [if_pos (by decide)]
    exact q _ ⟨true, x, rfl, hx1⟩
  | false =>
    rw [if_neg (by decide)]
    unfold b_law_planted_3
    walk_at "bx ux"
    refine ⟨by decide, ?_⟩
    refine Exists.intro _ (And.intro rfl ?_)
    refine ⟨fun i env => ∃ l s4, env = [.v g_QUEUE, .ro xs, .v (stp false x), .v (.list l), s4] ∧ wd l ∧ l.length ≤ i, ⟨[], .e, rfl, wd_nil, Nat.le_refl _⟩, ?_, ?_⟩
    · rintro i d env hd ⟨l, s4, rfl, hw, hlen⟩
      have hi := (List.getElem?_eq_some_iff.mp hd).1
      obtain ⟨b', y, rfl, hy⟩ := hx d (List.mem_of_getElem? hd)
      have sz : (100 : Nat) ≤ sizeLine := by decide
      unfold stp
      walk_at "bx ux"
      walk_at "bx ui"
      refine ⟨_, at0, eqS ?_⟩
      refine ⟨_, rfl, ?_⟩
      rw [if_neg (by cases b' <;> decide)]
      refine ⟨_, at0, eqS ?_⟩
      refine ⟨_, rfl, ?_⟩
      cases b' with
      | true =>
        rw [if_pos (by decide)]
        refine ⟨_, at1, by decide, by rw [List.length_cons, List.length_nil]; omega, l ++ [y], _, rfl, wd_app hw (fun z hz => by rw [List.mem_singleton.mp hz]; exact hy), by rw [List.length_append]; simp; omega⟩
      | false =>
        rw [if_neg (by decide)]
        refine ⟨by decide, neLs hw wd_nil (fun e => ?_) (fun e => ?_)⟩
        · exact ⟨_, rfl, itF ⟨l, _, rfl, hw, by omega⟩⟩
        · refine ⟨_, rfl, itT ⟨cutD l (some 1) none, _, rfl, wd_cut hw, ?_⟩⟩
          have : (cutD l (some 1) none).length ≤ l.length := cut_len
          omega
    · rintro env ⟨l, s4, rfl, hw, hlen⟩
      show b_law_planted_1 (fin [.d, .ro, .d] Qd Rd) [.v g_QUEUE, .ro xs, .v (stp false x), .v (.list l), s4]
      unfold b_law_planted_1 stp
      walk_at "bx ux"
      walk_at "bx ui"
      refine ⟨by decide, neLs hw wd_nil (fun e => ?_) (fun e => ?_)⟩
      · exact ⟨_, rfl, itF (q _ ⟨false, x, rfl, hx1⟩)⟩
      · refine ⟨_, rfl, itT ?_⟩
        cases l with
        | nil => exact absurd rfl e
        | cons y l =>
          exact ⟨_, at0, _, at0, by decide, q _ ⟨false, y, rfl, hw y List.mem_cons_self⟩⟩
theorem w_law_row : ∀ ds Qd Rd, sp_law_row ds Qd Rd → b_law_row (fin [.io, .d, .d, .d] Qd Rd) (startE 7 [.io, .d, .d, .d] ds) := by
  rintro ds Qd Rd ⟨s, ls, rfl, hs, hl, q⟩
  unfold b_law_row
  walk_at "bx ux"
  refine ⟨by decide, ?_⟩
  unfold b_law_row_4
  show sFor _ _ _ _ _
  unfold sFor
  walk_at "bx ux"
  walk_at "bx ui"
  refine take_goW hs (fun r s1 h1 h2 hs1 => ?_) (by decide) (by decide)
  refine ⟨_, rfl, ⟨by omega, by omega⟩, ?_⟩
  refine ⟨fun i env => ∃ s2 xs s5 s6, env = [.io s2, .v g_QUEUE, .v (.list ls), .v (.int 7), .o (.list xs), s5, s6] ∧ isSrc s2 ∧ xs.length = i ∧ ∀ x ∈ xs, isStep x, ⟨s1, [], .e, .e, rfl, hs1, rfl, by simp⟩, ?_, ?_⟩
  · rintro i d env hd ⟨s2, xs, s5, s6, rfl, hs2, rfl, hx⟩
    have hi := (List.getElem?_eq_some_iff.mp hd).1
    rw [rangeD_len] at hi
    have hi : xs.length < 8 := by omega
    have sz : (100 : Nat) ≤ sizeLine := by decide
    have fin_ : ∀ s3 st, isSrc s3 → isStep st → b_law_row_1 { nx := fun env => ∃ s2 xs_1 s5 s6, env = [.io s2, .v g_QUEUE, .v (.list ls), .v (.int 7), .o (.list xs_1), s5, s6] ∧ isSrc s2 ∧ xs_1.length = xs.length + 1 ∧ ∀ x ∈ xs_1, isStep x, ct := fun env => ∃ s2 xs_1 s5 s6, env = [.io s2, .v g_QUEUE, .v (.list ls), .v (.int 7), .o (.list xs_1), s5, s6] ∧ isSrc s2 ∧ xs_1.length = xs.length + 1 ∧ ∀ x ∈ xs_1, isStep x, bk := b_law_row_3 (fin [.io, .d, .d, .d] Qd Rd), rt := (fin [.io, .d, .d, .d] Qd Rd).rt, rs := (fin [.io, .d, .d, .d] Qd Rd).rs, own := (fin [.io, .d, .d, .d] Qd Rd).own } [.io s3, .v g_QUEUE, .v (.list ls), .v (.int 7), .o (.list xs), .v d, .v st] := by
      intro s3 st hs3 hst
      unfold b_law_row_1
      walk_at "bx ux"
      refine ⟨⟨_, rfl⟩, xs, rfl, by omega, s3, xs ++ [st], .v d, .v st, rfl, hs3, by simp, fun z hz => ?_⟩
      rcases (List.mem_append.mp hz) with hz | hz
      · exact hx z hz
      · rw [List.mem_singleton.mp hz]; exact hst
    walk_at "bx ux"
    refine ⟨s2, ls, rfl, hs2, hl, fun st s3 hst hs3 => ?_⟩
    show b_law_row_2 _ [.io s3, .v g_QUEUE, .v (.list ls), .v (.int 7), .o (.list xs), .v d, .v st]
    unfold b_law_row_2 g_QUEUE
    walk_at "bx ux"
    walk_at "bx ui"
    refine ⟨_, at0, by decide, ?_⟩
    refine inStrs (l := ["stack", "queue"]) ?_
    refine ⟨_, rfl, ?_⟩
    rw [if_pos (by decide)]
    refine take_goW hs3 (fun r s4 g1 g2 hs4 => ?_) (by decide) (by decide)
    refine eqI2 (fun e => ?_) (fun e => ?_)
    · refine ⟨_, rfl, itT ?_⟩
      refine ⟨fun i _ h => h, ?_⟩
      walk_at "bx ux"
      exact ⟨xs, rfl, xs, st, rfl, hx, by omega, hst, fun r' hr' => fin_ s4 r' hs4 hr'⟩
    · exact ⟨_, rfl, itF (fin_ s4 st hs4 hst)⟩
  · rintro env ⟨s2, xs, s5, s6, rfl, hs2, hlen, hx⟩
    rw [rangeD_len] at hlen
    show b_law_row_3 (fin [.io, .d, .d, .d] Qd Rd) [.io s2, .v g_QUEUE, .v (.list ls), .v (.int 7), .o (.list xs), s5, s6]
    unfold b_law_row_3
    walk_at "bx ux"
    exact ⟨xs, rfl, q xs s2 hx (by omega) hs2⟩
theorem w_law_contents : ∀ ds Qd Rd, sp_law_contents ds Qd Rd → b_law_contents (fin [.io, .d, .d] Qd Rd) (startE 12 [.io, .d, .d] ds) := by
  rintro ds Qd Rd ⟨s, ls, rfl, hs, hl, q⟩
  have sz : (101 : Nat) ≤ sizeLine := by decide
  have h100 := hl.2.2
  unfold b_law_contents g_QUEUE
  walk_at "bx ux"
  walk_at "bx ui"
  refine ⟨_, at0, by decide, ?_⟩
  refine inStrs (l := ["stack", "queue", "ring"]) ?_
  refine ⟨_, rfl, ?_⟩
  rw [if_pos (by decide)]
  refine ⟨_, at0, eqS ⟨_, rfl, ?_⟩⟩
  rw [if_neg (by decide)]
  unfold b_law_contents_1
  walk_at "bx ux"
  refine lcIo (E := fun s => [Sl.io s, Sl.v g_QUEUE, Sl.v (.list ls), Sl.v (.int 4), Sl.e, Sl.e, Sl.e, Sl.e, Sl.e, Sl.e, Sl.e, Sl.e]) (p := fun x => isLetter x = true) (N := fun n => n ≤ 4) (fun K h => ?_) (fun n h => by omega) (fun s => rfl) (fun s d => rfl) (fun s s' => rfl) (fun d s Q' R' hs h => ?_) (fun n acc s' hn hacc hp hs' => ?_)
  · walk_at "bx ux"
    walk_at "bx ui"
    refine take_goW hs (fun r s1 h1 h2 hs1 => ?_) (by decide) (by decide)
    exact ⟨r, rfl, by omega, h r.toNat s1 (by omega) hs1⟩
  · walk_at "bx ux"
    walk_at "bx ui"
    refine ⟨by decide, by rw [List.length_cons, List.length_nil]; omega, ?_⟩
    refine one_go hs (fun x hx s1 hs1 => ?_) (by rw [List.length_append]; simp) (by rw [List.length_append]; simp; omega)
    refine h x s1 ?_ hs1
    rcases (List.mem_append.mp hx) with hx | hx
    · exact hl.1 x hx
    · rw [List.mem_singleton.mp hx]; decide
  · exact ⟨_, rfl, q acc s' hp (by omega) hs'⟩
theorem w_law_turned_word : ∀ ds Qd Rd, sp_law_turned_word ds Qd Rd → b_law_turned_word (fin [.d, .d] Qd Rd) (startE 3 [.d, .d] ds) := by
  rintro ds Qd Rd ⟨w, far, rfl, hw, h1, h2, h3, q⟩
  unfold b_law_turned_word
  walk_at "bx ux"
  refine lcMap (env1 := [Sl.v (.tuple w), Sl.v (.int far), Sl.e]) (ds := (List.range w.length).map fun i : Nat => .int (i : Int)) (f := fun d => match d with
    | .int i => w.getD ((far + i.toNat) % w.length) .none
    | _ => .none) (fun K h => ?_) rfl ?_ (fun d hd Q' R' q' => ?_) ?_
  · refine ⟨w.length, rfl, by omega, ?_⟩
    have e : rangeD 0 (w.length : Int).toNat = (List.range w.length).map fun i : Nat => PyData.int (i : Int) := by
      unfold rangeD
      simp
    rw [e]
    exact h
  · rw [List.length_map]; rw [List.length_range]
    exact Nat.le_trans h2 (by decide)
  · obtain ⟨i, hi, rfl⟩ := List.mem_map.mp hd
    have hi := List.mem_range.mp hi
    show dIx (dVar 0) (dBin modD (dCB intD [dBin addD (dVar 1) (dVar 2)]) (dCB lenD [dVar 0])) [Sl.v (.tuple w), Sl.v (.int far), Sl.v (.int (i : Int))] Q' R'
    walk_at "bx ux"
    walk_at "bx ui"
    refine ⟨by omega, w.getD ((far + i) % w.length) .none, ?_, ?_⟩
    · rw [show (far : Int) + (i : Int) = ((far + i : Nat) : Int) from rfl, fmodN]
      exact atN (getD_some (Nat.mod_lt _ h1))
    · have q' : Q' (w.getD ((far + ((i : Nat) : Int).toNat) % w.length) .none) _ := q'
      rw [Int.toNat_natCast] at q'
      exact q'
  · refine q _ (fun x hx => ?_) (by simp)
    rw [List.map_map] at hx
    obtain ⟨i, hi, rfl⟩ := List.mem_map.mp hx
    exact letAt hw (Nat.mod_lt _ h1)
theorem w_law_normal : ∀ ds Qd Rd, sp_law_normal ds Qd Rd → b_law_normal (fin [.d, .d, .d] Qd Rd) (startE 4 [.d, .d, .d] ds) := by
  rintro ds Qd Rd ⟨u, v, l, rfl, hu, hv, h1, h2, h3, q⟩
  unfold b_law_normal
  refine Exists.intro (l : Int) (Exists.intro ((u.length : Int) + 1) (And.intro rfl (And.intro rfl (And.intro (by omega) ?_))))
  have elen : ((u.length : Int) + 1 - l).toNat = u.length + 1 - l := by omega
  rw [elen]
  refine ⟨fun i env => (∀ j, l ≤ j → j < l + i → ¬ okF u v j) ∧ ∃ s3, env = [.v (.tuple u), .v (.tuple v), .v (.int l), s3], ⟨fun j g1 g2 => by omega, _, rfl⟩, ?_, ?_⟩
  · rintro i d env hd ⟨hno, s3, rfl⟩
    have hi := (List.getElem?_eq_some_iff.mp hd).1
    rw [rangeD_len] at hi
    have ed : d = .int ((l + i : Nat) : Int) := by
      unfold rangeD at hd
      rw [List.getElem?_map, List.getElem?_range hi] at hd
      simp at hd
      rw [← hd]
      simp
    subst ed
    walk_at "bx ux"
    walk_at "bx ui"
    have found : okF u v (l + i) → Qd (.int ((l + i : Nat) : Int)) [] := fun ok => q _ ok fun _ => ⟨by omega, ok, hno⟩
    refine eqI2 (fun e => ?_) (fun e => ?_)
    · refine ⟨_, rfl, itT ?_⟩
      have e : l + i = u.length := by omega
      exact found (e ▸ okF_len)
    · refine ⟨_, rfl, itF ?_⟩
      have e2 : (u.length : Int) - ((l + i : Nat) : Int) = ((u.length - (l + i) : Nat) : Int) := by omega
      rw [e2]
      simp only [slD]
      rw [cut_lo, cut_hi]
      refine eqW (wd_drop hu _) (wd_take hv _) (fun e3 => ?_) (fun e3 => ?_)
      · refine ⟨_, rfl, itT (found ⟨by omega, .inr ?_⟩)⟩
        rw [e3]
        exact List.take_prefix _ _
      · refine ⟨_, rfl, itF ⟨fun j g1 g2 => ?_, _, rfl⟩⟩
        by_cases hj : j = l + i
        · subst hj
          rintro ⟨g3, g4 | g4⟩
          · omega
          · apply e3
            have := List.prefix_iff_eq_take.mp g4
            rw [List.length_drop] at this
            exact this
        · exact hno j g1 (by omega)
  · rintro env ⟨hno, s3, rfl⟩
    rw [rangeD_len] at hno
    show b_law_normal_1 (fin [.d, .d, .d] Qd Rd) [.v (.tuple u), .v (.tuple v), .v (.int l), s3]
    unfold b_law_normal_1
    walk_at "bx ux"
    walk_at "bx ui"
    exact q u.length okF_len fun hl => ⟨hl, okF_len, fun j g1 g2 => hno j g1 (by omega)⟩
theorem w_need_power : ∀ ds Qd Rd, sp_need_power ds Qd Rd → b_need_power (fin [.d, .d] Qd Rd) (startE 2 [.d, .d] ds) := by
  rintro ds Qd Rd ⟨f, n, rfl, hf, q1, q2, q3⟩
  unfold b_need_power
  walk_at "bx ux"
  refine ⟨_, rfl, hf, fun h => ?_, q1⟩
  unfold b_need_power_1
  walk_at "bx ux"
  exact ⟨_, _, _, rfl, q3 h, q2 h⟩
theorem cmR {a b : Int} (h : -1000 ≤ b ∧ b ≤ 1000) : CMul a b := .inr (by omega)
theorem w_depth_of : ∀ ds Qd Rd, sp_depth_of ds Qd Rd → b_depth_of (fin [.d, .d] Qd Rd) (startE 5 [.d, .d] ds) := by
  rintro ds Qd Rd ⟨u, v, d, n, rfl, ⟨hu, hv, hul, hvl, ok⟩, h1, h2, q⟩
  unfold b_depth_of
  refine g3 (a := 2) (b := 3) (c := 4) (x := .tuple u) (y := .tuple v) (z := .int d) (env := [.v (frm u v d), .v (.int n), .e, .e, .e]) ?_
  unfold b_depth_of_1
  walk_at "bx ux"
  walk_at "bx ui"
  refine ⟨cmR (by omega), ?_⟩
  rw [maxE]
  exact q
theorem mildF_Q {u v : List PyData} {d : Nat} (h : okP u v d) : mildF (frm u v d) := by
  obtain ⟨wu, wv, lu, lv, _⟩ := h
  refine ⟨by show 3 ≤ 100; decide, fun x hx => ?_⟩
  have one : ∀ {w : List PyData}, wd w → w.length ≤ 30 → mildW (.tuple w) := fun {w} hw hl => ⟨by omega, fun x hx => by
    obtain ⟨s, rfl⟩ := letter_str (hw x hx)
    have := let_len (hw _ hx) s rfl
    have h4 : s.length ≤ 4 := by
      have := hw _ hx
      simp only [isLetter] at this
      simp at this
      omega
    show s.length ≤ 100
    omega⟩
  rcases (List.mem_cons.mp hx) with rfl | hx
  · exact one wu lu
  · rcases List.mem_cons.mp hx with rfl | hx
    · exact one wv lv
    · rcases List.mem_cons.mp hx with rfl | hx
      · trivial
      · cases hx
theorem isQF_Q {u v : List PyData} {d : Nat} (h : okP u v d) : isQF (frm u v d) = true := by
  obtain ⟨wu, wv, lu, lv, ok⟩ := h
  rw [qf_eq wu wv (by omega) (by omega) ok.1]
  exact @decide_eq_true _ (Classical.propDecidable _) ok
theorem wd_way {xs : List PyData} (h : ∀ x ∈ xs, isStep x) (b : Bool) : wd ((xs.filter (wayD b)).map sndD) := fun y hy => by
  obtain ⟨d, h1, rfl⟩ := List.mem_map.mp hy
  obtain ⟨b', x, rfl, hx⟩ := h d (List.mem_filter.mp h1).1
  exact hx
theorem len_way {xs : List PyData} (b : Bool) : ((xs.filter (wayD b)).map sndD).length ≤ xs.length := by
  rw [List.length_map]
  exact List.length_filter_le _ _
theorem wayD_stp {b b' : Bool} {x : PyData} : wayD b (stp b' x) = (b == b') := by cases b <;> cases b' <;> rfl
theorem way_lc {xs : List PyData} {env : Ev} {Q : PyData → Ev → Prop} {R : Ex → Ev → Prop} {s1 s2 s3 s4 : Sl} {w : Str} (b : Bool) (hw : w = if b = true then ("put" : Str) else ("take" : Str)) (he : env = [.v (.tuple xs), s1, s2, s3, s4, .e]) (h : ∀ x ∈ xs, isStep x) (hl : xs.length ≤ 7) (q : Q (.list ((xs.filter (wayD b)).map sndD)) env) :
    dLc [5] (iD (dVar 0)) (gN 5) (dTst (dBin eqD (dIx (dVar 5) (dC (.int 0))) (dC (.str w)))) (dIx (dVar 5) (dC (.int 1))) env Q R := by
  subst he
  refine lcFilt (env1 := [.v (.tuple xs), s1, s2, s3, s4, .e]) (ds := xs) (p := wayD b) (f := sndD) (fun K h => ⟨xs, rfl, h⟩) rfl (Nat.le_trans hl (by decide)) (fun d hd Q' R' q' => ?_) (fun d hd Q' R' q' => ?_) q
  · obtain ⟨b', x, rfl, hx⟩ := h d hd
    unfold stp at q' ⊢
    walk_at "bx ux"
    walk_at "bx ui"
    refine ⟨_, at0, eqS ⟨_, rfl, ?_⟩⟩
    rw [hw]
    have q' : Q' (wayD b (stp b' x)) _ := q'
    rw [wayD_stp] at q'
    cases b <;> cases b' <;> exact q'
  · obtain ⟨b', x, rfl, hx⟩ := h d hd
    exact Exists.intro _ (And.intro at1 q')
end BX
/-! K18d -/
namespace BX
local macro_rules | `(tactic| walk_at "bx ux") => `(tactic| simp only [dChain3, iE, sSeq, sNil, sRet, sRetO, sRetN, sSet, sSetO, sIf, sAsg, sExpr, sPar, sApp, sBrk, sCnt, sAug, sRaise, sNever, sSet2, dTupP, dSlP, iR2, iRo, gLs, dMulN, dAnd, dOr, dNot, dIsi, dIsi2, dVar, dC, dNeg, dBin, dChain, dTst, dTru, dNotT, dAndT, dOrT, dIte, dTup, dLst, dCB, dCall, dCall1, dA, dX, AK.mo, ioIx, roIx, putL, putO, ow, pk, setS, dIx, dIxP, dLenP, dTruP, dEqP, dSl, dNo, dSo, dJoin, dD0, gN, gTp, gsNil, gsCons, gIx, iD, iS, iR1, dYes, dPop, dPopAt, inTab, ixTab, startE, inE, outE, List.map_cons, List.map_nil, List.length_cons, List.length_nil, List.getElem?_cons_zero, List.getElem?_cons_succ, List.set_cons_zero, List.set_cons_succ, List.cons_append, List.nil_append, List.replicate, Nat.reduceSub, Nat.reduceAdd, Nat.zero_add, Nat.sub_self, Option.map_some, Option.map_none, exOut, exEq, exEq', truthB, truthOkB, fnD, kit_int, kit_bool, kit_str, kit_list, kit_tuple, Option.some.injEq, true_and, and_true, List.zip_cons_cons, List.zip_nil_left, List.not_mem_nil, false_and, List.nodup_nil, Option.isSome_some, nd1, fi])
local macro_rules | `(tactic| walk_at "bx ui") => `(tactic| simp only [addI, addSt, addTu, addLi, subI, mulI, mulLi, modI, fdivI, powI, ltI, leI, gtI, geI, intI, intB, lenLi, lenTu, lenSt, maxI, minI, mulTu, ixLi, ixTu, ixSt, boolEq, intEq, true_and, and_true, truthB, truthOkB, exOut, exEq, exEq'])
open PySem PySem.Spec L2
theorem w_law_form : ∀ ds Qd Rd, sp_law_form ds Qd Rd → b_law_form (fin [.d] Qd Rd) (startE 6 [.d] ds) := by
  rintro ds Qd Rd ⟨xs, rfl, hx, hl, q⟩
  unfold b_law_form
  walk_at "bx ux"
  refine way_lc (w := "take") (env := [.v (.tuple xs), .e, .e, .e, .e, .e]) false rfl rfl hx hl ?_
  show b_law_form_5 (fin [.d] Qd Rd) [.v (.tuple xs), .v (.tuple ((xs.filter (wayD false)).map sndD)), .e, .e, .e, .e]
  unfold b_law_form_5
  walk_at "bx ux"
  refine way_lc (w := "put") (env := [.v (.tuple xs), .v (.tuple ((xs.filter (wayD false)).map sndD)), .e, .e, .e, .e]) true rfl rfl hx hl ?_
  generalize hu : (xs.filter (wayD false)).map sndD = u
  generalize hv : (xs.filter (wayD true)).map sndD = v
  have wu : wd u := hu ▸ wd_way hx false
  have wv : wd v := hv ▸ wd_way hx true
  have lu : u.length ≤ 7 := by have := len_way (xs := xs) false; rw [hu] at this; omega
  have lv : v.length ≤ 7 := by have := len_way (xs := xs) true; rw [hv] at this; omega
  show b_law_form_4 (fin [.d] Qd Rd) [.v (.tuple xs), .v (.tuple u), .v (.tuple v), .e, .e, .e]
  unfold b_law_form_4
  refine And.intro (by decide) ?_
  refine Exists.intro _ (And.intro rfl (And.intro rfl (Exists.intro _ (Exists.intro _ (And.intro rfl (Exists.intro _ (Exists.intro _ (And.intro rfl (And.intro rfl ?_)))))))))
  show b_law_form_3 (fin [.d] Qd Rd) [.v (.tuple xs), .v (.tuple u), .v (.tuple v), .v (.int 0), .v (.int 0), .e]
  unfold b_law_form_3
  refine Exists.intro _ (And.intro rfl ?_)
  refine ⟨fun i env => ∃ a b s5, env = [.v (.tuple xs), .v (.tuple u), .v (.tuple v), .v (.int a), .v (.int b), s5] ∧ 0 ≤ a ∧ a ≤ i ∧ -i ≤ b ∧ b ≤ i, ⟨0, 0, _, rfl, by omega, by omega, by omega, by omega⟩, ?_, ?_⟩
  · rintro i d env hd ⟨a, b, s5, rfl, h1, h2, h3, h4⟩
    obtain ⟨b', x, rfl, hx⟩ := hx d (List.mem_of_getElem? hd)
    have go : ∀ b2 : Int, -(i + 1 : Int) ≤ b2 → b2 ≤ i + 1 → ∃ a3 b3 s5, [Sl.v (.tuple xs), Sl.v (.tuple u), Sl.v (.tuple v), Sl.v (.int (if b2 > a then b2 else a)), Sl.v (.int b2), Sl.v (stp b' x)] = [Sl.v (.tuple xs), Sl.v (.tuple u), Sl.v (.tuple v), Sl.v (.int a3), Sl.v (.int b3), s5] ∧ 0 ≤ a3 ∧ a3 ≤ ((i + 1 : Nat) : Int) ∧ -((i + 1 : Nat) : Int) ≤ b3 ∧ b3 ≤ ((i + 1 : Nat) : Int) := fun b2 g1 g2 => ⟨_, _, _, rfl, by split <;> omega, by split <;> omega, by omega, by omega⟩
    unfold stp at go ⊢
    walk_at "bx ux"
    walk_at "bx ui"
    refine ⟨_, at0, eqS ⟨_, rfl, ?_⟩⟩
    cases b' with
    | true =>
      rw [if_neg (by decide)]
      exact go _ (by omega) (by omega)
    | false =>
      rw [if_pos (by decide)]
      exact go _ (by omega) (by omega)
  · rintro env ⟨a, b, s5, rfl, h1, h2, h3, h4⟩
    show b_law_form_2 (fin [.d] Qd Rd) [.v (.tuple xs), .v (.tuple u), .v (.tuple v), .v (.int a), .v (.int b), s5]
    obtain ⟨l, rfl⟩ := Int.eq_ofNat_of_zero_le h1
    unfold b_law_form_2
    walk_at "bx ux"
    refine ⟨u, v, l, rfl, wu, wv, by omega, by omega, by omega, fun k ok _ => ?_⟩
    exact ⟨by decide, q u v k ⟨wu, wv, by omega, by omega, ok⟩⟩
section
variable {Qd : PyData → List PyData → Prop} {Rd : Ex → List PyData → Prop} {s : PyData} {ls r u v c : List PyData} {s1 s2 s3 s4 s5 s6 s7 s8 s9 s10 : Sl}
theorem rep_toNat {n : Int} {w : List PyData} : (List.replicate n.toNat w).flatten = rep n.toNat w := rfl
end
section
variable {Qd : PyData → List PyData → Prop} {Rd : Ex → List PyData → Prop} {s : PyData} {ls r u v c : List PyData} {s1 s2 s3 s4 s5 s6 s7 s8 s9 s10 : Sl}
/-- the end of a planted form -/
theorem pf_4 (hs : isSrc s) (wu : wd u) (wv : wd v) (wc : wd c) (lu : u.length ≤ 10) (lv : v.length ≤ 10) (q : ∀ u v d c s', okD u v d → wd c → c.length ≤ 50 → isSrc s' → Qd (.list [frm u v d, .tuple c]) [s']) (lc : c.length ≤ 50) :
    b_law_planted_form_4 (fin [.io, .d] Qd Rd) [.io s, s1, s2, s3, s4, s5, .v (.tuple u), .v (.tuple v), .v (.tuple c), s9, s10, .e] := by
  unfold b_law_planted_form_4
  walk_at "bx ux"
  walk_at "bx ui"
  rw [maxE]
  obtain ⟨a, ha⟩ := Int.eq_ofNat_of_zero_le (show 0 ≤ max (0 : Int) ((u.length : Int) - v.length) by omega)
  rw [ha]
  unfold b_law_planted_form_3
  walk_at "bx ux"
  walk_at "bx ui"
  refine take_goW hs (fun r s' h1 h2 hs' => ?_) (by omega) (by omega)
  obtain ⟨r, rfl⟩ := Int.eq_ofNat_of_zero_le h1
  refine ⟨u, v, a + r, rfl, wu, wv, by omega, by omega, by omega, fun k ok _ => ?_⟩
  show b_law_planted_form_2 (fin [.io, .d] Qd Rd) [.io s', s1, s2, s3, s4, s5, .v (.tuple u), .v (.tuple v), .v (.tuple c), s9, .v (.int k), .e]
  unfold b_law_planted_form_2
  walk_at "bx ux"
  exact ⟨by decide, by decide, q u v k c s' ⟨wu, wv, lu, lv, ok⟩ wc lc hs'⟩
end
section
variable {Qd : PyData → List PyData → Prop} {Rd : Ex → List PyData → Prop} {s : PyData} {ls r u v c : List PyData} {s1 s2 s3 s4 s5 s6 s7 s8 s9 s10 : Sl}
theorem pf_5 (hs : isSrc s) (hl : okL ls) (wu : wd u) (wv : wd v) (wc : wd c) (lu : u.length ≤ 10) (lv : v.length ≤ 9) (q : ∀ u v d c s', okD u v d → wd c → c.length ≤ 50 → isSrc s' → Qd (.list [frm u v d, .tuple c]) [s']) (lc : c.length ≤ 50) :
    b_law_planted_form_5 (fin [.io, .d] Qd Rd) [.io s, .v (.list ls), s2, s3, s4, s5, .v (.tuple u), .v (.tuple v), .v (.tuple c), .e, .e, .e] := by
  have sz : (100 : Nat) ≤ sizeLine := by decide
  unfold b_law_planted_form_5
  walk_at "bx ux"
  refine take_goW hs (fun r s' h1 h2 hs' => ?_) (by decide) (by decide)
  refine eqI2 (fun e => ?_) (fun e => ?_)
  · refine ⟨_, rfl, itT ?_⟩
    refine And.intro (by decide) (neW wv wd_nil (fun e => ?_) (fun e => ?_))
    · exact ⟨_, rfl, itF (pf_4 hs' wu wv wc lu (by omega) q lc)⟩
    · refine ⟨_, rfl, itT ?_⟩
      have vp : 0 < v.length := List.length_pos_iff.mpr e
      walk_at "bx ux"
      walk_at "bx ui"
      refine take_goW hs' (fun k s3 g1 g2 hs3 => ?_) (by omega) (by omega)
      obtain ⟨k, rfl⟩ := Int.eq_ofNat_of_zero_le g1
      show b_law_planted_form_1 _ [.io s3, .v (.list ls), s2, _, s4, s5, .v (.tuple u), .v (.tuple v), .v (.tuple c), .v (.int k), .e, .e]
      unfold b_law_planted_form_1
      walk_at "bx ux"
      refine ⟨_, rfl, ?_⟩
      simp only [slTu]
      refine one_go hs3 (fun x hx s4' hs4 => ?_) hl.2.1 (by have := hl.2.2; omega)
      have cl : ∀ {lo hi : Option Int}, (cutD v lo hi).length ≤ v.length := cut_len
      have e1 : (cutD v none (some (k : Int))).length ≤ k := by rw [cut_hi, List.length_take]; omega
      have e2 : (cutD v (some ((k : Int) + 1)) none).length ≤ v.length - (k + 1) := by
        rw [show (k : Int) + 1 = ((k + 1 : Nat) : Int) from rfl, cut_lo, List.length_drop]; omega
      walk_at "bx ux"
      simp only [slTu, addTu]
      walk_at "bx ux"
      simp only [slTu, addTu, addI, exEq, exEq', intEq]
      refine ⟨by decide, by have := cl (lo := none) (hi := some (k : Int)); omega, by rw [List.length_append, List.length_cons, List.length_nil]; omega, ?_⟩
      refine pf_4 hs4 wu ?_ wc lu ?_ q lc
      · refine wd_app (wd_app (wd_cut wv) fun y hy => ?_) (wd_cut wv)
        rw [List.mem_singleton.mp hy]
        exact hl.1 x hx
      · rw [List.length_append, List.length_append, List.length_cons, List.length_nil]
        omega
  · exact ⟨_, rfl, itF (pf_4 hs' wu wv wc lu (by omega) q lc)⟩
end
section
variable {Qd : PyData → List PyData → Prop} {Rd : Ex → List PyData → Prop} {s : PyData} {ls r u v c : List PyData} {s1 s2 s3 s4 s5 s6 s7 s8 s9 s10 : Sl}
theorem w_law_planted_form : ∀ ds Qd Rd, sp_law_planted_form ds Qd Rd → b_law_planted_form (fin [.io, .d] Qd Rd) (startE 12 [.io, .d] ds) := by
  rintro ds Qd Rd ⟨s, ls, rfl, hs, hl, q⟩
  have sz : (101 : Nat) ≤ sizeLine := by decide
  unfold b_law_planted_form
  walk_at "bx ux"
  refine lcIo (E := fun s => [Sl.io s, Sl.v (.list ls), Sl.e, Sl.e, Sl.e, Sl.e, Sl.e, Sl.e, Sl.e, Sl.e, Sl.e, Sl.e]) (p := fun x => isLetter x = true) (N := fun n => 1 ≤ n ∧ n ≤ 3) (fun K h => ?_) (fun n h => by omega) (fun s => rfl) (fun s d => rfl) (fun s s' => rfl) (fun d s Q' R' hs h => ?_) (fun n acc s' hn hacc hp hs' => ?_)
  · walk_at "bx ux"
    refine take_goW hs (fun r s1 h1 h2 hs1 => ?_) (by decide) (by decide)
    exact ⟨1 + r, rfl, by omega, h (1 + r).toNat s1 (by omega) hs1⟩
  · walk_at "bx ux"
    exact one_go hs (fun x hx s1 hs1 => h x s1 (hl.1 x hx) hs1) hl.2.1 (by have := hl.2.2; omega)
  · show b_law_planted_form_8 (fin [.io, .d] Qd Rd) [.io s', .v (.list ls), .v (.tuple acc), .e, .e, .e, .e, .e, .e, .e, .e, .e]
    have wa : wd acc := hp
    unfold b_law_planted_form_8
    walk_at "bx ux"
    refine take_goW hs' (fun far t1 f1 f2 ht1 => ?_) (by decide) (by decide)
    walk_at "bx ux"
    refine take_goW ht1 (fun fv t2 g1 g2 ht2 => ?_) (by decide) (by decide)
    walk_at "bx ui"
    walk_at "bx ux"
    refine take_goW ht2 (fun se t3 i1 i2 ht3 => ?_) (by decide) (by decide)
    obtain ⟨far, rfl⟩ := Int.eq_ofNat_of_zero_le f1
    obtain ⟨fv, rfl⟩ := Int.eq_ofNat_of_zero_le g1
    obtain ⟨se, rfl⟩ := Int.eq_ofNat_of_zero_le i1
    show b_law_planted_form_7 (fin [.io, .d] Qd Rd) [.io t3, .v (.list ls), .v (.tuple acc), .v (.int far), .v (.int (1 + fv)), .v (.int se), .e, .e, .e, .e, .e, .e]
    unfold b_law_planted_form_7
    walk_at "bx ux"
    walk_at "bx ui"
    refine ⟨by omega, acc, far, rfl, wa, by omega, by omega, by omega, fun w ww lw => ?_⟩
    walk_at "bx ui"
    refine ⟨by omega, ?_⟩
    rw [rep_toNat, rep_toNat]
    show b_law_planted_form_6 (fin [.io, .d] Qd Rd) [.io t3, .v (.list ls), .v (.tuple acc), .v (.int far), .v (.int (1 + fv)), .v (.int se), .v (.tuple (rep (1 + (fv : Int)).toNat acc)), .v (.tuple (rep (se : Int).toNat w)), .e, .e, .e, .e]
    unfold b_law_planted_form_6
    walk_at "bx ux"
    walk_at "bx ui"
    refine ⟨by omega, ?_⟩
    simp only [slTu]
    have l1 : (rep (1 + (fv : Int)).toNat acc).length ≤ 10 := by
      rw [len_rep]
      have : (1 + (fv : Int)).toNat * acc.length ≤ 2 * 3 := Nat.mul_le_mul (by omega) (by omega)
      omega
    have l2 : (rep (se : Int).toNat w).length ≤ 9 := by
      rw [len_rep]
      have : (se : Int).toNat * w.length ≤ 3 * 3 := Nat.mul_le_mul (by omega) (by omega)
      omega
    refine pf_5 ht3 hl (wd_rep wa _) (wd_rep ww _) (wd_cut (wd_rep wa _)) l1 l2 q ?_
    refine Nat.le_trans cut_len ?_
    rw [rep_toNat, len_rep]
    have : (5 : Int).toNat * acc.length ≤ 5 * 3 := Nat.mul_le_mul (by decide) (by omega)
    omega
end
section
variable {Qd : PyData → List PyData → Prop} {Rd : Ex → List PyData → Prop} {s : PyData} {ls r u v c : List PyData} {s1 s2 s3 s4 s5 s6 s7 s8 s9 s10 : Sl}
theorem w_law_drawn_form : ∀ ds Qd Rd, sp_law_drawn_form ds Qd Rd → b_law_drawn_form (fin [.io, .d] Qd Rd) (startE 4 [.io, .d] ds) := by
  rintro ds Qd Rd ⟨s, ls, rfl, hs, hl, q⟩
  unfold b_law_drawn_form
  walk_at "bx ux"
  refine take_goW hs (fun r s1 h1 h2 hs1 => ?_) (by decide) (by decide)
  walk_at "bx ui"
  by_cases hr : 0 < r
  · rw [decide_eq_true hr]
    refine itT ?_
    walk_at "bx ux"
    exact ⟨s1, ls, rfl, hs1, hl, fun u v d c s' h1 h2 h3 h4 => ⟨_, rfl, q u v d c s' h1 h2 h3 h4⟩⟩
  · rw [decide_eq_false hr]
    refine itF ?_
    show b_law_drawn_form_4 (fin [.io, .d] Qd Rd) [.io s1, .v (.list ls), .e, .e]
    unfold b_law_drawn_form_4
    walk_at "bx ux"
    refine ⟨by decide, s1, ls, rfl, hs1, hl, fun xs s2 hx hlen hs2 => ?_⟩
    refine ⟨xs, rfl, hx, hlen, fun u v d ok => ?_⟩
    show b_law_drawn_form_3 (fin [.io, .d] Qd Rd) [.io s2, .v (.list ls), .v (frm u v d), .e]
    unfold b_law_drawn_form_3
    walk_at "bx ux"
    refine ⟨by decide, s2, ls, rfl, hs2, hl, fun c s3 wc lc hs3 => ?_⟩
    show b_law_drawn_form_2 (fin [.io, .d] Qd Rd) [.io s3, .v (.list ls), .v (frm u v d), .v (.tuple c)]
    have fin_ : ∀ c s4, wd c → c.length ≤ 50 → isSrc s4 → b_law_drawn_form_1 (fin [.io, .d] Qd Rd) [.io s4, .v (.list ls), .v (frm u v d), .v (.tuple c)] := by
      intro c s4 wc lc hs4
      unfold b_law_drawn_form_1
      walk_at "bx ux"
      exact ⟨by decide, q u v d c s4 ok wc lc hs4⟩
    unfold b_law_drawn_form_2
    walk_at "bx ux"
    refine take_goW hs3 (fun r s4 g1 g2 hs4 => ?_) (by decide) (by decide)
    refine eqI2 (fun e => ?_) (fun e => ?_)
    · refine ⟨_, rfl, itT ?_⟩
      unfold frm
      walk_at "bx ux"
      walk_at "bx ui"
      refine ⟨_, at0, ?_⟩
      walk_at "bx ui"
      refine ⟨by have := ok.2.2.1; omega, ?_⟩
      refine take_goW hs4 (fun k s5 i1 i2 hs5 => ?_) (by decide) (by decide)
      obtain ⟨k, rfl⟩ := Int.eq_ofNat_of_zero_le i1
      refine ⟨_, rfl, ?_⟩
      simp only [slTu]
      rw [cut_hi]
      exact fin_ _ _ (wd_take (wd_rep ok.1 _) _) (by rw [List.length_take]; omega) hs5
    · exact ⟨_, rfl, itF (fin_ c s4 wc (by omega) hs4)⟩
end
end BX
/-! K18e -/
namespace BX
open PySem PySem.Spec L2
section
variable {u v c r : List PyData} {d n : Nat}
/-- what is known of how far v's letters match at each of u's -/
def MZ (u v : List PyData) (zs : List Nat) : Prop := zs.length = u.length + (u.length + v.length) ∧ ∀ i z, zs[i]? = some z → isLcp (cyc v 0 (u.length + v.length)) ((cyc u 0 (u.length + (u.length + v.length))).drop i) z
end
def ilist (lo : Int) (m : Nat) : List Int := (List.range m).map fun i : Nat => lo + (i : Int)
section
variable {Qd : PyData → List PyData → Prop} {Rd : Ex → List PyData → Prop} {u v : List PyData} {d n : Nat}
/-- how far v's letters match at k -/
def zAt (u : List PyData) (zs : List Nat) (k : Int) : Int := ((zs.getD (k.toNat % u.length) 0 : Nat) : Int)
end
theorem depth_ok {u v : List PyData} {d n : Nat} (ok : okF u v d) (h1 : 1 ≤ n) : (d : Int) ≤ depthI u v d n ∧ depthI u v d n ≤ ((n * u.length : Nat) : Int) := by
  unfold depthI
  have hd : d ≤ u.length := ok.1
  obtain ⟨m, rfl⟩ : ∃ m, n = m + 1 := ⟨n - 1, (by omega)⟩
  have e1 : ((m + 1 : Nat) : Int) - 1 = m := by omega
  rw [e1]
  have e2 : (m : Int) * ((u.length : Int) - v.length) ≤ (m : Int) * u.length := Int.mul_le_mul_of_nonneg_left (by omega) (by omega)
  have e3 : (((m + 1) * u.length : Nat) : Int) = (m : Int) * u.length + u.length := by
    rw [Nat.add_mul, Nat.one_mul]; simp
  have e4 : (0 : Int) ≤ (m : Int) * u.length := Int.mul_nonneg (by omega) (by omega)
  rw [e3]
  generalize (m : Int) * ((u.length : Int) - v.length) = a at *
  generalize (m : Int) * (u.length : Int) = b at *
  omega
section
variable {u v c r : List PyData} {d n : Nat}
/-- how many letters are needed -/
theorem depth_iff (h1 : 1 ≤ n) : depthI u v d n ≤ c.length ↔ ∀ k, k < n → d + k * u.length ≤ c.length + k * v.length := by
  unfold depthI
  obtain ⟨m, rfl⟩ : ∃ m, n = m + 1 := ⟨n - 1, (by omega)⟩
  have e1 : ((m + 1 : Nat) : Int) - 1 = m := by omega
  rw [e1]
  have cast : ∀ k : Nat, d + k * u.length ≤ c.length + k * v.length ↔ (d : Int) + (k : Int) * ((u.length : Int) - v.length) ≤ c.length := fun k => by
    rw [Int.mul_sub]
    constructor
    · intro h
      have h : ((d + k * u.length : Nat) : Int) ≤ ((c.length + k * v.length : Nat) : Int) := by exact_mod_cast h
      simp only [Int.natCast_add, Int.natCast_mul] at h
      omega
    · intro h
      have : ((d + k * u.length : Nat) : Int) ≤ ((c.length + k * v.length : Nat) : Int) := by
        simp only [Int.natCast_add, Int.natCast_mul]
        omega
      exact_mod_cast this
  constructor
  · intro h k hk
    rw [cast]
    rcases Int.le_total 0 ((u.length : Int) - v.length) with g | g
    · have : (k : Int) * ((u.length : Int) - v.length) ≤ (m : Int) * ((u.length : Int) - v.length) := Int.mul_le_mul_of_nonneg_right (by omega) g
      omega
    · have : (k : Int) * ((u.length : Int) - v.length) ≤ 0 := by
        have := Int.mul_nonneg (show (0 : Int) ≤ k by omega) (show (0 : Int) ≤ -((u.length : Int) - v.length) by omega)
        rw [Int.mul_neg] at this
        omega
      omega
  · intro h
    have h0 := h 0 (by omega)
    have hm := (cast m).mp (h m (by omega))
    omega
end
theorem rep_succ {n : Nat} {u : List PyData} : rep (n + 1) u = u ++ rep n u := by unfold rep; rw [List.replicate_succ, List.flatten_cons]
theorem rep_get {u : List PyData} : ∀ {n i : Nat}, i < n * u.length → (rep n u)[i]? = some (UU u i)
  | 0, i, h => by omega
  | n + 1, i, h => by
    rw [Nat.add_mul, Nat.one_mul] at h
    rw [rep_succ]
    by_cases hi : i < u.length
    · rw [List.getElem?_append_left hi, getD_some hi]
      unfold UU
      rw [Nat.mod_eq_of_lt hi]
    · rw [List.getElem?_append_right (by omega), rep_get (by omega)]
      have := UU_per (u := u) (i - u.length)
      rw [show i - u.length + u.length = i by omega] at this
      rw [this]
section
variable {u v c r : List PyData} {d n : Nat}
/-- k letters left out of u so often: the rest is a beginning of v so often just if the words without end agree on it -/
theorem okF_rep (ok : okF u v d) (h1 : 1 ≤ n) {k : Nat} (hk : depthI u v d n ≤ k) (hw : k ≤ n * u.length) : okF (rep n u) (rep n v) k ↔ ∀ i, i < n * u.length - k → UU v i = UU u (k + i) := by
  have hle : n * u.length ≤ k + n * v.length := by
    have h := (depth_iff (c := List.replicate k .none) h1).mp (by rw [List.length_replicate]; exact hk) (n - 1) (by omega)
    rw [List.length_replicate] at h
    have := okF_lack ok
    obtain ⟨m, rfl⟩ : ∃ m, n = m + 1 := ⟨n - 1, (by omega)⟩
    rw [Nat.add_sub_cancel] at h
    rw [Nat.add_mul, Nat.add_mul]
    omega
  have pw : (rep n u).drop k <+: rep n v ↔ ∀ i, i < n * u.length - k → UU v i = UU u (k + i) := by
    rw [List.prefix_iff_getElem?]
    have l : ((rep n u).drop k).length = n * u.length - k := by rw [List.length_drop, len_rep]
    have e : ∀ i, i < n * u.length - k → ((rep n u).drop k)[i]? = some (UU u (k + i)) := fun i hi => by
      rw [List.getElem?_drop, rep_get (by omega)]
    constructor
    · intro g i hi
      have h := g i (by rw [l]; exact hi)
      rw [rep_get (by omega)] at h
      have := e i hi
      rw [List.getElem?_eq_getElem (by rw [l]; exact hi)] at this
      exact Option.some.inj (h.trans this)
    · intro g i hi
      rw [l] at hi
      have := e i hi
      rw [List.getElem?_eq_getElem (by rw [l]; exact hi)] at this
      rw [rep_get (by omega), g i hi, this]
  constructor
  · rintro ⟨_, h | h⟩
    · intro i hi
      rw [len_rep] at h
      omega
    · exact pw.mp h
  · intro h
    exact ⟨by rw [len_rep]; exact hw, .inr (pw.mpr h)⟩
end
section
variable {u v c r : List PyData} {d n : Nat}
theorem mz_ge {zs : List Nat} (h : MZ u v zs) {i z m : Nat} (hi : i < u.length) (hz : zs[i]? = some z) (hm : m ≤ u.length + v.length) : m ≤ z ↔ ∀ j, j < m → UU v j = UU u (i + j) := by
  obtain ⟨h1, h2, h3, h4⟩ := h.2 i z hz
  rw [cyc_len] at h1 h4
  rw [List.length_drop, cyc_len] at h2 h4
  have e1 : ∀ j, j < u.length + v.length → (cyc v 0 (u.length + v.length))[j]? = some (UU v j) := fun j hj => by rw [cyc_get hj, Nat.zero_add]
  have e2 : ∀ j, j < u.length + v.length → ((cyc u 0 (u.length + (u.length + v.length))).drop i)[j]? = some (UU u (i + j)) := fun j hj => by rw [List.getElem?_drop, cyc_get (by omega), Nat.zero_add]
  constructor
  · intro g j hj
    have t : ((cyc v 0 (u.length + v.length)).take z)[j]? = (((cyc u 0 (u.length + (u.length + v.length))).drop i).take z)[j]? := by rw [h3]
    rw [List.getElem?_take_of_lt (by omega), List.getElem?_take_of_lt (by omega), e1 j (by omega), e2 j (by omega)] at t
    exact Option.some.inj t
  · intro g
    rcases Nat.lt_or_ge z m with hzm | hzm
    · exfalso
      apply h4 (by omega) (by omega)
      rw [e1 z (by omega), e2 z (by omega), g z hzm]
    · exact hzm
end
section
variable {u v c r : List PyData} {d n : Nat}
theorem UU_mod {u : List PyData} (k i : Nat) : UU u (k % u.length + i) = UU u (k + i) := by
  unfold UU
  congr 1
  rw [Nat.mod_add_mod]
end
section
variable {u v c r : List PyData} {d n : Nat}
/-- the normal numbers of a power, found by what matches -/
theorem okF_by (ok : okF u v d) (h1 : 1 ≤ n) (hu : u ≠ []) (hv : v ≠ []) {zs : List Nat} (h : MZ u v zs) {k z : Nat} (hk : depthI u v d n ≤ k) (hw : k < n * u.length) (hz : zs[k % u.length]? = some z) :
    okF (rep n u) (rep n v) k ↔ min (n * u.length - k) (u.length + v.length) ≤ z := by
  have up : 0 < u.length := List.length_pos_iff.mpr hu
  have vp : 0 < v.length := List.length_pos_iff.mpr hv
  rw [okF_rep ok h1 hk (by omega), mz_ge h (Nat.mod_lt _ up) hz (Nat.min_le_right _ _)]
  simp only [UU_mod]
  constructor
  · intro g j hj
    exact g j (by omega)
  · intro g j hj
    by_cases hl : n * u.length - k ≤ u.length + v.length
    · exact g j (by omega)
    · refine agree_all (f := fun j => UU u (k + j)) (g := UU v) (s := 0) up vp (fun i => ?_) (fun i _ => UU_per i) (fun i hi => g i (by omega)) j
      show UU u (k + (i + u.length)) = UU u (k + i)
      rw [← Nat.add_assoc, UU_per]
end
theorem ilist_mem {lo : Int} {m : Nat} {x : Int} : x ∈ ilist lo m ↔ lo ≤ x ∧ x < lo + m := by
  unfold ilist
  rw [List.mem_map]
  constructor
  · rintro ⟨i, hi, rfl⟩
    have := List.mem_range.mp hi
    omega
  · rintro ⟨h1, h2⟩
    exact ⟨(x - lo).toNat, List.mem_range.mpr (by omega), by omega⟩
theorem ilist_pw {lo : Int} {m : Nat} : (ilist lo m).Pairwise (· < ·) := by
  unfold ilist
  rw [List.pairwise_map]
  exact List.pairwise_lt_range.imp fun h => by omega
theorem first_le {l : List Int} (h : l.Pairwise (· < ·)) {x : Int} (hx : x ∈ l) : ∃ y ∈ l.take 1, y ≤ x := by
  cases l with
  | nil => cases hx
  | cons a l =>
    refine ⟨a, by simp, ?_⟩
    rcases (List.mem_cons.mp hx) with rfl | hx
    · omega
    · have := (List.pairwise_cons.mp h).1 x hx
      omega
section
variable {Qd : PyData → List PyData → Prop} {Rd : Ex → List PyData → Prop} {u v : List PyData} {d n : Nat}
theorem least_mem (ok : okF u v d) (h1 : 1 ≤ n) (hu : u ≠ []) (hv : v ≠ []) {zs : List Nat} (h : MZ u v zs) {b w E : Nat} (hb : depthI u v d n = b) (hw : w = n * u.length) (hE : E = u.length + v.length) {A B : List Int}
    (eA : A = (ilist b (min ((b : Int) + u.length) w - b).toNat).filter fun k => decide ((E : Int) ≤ zAt u zs k))
    (eB : B = (ilist (max (b : Int) ((w : Int) - E)) ((w : Int) - max (b : Int) ((w : Int) - E)).toNat).filter fun k => decide ((w : Int) - k ≤ zAt u zs k))
    {r : Int} (hr : r ∈ A.take 1 ++ B.take 1 ++ [(w : Int)]) (hm : ∀ y ∈ A.take 1 ++ B.take 1 ++ [(w : Int)], r ≤ y) : 0 ≤ r ∧ isNorm (rep n u) (rep n v) b r.toNat := by
  have up : 0 < u.length := List.length_pos_iff.mpr hu
  have bw : b ≤ w := by have := (depth_ok ok h1).2; rw [hb, ← hw] at this; omega
  have key : ∀ k : Nat, b ≤ k → k < w → (okF (rep n u) (rep n v) k ↔ min (w - k) E ≤ zs.getD (k % u.length) 0) := fun k g1 g2 => by
    have hl : k % u.length < zs.length := by rw [h.1]; have := Nat.mod_lt k up; omega
    have hz : zs[k % u.length]? = some (zs.getD (k % u.length) 0) := by
      rw [List.getD_eq_getElem?_getD, List.getElem?_eq_getElem hl]; rfl
    rw [hw, hE]
    exact okF_by ok h1 hu hv h (by omega) (by omega) hz
  have memA : ∀ x : Int, x ∈ A ↔ ((b : Int) ≤ x ∧ x < b + u.length ∧ x < w) ∧ (E : Int) ≤ zAt u zs x := fun x => by
    rw [eA, List.mem_filter, ilist_mem, decide_eq_true_iff]
    constructor
    · rintro ⟨⟨g1, g2⟩, g3⟩; exact ⟨by omega, g3⟩
    · rintro ⟨⟨g1, g2, g3⟩, g4⟩; exact ⟨by omega, g4⟩
  have memB : ∀ x : Int, x ∈ B ↔ ((b : Int) ≤ x ∧ (w : Int) - E ≤ x ∧ x < w) ∧ (w : Int) - x ≤ zAt u zs x := fun x => by
    rw [eB, List.mem_filter, ilist_mem, decide_eq_true_iff]
    constructor
    · rintro ⟨⟨g1, g2⟩, g3⟩; exact ⟨by omega, g3⟩
    · rintro ⟨⟨g1, g2, g3⟩, g4⟩; exact ⟨by omega, g4⟩
  -- each that may be left out has one before it in the lists
  have before : ∀ k : Nat, b ≤ k → k < w → okF (rep n u) (rep n v) k → ∃ x : Int, (x ∈ A ∨ x ∈ B) ∧ x ≤ k := by
    intro k
    induction k using Nat.strongRecOn with
    | ind k ih =>
      intro g1 g2 g3
      have g4 := (key k g1 g2).mp g3
      have ez : zAt u zs (k : Int) = ((zs.getD (k % u.length) 0 : Nat) : Int) := by unfold zAt; rw [Int.toNat_natCast]
      by_cases hl : w - k ≤ E
      · exact ⟨k, .inr ((memB k).mpr ⟨by omega, by rw [ez]; omega⟩), by omega⟩
      · by_cases hk : k < b + u.length
        · exact ⟨k, .inl ((memA k).mpr ⟨by omega, by rw [ez]; omega⟩), by omega⟩
        · have em : (k - u.length) % u.length = k % u.length := (Nat.mod_eq_sub_mod (by omega)).symm
          obtain ⟨x, h1, h2⟩ := ih (k - u.length) (by omega) (by omega) (by omega) ((key (k - u.length) (by omega) (by omega)).mpr (by rw [em]; omega))
          exact ⟨x, h1, by omega⟩
  have pA : A.Pairwise (· < ·) := by rw [eA]; exact ilist_pw.filter _
  have pB : B.Pairwise (· < ·) := by rw [eB]; exact ilist_pw.filter _
  have fine : ∀ x : Int, x ∈ A ∨ x ∈ B → (b : Int) ≤ x ∧ x < w ∧ okF (rep n u) (rep n v) x.toNat := fun x hx => by
    have hz : zAt u zs x = ((zs.getD (x.toNat % u.length) 0 : Nat) : Int) := rfl
    rcases hx with hx | hx
    · obtain ⟨g1, g2⟩ := (memA x).mp hx
      rw [hz] at g2
      exact ⟨by omega, by omega, (key x.toNat (by omega) (by omega)).mpr (by omega)⟩
    · obtain ⟨g1, g2⟩ := (memB x).mp hx
      rw [hz] at g2
      exact ⟨by omega, by omega, (key x.toNat (by omega) (by omega)).mpr (by omega)⟩
  have rw_ : r ≤ w := hm w (by simp)
  have small : ∀ j : Nat, b ≤ j → (j : Int) < r → ¬ okF (rep n u) (rep n v) j := by
    intro j g1 g2 g3
    obtain ⟨x, hx, hxj⟩ := before j g1 (by omega) g3
    have : ∃ y ∈ A.take 1 ++ B.take 1 ++ [(w : Int)], y ≤ x := by
      rcases hx with hx | hx
      · obtain ⟨y, hy, hyx⟩ := first_le pA hx
        exact ⟨y, List.mem_append_left _ (List.mem_append_left _ hy), hyx⟩
      · obtain ⟨y, hy, hyx⟩ := first_le pB hx
        exact ⟨y, List.mem_append_left _ (List.mem_append_right _ hy), hyx⟩
    obtain ⟨y, hy, hyx⟩ := this
    have := hm y hy
    omega
  have ofr : (b : Int) ≤ r ∧ okF (rep n u) (rep n v) r.toNat := by
    rcases (List.mem_append.mp hr) with hr | hr
    · have : r ∈ A ∨ r ∈ B := by
        rcases (List.mem_append.mp hr) with hr | hr
        · exact .inl (List.mem_of_mem_take hr)
        · exact .inr (List.mem_of_mem_take hr)
      obtain ⟨g1, g2, g3⟩ := fine r this
      exact ⟨g1, g3⟩
    · have : r = w := List.mem_singleton.mp hr
      subst this
      refine ⟨by omega, ?_⟩
      rw [Int.toNat_natCast, hw, ← len_rep]
      exact okF_len
  exact ⟨by omega, by omega, ofr.2, fun j g1 g2 => small j g1 (by omega)⟩
end
end BX
/-! K18f -/
namespace BX
open PySem PySem.Spec L2
def ofI (p : Int → Bool) : PyData → Bool
  | .int i => p i
  | _ => false
theorem rangeD_eq {lo : Int} {m : Nat} : rangeD lo m = (ilist lo m).map PyData.int := by
  unfold rangeD ilist
  rw [List.map_map]
  rfl
theorem filtI {lo : Int} {m : Nat} {p : Int → Bool} : (((rangeD lo m).filter (ofI p)).map id) = ((ilist lo m).filter p).map PyData.int := by
  rw [List.map_id, rangeD_eq, List.filter_map]
  rfl
section
variable {Qd : PyData → List PyData → Prop} {Rd : Ex → List PyData → Prop} {u v : List PyData} {d n : Nat}
/-- one of the two lists -/
theorem lp_lc {zs : List Nat} {ev : Ev} {lo : Int} {m : Nat} {it : DI} {thr : DE} {T : Int → Int} {s0 s1 s3 s4 s5 s6 s8 s9 s10 : Sl} {Q : PyData → Ev → Prop} {R : Ex → Ev → Prop} (hu : u ≠ []) (hz : zs.length = u.length + (u.length + v.length)) (he : ev = [s0, s1, .v (.tuple u), s3, s4, s5, s6, .v (.list (nats zs)), s8, s9, s10, .e])
    (hit : ∀ K : List PyData → Ev → Prop, K (rangeD lo m) ev → it ev K R) (hlo : 0 ≤ lo) (hm : m ≤ 1000)
    (ht : ∀ (k : Int) (Q' : PyData → Ev → Prop) (R' : Ex → Ev → Prop), Q' (.int (T k)) (ev.set 11 (.v (.int k))) → thr (ev.set 11 (.v (.int k))) Q' R')
    (q : Q (.list (((ilist lo m).filter fun k => decide (T k ≤ zAt u zs k)).map PyData.int)) ev) : dLc [11] it (gN 11) (dTst (dBin geD (dIx (dVar 7) (dBin modD (dVar 11) (dCB lenD [dVar 2]))) thr)) (dVar 11) ev Q R := by
  subst he
  have up : 0 < u.length := List.length_pos_iff.mpr hu
  refine lcFilt (env1 := [s0, s1, .v (.tuple u), s3, s4, s5, s6, .v (.list (nats zs)), s8, s9, s10, .e]) (ds := rangeD lo m) (p := ofI fun k => decide (T k ≤ zAt u zs k)) (f := id) hit rfl (by rw [rangeD_len]; exact Nat.le_trans hm (by decide)) (fun x hd Q' R' q' => ?_) (fun x hd Q' R' q' => q') (by rw [filtI]; exact q)
  obtain ⟨i, hi⟩ := List.getElem?_of_mem hd
  obtain ⟨hi, rfl⟩ := range_at hi
  obtain ⟨k, hk⟩ := Int.eq_ofNat_of_zero_le (show 0 ≤ lo + (i : Int) by omega)
  rw [hk] at q' ⊢
  have hl : k % u.length < zs.length := by rw [hz]; have := Nat.mod_lt k up; omega
  have gz : zs[k % u.length]? = some (zs.getD (k % u.length) 0) := by
    rw [List.getD_eq_getElem?_getD, List.getElem?_eq_getElem hl]; rfl
  have q' : Q' (decide (T (k : Int) ≤ zAt u zs (k : Int))) ([s0, s1, .v (.tuple u), s3, s4, s5, s6, .v (.list (nats zs)), s8, s9, s10, .v (.int (k : Int))]) := q'
  have ez : zAt u zs (k : Int) = ((zs.getD (k % u.length) 0 : Nat) : Int) := by unfold zAt; rw [Int.toNat_natCast]
  rw [ez] at q'
  refine And.intro (show (u.length : Int) ≠ 0 by omega) ?_
  refine Exists.intro (.int ((zs.getD (k % u.length) 0 : Nat) : Int)) (And.intro ?_ ?_)
  · rw [fmodN]
    exact atN (by rw [List.getElem?_map, gz]; rfl)
  · exact ht (k : Int) _ _ (And.intro trivial (Exists.intro _ (And.intro rfl q')))
end
section
variable {Qd : PyData → List PyData → Prop} {Rd : Ex → List PyData → Prop} {u v : List PyData} {d n : Nat}
theorem cut_1 {xs : List PyData} : cutD xs none (some 1) = xs.take 1 := cut_hi (k := 1)
end
section
variable {Qd : PyData → List PyData → Prop} {Rd : Ex → List PyData → Prop} {u v : List PyData} {d n : Nat}
theorem slLi1 {xs : List PyData} {k : PyData → Prop} : slD (.list xs) none (some 1) k = k (.list (xs.take 1)) := by
  show k _ = _
  rw [cut_1]
end
section
variable {Qd : PyData → List PyData → Prop} {Rd : Ex → List PyData → Prop} {u v : List PyData} {d n : Nat}
theorem minE {a b : Int} : (if b < a then b else a) = min a b := by omega
end
theorem intsOf_map : ∀ {ns : List Int}, intsOf (ns.map PyData.int) = some ns
  | [] => rfl
  | i :: ns => by
    rw [List.map_cons]
    show (intsOf (ns.map PyData.int)).map (i :: ·) = _
    rw [intsOf_map]
    rfl
theorem norm_uniq {u v : List PyData} {l k k' : Nat} (h : isNorm u v l k) (h' : isNorm u v l k') : k = k' := by
  rcases Nat.lt_trichotomy k k' with z | z | z
  · exact absurd h.2.1 (h'.2.2 k h.1 z)
  · exact z
  · exact absurd h'.2.1 (h.2.2 k' h'.1 z)
end BX
/-! K18g -/
namespace BX
local macro_rules | `(tactic| walk_at "bx ux") => `(tactic| simp only [dChain3, iE, sSeq, sNil, sRet, sRetO, sRetN, sSet, sSetO, sIf, sAsg, sExpr, sPar, sApp, sBrk, sCnt, sAug, sRaise, sNever, sSet2, dTupP, dSlP, iR2, iRo, gLs, dMulN, dAnd, dOr, dNot, dIsi, dIsi2, dVar, dC, dNeg, dBin, dChain, dTst, dTru, dNotT, dAndT, dOrT, dIte, dTup, dLst, dCB, dCall, dCall1, dA, dX, AK.mo, ioIx, roIx, putL, putO, ow, pk, setS, dIx, dIxP, dLenP, dTruP, dEqP, dSl, dNo, dSo, dJoin, dD0, gN, gTp, gsNil, gsCons, gIx, iD, iS, iR1, dYes, dPop, dPopAt, inTab, ixTab, startE, inE, outE, List.map_cons, List.map_nil, List.length_cons, List.length_nil, List.getElem?_cons_zero, List.getElem?_cons_succ, List.set_cons_zero, List.set_cons_succ, List.cons_append, List.nil_append, List.replicate, Nat.reduceSub, Nat.reduceAdd, Nat.zero_add, Nat.sub_self, Option.map_some, Option.map_none, exOut, exEq, exEq', truthB, truthOkB, fnD, kit_int, kit_bool, kit_str, kit_list, kit_tuple, Option.some.injEq, true_and, and_true, List.zip_cons_cons, List.zip_nil_left, List.not_mem_nil, false_and, List.nodup_nil, Option.isSome_some, nd1, fi])
local macro_rules | `(tactic| walk_at "bx ui") => `(tactic| simp only [addI, addSt, addTu, addLi, subI, mulI, mulLi, modI, fdivI, powI, ltI, leI, gtI, geI, intI, intB, lenLi, lenTu, lenSt, maxI, minI, mulTu, ixLi, ixTu, ixSt, boolEq, intEq, true_and, and_true, truthB, truthOkB, exOut, exEq, exEq'])
open PySem PySem.Spec L2
theorem cmL' {a b : Int} (h : -1000 ≤ a ∧ a ≤ 1000) : CMul a b := .inl (by omega)
section
variable {u v s t : List PyData} {d e n m : Nat}
theorem norm_ex {U V : List PyData} : ∀ (g b : Nat), b + g = U.length → ∃ k, isNorm U V b k
  | 0, b, h => ⟨b, Nat.le_refl _, (show b = U.length by omega) ▸ okF_len, fun j h1 h2 => by omega⟩
  | g + 1, b, h => by
    rcases Classical.em (okF U V b) with ok | no
    · exact ⟨b, Nat.le_refl _, ok, fun j h1 h2 => by omega⟩
    · obtain ⟨k, h1, h2, h3⟩ := norm_ex (U := U) (V := V) g (b + 1) (by omega)
      refine ⟨k, by omega, h2, fun j g1 g2 => ?_⟩
      rcases Nat.lt_or_ge b j with hj | hj
      · exact h3 j hj g2
      · have : j = b := by omega
        subst this
        exact no
theorem pw_norm (ok : okF u v d) (h1 : 1 ≤ n) : isNorm (rep n u) (rep n v) (depthI u v d n).toNat (pwL u v d n) := by
  have h := depth_ok ok h1
  have ex : ∃ k, isNorm (rep n u) (rep n v) (depthI u v d n).toNat k := norm_ex ((rep n u).length - (depthI u v d n).toNat) _ (by rw [len_rep]; omega)
  unfold pwL
  rw [dif_pos ex]
  exact Classical.choose_spec ex
theorem pw_eq (ok : okF u v d) (h1 : 1 ≤ n) {k : Nat} (h : isNorm (rep n u) (rep n v) (depthI u v d n).toNat k) : k = pwL u v d n := norm_uniq h (pw_norm ok h1)
end
section
variable {Qd : PyData → List PyData → Prop} {Rd : Ex → List PyData → Prop} {u v : List PyData} {d n : Nat}
theorem w_least_of_power : ∀ ds Qd Rd, sp_least_of_power ds Qd Rd → b_least_of_power (fin [.d, .d] Qd Rd) (startE 12 [.d, .d] ds) := by
  rintro ds Qd Rd ⟨u, v, d, n, rfl, ok, h1, h2, q⟩
  have ok' := ok
  obtain ⟨wu, wv, lu, lv, okf⟩ := ok'
  have sz : (1000 : Nat) ≤ sizeLine := by decide
  unfold b_least_of_power
  refine g3 (a := 2) (b := 3) (c := 4) (x := .tuple u) (y := .tuple v) (z := .int d) (env := [.v (frm u v d), .v (.int n), .e, .e, .e, .e, .e, .e, .e, .e, .e, .e]) ?_
  show b_least_of_power_8 (fin [.d, .d] Qd Rd) [.v (frm u v d), .v (.int n), .v (.tuple u), .v (.tuple v), .v (.int d), .e, .e, .e, .e, .e, .e, .e]
  unfold b_least_of_power_8
  walk_at "bx ux"
  walk_at "bx ui"
  refine ⟨cmL' (by omega), ?_⟩
  have ew : (u.length : Int) * n = ((n * u.length : Nat) : Int) := by rw [Nat.mul_comm]; simp
  rw [ew]
  obtain ⟨b, hb⟩ := Int.eq_ofNat_of_zero_le (show 0 ≤ depthI u v d n by have := (depth_ok okf h1).1; omega)
  have bw : b ≤ n * u.length := by have := (depth_ok okf h1).2; omega
  generalize hw : n * u.length = w
  rw [hw] at bw
  have pe : ∀ k : Nat, isNorm (rep n u) (rep n v) b k → k = pwL u v d n := fun k h => pw_eq okf h1 (by rw [hb, Int.toNat_natCast]; exact h)
  -- nothing to repeat
  have whole : (∀ j, b ≤ j → j < w → ¬ okF (rep n u) (rep n v) j) → Qd (.int w) [] := fun h => by rw [pe w ⟨bw, by rw [← hw, ← len_rep]; exact okF_len, h⟩]; exact q
  unfold b_least_of_power_7
  walk_at "bx ux"
  rw [truthOkT, truthT]
  refine ⟨trivial, ?_⟩
  cases hu : u.isEmpty with
  | true =>
    refine itT ?_
    have hu : u = [] := List.isEmpty_iff.mp hu
    refine whole fun j g1 g2 => ?_
    rw [hu] at hw
    simp at hw
    omega
  | false =>
    have hu2 : u ≠ [] := fun z => by rw [z] at hu; cases hu
    have up : 0 < u.length := List.length_pos_iff.mpr hu2
    refine itF ?_
    rw [truthOkT, truthT]
    refine ⟨trivial, ?_⟩
    cases hv : v.isEmpty with
    | true =>
      refine itT ?_
      have hv : v = [] := List.isEmpty_iff.mp hv
      refine whole fun j g1 g2 g3 => ?_
      have := okF_lack g3
      rw [len_rep, len_rep, hv, hw] at this
      simp at this
      omega
    | false =>
      have hv2 : v ≠ [] := fun z => by rw [z] at hv; cases hv
      refine itF ?_
      show b_least_of_power_6 (fin [.d, .d] Qd Rd) [.v (frm u v d), .v (.int n), .v (.tuple u), .v (.tuple v), .v (.int d), .v (.int w), .e, .e, .e, .e, .e, .e]
      unfold b_least_of_power_6
      walk_at "bx ux"
      walk_at "bx ui"
      rw [show (u.length : Int) + (v.length : Int) = ((u.length + v.length : Nat) : Int) from rfl]
      generalize hE : u.length + v.length = E
      unfold b_least_of_power_5
      walk_at "bx ux"
      refine ⟨v, 0, E, rfl, .inl hv2, wv, by omega, by omega, by omega, ?_⟩
      walk_at "bx ui"
      rw [show (u.length : Int) + (E : Int) = ((u.length + E : Nat) : Int) from rfl]
      refine ⟨u, 0, u.length + E, rfl, .inl hu2, wu, by omega, by omega, by omega, ?_⟩
      refine ⟨_, _, rfl, wd_cyc wv (.inl hv2), wd_cyc wu (.inl hu2), by rw [cyc_len]; omega, by rw [cyc_len]; omega, fun zs hz1 hz2 => ?_⟩
      rw [cyc_len] at hz1
      have mz : MZ u v zs := by
        subst hE
        exact ⟨hz1, hz2⟩
      show b_least_of_power_4 (fin [.d, .d] Qd Rd) [.v (frm u v d), .v (.int n), .v (.tuple u), .v (.tuple v), .v (.int d), .v (.int w), .v (.int E), .v (.list (nats zs)), .e, .e, .e, .e]
      unfold b_least_of_power_4
      refine And.intro List.nodup_nil (And.intro (fun i h => by cases h) ?_)
      refine ⟨u, v, d, n, rfl, ok, h1, h2, ?_⟩
      rw [hb]
      show b_least_of_power_3 (fin [.d, .d] Qd Rd) [.v (frm u v d), .v (.int n), .v (.tuple u), .v (.tuple v), .v (.int d), .v (.int w), .v (.int E), .v (.list (nats zs)), .v (.int b), .e, .e, .e]
      unfold b_least_of_power_3 sSeq sSet
      refine lp_lc (u := u) (v := v) (zs := zs) (lo := b) (m := (min ((b : Int) + u.length) w - b).toNat) (T := fun _ => E) (thr := dVar 6) (it := iR2W (dVar 8) (dCB minD [dBin addD (dVar 8) (dCB lenD [dVar 2]), dVar 5])) (ev := [.v (frm u v d), .v (.int n), .v (.tuple u), .v (.tuple v), .v (.int d), .v (.int w), .v (.int E), .v (.list (nats zs)), .v (.int b), .e, .e, .e]) hu2 mz.1 rfl (fun K h => ?_) (by omega) (by omega) (fun k Q' R' h => h) ?_
      · refine Exists.intro (b : Int) (Exists.intro (min ((b : Int) + u.length) w) (And.intro rfl (And.intro ?_ h)))
        show PyData.int (if (w : Int) < (b : Int) + u.length then (w : Int) else (b : Int) + u.length) = _
        rw [minE]
      generalize eA : ((ilist (b : Int) (min ((b : Int) + u.length) w - b).toNat).filter fun k => decide ((E : Int) ≤ zAt u zs k)) = A
      show b_least_of_power_2 (fin [.d, .d] Qd Rd) [.v (frm u v d), .v (.int n), .v (.tuple u), .v (.tuple v), .v (.int d), .v (.int w), .v (.int E), .v (.list (nats zs)), .v (.int b), .v (.list (A.map PyData.int)), .e, .e]
      unfold b_least_of_power_2 sSeq sSet
      refine lp_lc (u := u) (v := v) (zs := zs) (lo := max (b : Int) ((w : Int) - E)) (m := ((w : Int) - max (b : Int) ((w : Int) - E)).toNat) (T := fun k => (w : Int) - k) (thr := dBin subD (dVar 5) (dVar 11)) (it := iR2W (dCB maxD [dVar 8, dBin subD (dVar 5) (dVar 6)]) (dVar 5)) (ev := [.v (frm u v d), .v (.int n), .v (.tuple u), .v (.tuple v), .v (.int d), .v (.int w), .v (.int E), .v (.list (nats zs)), .v (.int b), .v (.list (A.map PyData.int)), .e, .e]) hu2 mz.1 rfl (fun K h => ?_) (by omega) (by omega) (fun k Q' R' h => ⟨trivial, h⟩) ?_
      · refine And.intro trivial ?_
        refine Exists.intro (max (b : Int) ((w : Int) - E)) (Exists.intro (w : Int) (And.intro ?_ (And.intro rfl h)))
        show PyData.int (if (w : Int) - E > (b : Int) then (w : Int) - E else (b : Int)) = _
        rw [maxE]
      generalize eB : ((ilist (max (b : Int) ((w : Int) - E)) ((w : Int) - max (b : Int) ((w : Int) - E)).toNat).filter fun k => decide ((w : Int) - k ≤ zAt u zs k)) = B
      show b_least_of_power_1 (fin [.d, .d] Qd Rd) [.v (frm u v d), .v (.int n), .v (.tuple u), .v (.tuple v), .v (.int d), .v (.int w), .v (.int E), .v (.list (nats zs)), .v (.int b), .v (.list (A.map PyData.int)), .v (.list (B.map PyData.int)), .e]
      unfold b_least_of_power_1
      have t1 : ∀ {l : List Int}, (l.take 1).length ≤ 1 := fun {l} => by rw [List.length_take]; omega
      refine And.intro rfl (Exists.intro 1 (And.intro rfl (Exists.intro 1 (And.intro rfl ?_))))
      rw [cut_1]
      show slD (PyData.list (List.map PyData.int B)) none (some 1) _
      rw [slLi1, ← List.map_take, ← List.map_take]
      refine And.intro (show ((A.take 1).map PyData.int).length + ((B.take 1).map PyData.int).length ≤ sizeLine by rw [List.length_map, List.length_map]; have := t1 (l := A); have := t1 (l := B); omega) ?_
      refine And.intro (show 1 ≤ sizeLine by omega) ?_
      refine And.intro (show ((A.take 1).map PyData.int ++ (B.take 1).map PyData.int).length + 1 ≤ sizeLine by rw [List.length_append, List.length_map, List.length_map]; have := t1 (l := A); have := t1 (l := B); omega) ?_
      have eall : (A.take 1).map PyData.int ++ (B.take 1).map PyData.int ++ [PyData.int w] = (A.take 1 ++ B.take 1 ++ [(w : Int)]).map PyData.int := by
        rw [List.map_append, List.map_append]; rfl
      rw [eall]
      refine ⟨_, intsOf_map, by rw [List.length_append]; simp, fun r hr hm => ?_⟩
      obtain ⟨g1, g2⟩ := least_mem okf h1 hu2 hv2 mz hb hw.symm hE.symm eA.symm eB.symm hr hm
      have := pe r.toNat g2
      rw [← this, Int.toNat_of_nonneg g1] at q
      exact ⟨[], rfl, q⟩
end
end BX
/-! K18i -/
namespace BX
local macro_rules | `(tactic| walk_at "bx ux") => `(tactic| simp only [dChain3, iE, sSeq, sNil, sRet, sRetO, sRetN, sSet, sSetO, sIf, sAsg, sExpr, sPar, sApp, sBrk, sCnt, sAug, sRaise, sNever, sSet2, dTupP, dSlP, iR2, iRo, gLs, dMulN, dAnd, dOr, dNot, dIsi, dIsi2, dVar, dC, dNeg, dBin, dChain, dTst, dTru, dNotT, dAndT, dOrT, dIte, dTup, dLst, dCB, dCall, dCall1, dA, dX, AK.mo, ioIx, roIx, putL, putO, ow, pk, setS, dIx, dIxP, dLenP, dTruP, dEqP, dSl, dNo, dSo, dJoin, dD0, gN, gTp, gsNil, gsCons, gIx, iD, iS, iR1, dYes, dPop, dPopAt, inTab, ixTab, startE, inE, outE, List.map_cons, List.map_nil, List.length_cons, List.length_nil, List.getElem?_cons_zero, List.getElem?_cons_succ, List.set_cons_zero, List.set_cons_succ, List.cons_append, List.nil_append, List.replicate, Nat.reduceSub, Nat.reduceAdd, Nat.zero_add, Nat.sub_self, Option.map_some, Option.map_none, exOut, exEq, exEq', truthB, truthOkB, fnD, kit_int, kit_bool, kit_str, kit_list, kit_tuple, Option.some.injEq, true_and, and_true, List.zip_cons_cons, List.zip_nil_left, List.not_mem_nil, false_and, List.nodup_nil, Option.isSome_some, nd1, fi])
local macro_rules | `(tactic| walk_at "bx ui") => `(tactic| simp only [addI, addSt, addTu, addLi, subI, mulI, mulLi, modI, fdivI, powI, ltI, leI, gtI, geI, intI, intB, lenLi, lenTu, lenSt, maxI, minI, mulTu, ixLi, ixTu, ixSt, boolEq, intEq, true_and, and_true, truthB, truthOkB, exOut, exEq, exEq'])
open PySem PySem.Spec L2
theorem UU_modL {u : List PyData} {F : Nat} (h : u.length ∣ F) (i : Nat) : UU u (i % F) = UU u i := by
  unfold UU
  rw [Nat.mod_mod_of_dvd _ h]
theorem agree_dvd {w x : List PyData} {F : Nat} (h1 : w.length ∣ F) (h2 : x.length ∣ F) (hF : 0 < F) : (∀ i, i < F → UU w i = UU x i) ↔ ∀ i, UU w i = UU x i :=
  ⟨fun h i => by rw [← UU_modL h1, ← UU_modL h2]; exact h _ (Nat.mod_lt _ hF), fun h i _ => h i⟩
theorem rep_iff {w x : List PyData} {n m : Nat} (e : n * w.length = m * x.length) (hw : w ≠ []) (h1 : 1 ≤ n) : rep n w = rep m x ↔ ∀ i, UU w i = UU x i := by
  have wp : 0 < w.length := List.length_pos_iff.mpr hw
  have L : 0 < n * w.length := Nat.mul_pos (by omega) wp
  rw [← agree_dvd (F := n * w.length) ⟨n, Nat.mul_comm _ _⟩ (by rw [e]; exact ⟨m, Nat.mul_comm _ _⟩) L]
  constructor
  · intro h i hi
    have a := rep_get (u := w) (n := n) hi
    have b := rep_get (u := x) (n := m) (i := i) (by omega)
    rw [h, b] at a
    exact (Option.some.inj a).symm
  · intro h
    refine List.ext_getElem? fun i => ?_
    by_cases hi : i < n * w.length
    · rw [rep_get hi, rep_get (by omega), h i hi]
    · rw [List.getElem?_eq_none (by rw [len_rep]; omega), List.getElem?_eq_none (by rw [len_rep]; omega)]
theorem repB_t {w x : List PyData} {n m : Nat} : repB w n x m = true ↔ rep n w = rep m x := by unfold repB; simp only [decide_eq_true_eq]
theorem repB_len {w x : List PyData} {n m : Nat} (h : n * w.length ≠ m * x.length) : repB w n x m = false := Bool.eq_false_iff.mpr fun z => h (by
  have := congrArg List.length (repB_t.mp z)
  rwa [len_rep, len_rep] at this)
theorem rep_nil {n : Nat} : rep n [] = [] := by
  have := len_rep (u := []) n
  exact List.length_eq_zero_iff.mp (by simpa using this)
theorem repB_nil {x : List PyData} {n m : Nat} (h : n * ([] : List PyData).length = m * x.length) : repB [] n x m = true := repB_t.mpr (by
  rw [rep_nil]
  exact (List.length_eq_zero_iff.mp (by rw [len_rep]; simpa using h.symm)).symm)
theorem cyc_iff {w x : List PyData} (hw : w ≠ []) (hx : x ≠ []) : cyc w 0 (w.length + x.length) = cyc x 0 (w.length + x.length) ↔ ∀ i, UU w i = UU x i := by
  have wp : 0 < w.length := List.length_pos_iff.mpr hw
  have xp : 0 < x.length := List.length_pos_iff.mpr hx
  constructor
  · intro h
    refine agree_all (f := UU x) (g := UU w) (p := x.length) (q := w.length) (s := 0) xp wp (fun i => UU_per i) (fun i _ => UU_per i) fun i hi => ?_
    have a := cyc_get (w := w) (b := 0) (m := w.length + x.length) (i := i) (by omega)
    have b := cyc_get (w := x) (b := 0) (m := w.length + x.length) (i := i) (by omega)
    rw [h, b, Nat.zero_add] at a
    exact (Option.some.inj a).symm
  · intro h
    refine List.ext_getElem? fun i => ?_
    by_cases hi : i < w.length + x.length
    · rw [cyc_get hi, cyc_get hi, Nat.zero_add, h i]
    · rw [List.getElem?_eq_none (by rw [cyc_len]; omega), List.getElem?_eq_none (by rw [cyc_len]; omega)]
theorem mulN {a b : Nat} : ((a : Int) * (b : Int)) = ((b * a : Nat) : Int) := by rw [Nat.mul_comm]; simp
section
variable {Qd : PyData → List PyData → Prop} {Rd : Ex → List PyData → Prop} {u v w x : List PyData} {d n m : Nat}
theorem w_power_least : ∀ ds Qd Rd, sp_power_least ds Qd Rd → b_power_least (fin [.d, .d] Qd Rd) (startE 2 [.d, .d] ds) := by
  rintro ds Qd Rd ⟨u, v, d, n, rfl, ok, h1, h2, q⟩
  unfold b_power_least
  walk_at "bx ux"
  refine ⟨_, _, rfl, mildF_Q ok, fun h => ?_, fun _ h => ?_, fun _ _ => ?_⟩
  · rw [isQF_Q ok] at h; cases h
  · have : betw (.int (n : Int)) 1 (10 ^ 30) = true := by
      show (decide (1 ≤ (n : Int)) && decide ((n : Int) ≤ 10 ^ 30)) = true
      rw [decide_eq_true (by omega), decide_eq_true (by omega)]
      rfl
    rw [this] at h; cases h
  · unfold b_power_least_1
    walk_at "bx ux"
    exact ⟨u, v, d, n, rfl, ok, h1, h2, q⟩
theorem w_repeated_alike : ∀ ds Qd Rd, sp_repeated_alike ds Qd Rd → b_repeated_alike (fin [.d, .d, .d, .d] Qd Rd) (startE 5 [.d, .d, .d, .d] ds) := by
  rintro ds Qd Rd ⟨w, x, n, m, rfl, ww, wx, lw, lx, h1, h2, q⟩
  unfold b_repeated_alike
  walk_at "bx ux"
  walk_at "bx ui"
  refine ⟨cmL' (by omega), cmL' (by omega), ?_⟩
  rw [mulN, mulN]
  refine neI2 (fun e => ?_) (fun e => ?_)
  · have e : n * w.length = m * x.length := by omega
    refine ⟨_, rfl, itF ?_⟩
    unfold b_repeated_alike_3
    walk_at "bx ux"
    rw [truthOkT, truthT]
    refine ⟨trivial, ?_⟩
    cases hw : w.isEmpty with
    | true =>
      have hw : w = [] := List.isEmpty_iff.mp hw
      subst hw
      rw [repB_nil e] at q
      exact itT q
    | false =>
      have hw2 : w ≠ [] := fun z => by rw [z] at hw; cases hw
      have wp : 0 < w.length := List.length_pos_iff.mpr hw2
      have hx2 : x ≠ [] := fun z => by
        rw [z] at e
        have : 0 < n * w.length := Nat.mul_pos (by omega) wp
        simp at e
        omega
      refine itF ?_
      unfold b_repeated_alike_2
      walk_at "bx ux"
      walk_at "bx ui"
      unfold b_repeated_alike_1
      walk_at "bx ux"
      refine ⟨w, 0, w.length + x.length, rfl, .inl hw2, ww, by omega, by omega, by omega, ?_⟩
      walk_at "bx ui"
      refine ⟨x, 0, w.length + x.length, rfl, .inl hx2, wx, by omega, by omega, by omega, ?_⟩
      refine eqW (wd_cyc ww (.inl hw2)) (wd_cyc wx (.inl hx2)) (fun h => ?_) (fun h => ?_)
      · rw [repB_t.mpr ((rep_iff e hw2 h1).mpr ((cyc_iff hw2 hx2).mp h))] at q
        exact q
      · rw [Bool.eq_false_iff.mpr fun z => h ((cyc_iff hw2 hx2).mpr ((rep_iff e hw2 h1).mp (repB_t.mp z)))] at q
        exact q
  · have e : n * w.length ≠ m * x.length := by omega
    rw [repB_len e] at q
    exact ⟨_, rfl, itT q⟩
end
end BX
/-! K18j -/
namespace BX
local macro_rules | `(tactic| walk_at "bx ux") => `(tactic| simp only [dChain3, iE, sSeq, sNil, sRet, sRetO, sRetN, sSet, sSetO, sIf, sAsg, sExpr, sPar, sApp, sBrk, sCnt, sAug, sRaise, sNever, sSet2, dTupP, dSlP, iR2, iRo, gLs, dMulN, dAnd, dOr, dNot, dIsi, dIsi2, dVar, dC, dNeg, dBin, dChain, dTst, dTru, dNotT, dAndT, dOrT, dIte, dTup, dLst, dCB, dCall, dCall1, dA, dX, AK.mo, ioIx, roIx, putL, putO, ow, pk, setS, dIx, dIxP, dLenP, dTruP, dEqP, dSl, dNo, dSo, dJoin, dD0, gN, gTp, gsNil, gsCons, gIx, iD, iS, iR1, dYes, dPop, dPopAt, inTab, ixTab, startE, inE, outE, List.map_cons, List.map_nil, List.length_cons, List.length_nil, List.getElem?_cons_zero, List.getElem?_cons_succ, List.set_cons_zero, List.set_cons_succ, List.cons_append, List.nil_append, List.replicate, Nat.reduceSub, Nat.reduceAdd, Nat.zero_add, Nat.sub_self, Option.map_some, Option.map_none, exOut, exEq, exEq', truthB, truthOkB, fnD, kit_int, kit_bool, kit_str, kit_list, kit_tuple, Option.some.injEq, true_and, and_true, List.zip_cons_cons, List.zip_nil_left, List.not_mem_nil, false_and, List.nodup_nil, Option.isSome_some, nd1, fi])
local macro_rules | `(tactic| walk_at "bx ui") => `(tactic| simp only [addI, addSt, addTu, addLi, subI, mulI, mulLi, modI, fdivI, powI, ltI, leI, gtI, geI, intI, intB, lenLi, lenTu, lenSt, maxI, minI, mulTu, ixLi, ixTu, ixSt, boolEq, intEq, true_and, and_true, truthB, truthOkB, exOut, exEq, exEq'])
open PySem PySem.Spec L2
open Classical in
/-- a list of the places where two words part: empty just if they agree -/
theorem lc_part {v : Nat} {it : DI} {tt : DT} {env : Ev} {F : Nat} {f g : Nat → PyData} {Q : PyData → Ev → Prop} {R : Ex → Ev → Prop} (hit : ∀ K : List PyData → Ev → Prop, K (rangeD 0 F) env → it env K R) (hv : env[v]? = some .e) (hF : F ≤ 1000)
    (htt : ∀ (i : Nat) (Q' : Bool → Ev → Prop) (R' : Ex → Ev → Prop), i < F → (f i = g i → Q' false (env.set v (.v (.int (i : Int))))) → (f i ≠ g i → Q' true (env.set v (.v (.int (i : Int))))) → tt (env.set v (.v (.int (i : Int)))) Q' R')
    (q : ∀ l : List Int, (l = [] ↔ ∀ i, i < F → f i = g i) → Q (.list (l.map PyData.int)) env) :
    dLc [v] it (gN v) tt (dVar v) env Q R := by
  refine lcFilt (env1 := env) (ds := rangeD 0 F) (p := ofI fun k => decide (f k.toNat ≠ g k.toNat)) (f := id) hit hv (by rw [rangeD_len]; exact Nat.le_trans hF (by decide)) (fun x hd Q' R' q' => ?_) (fun x hd Q' R' q' => ?_) ?_
  · obtain ⟨i, hi⟩ := List.getElem?_of_mem hd
    obtain ⟨hi2, ex⟩ := range_at hi
    rw [Int.zero_add] at ex
    subst ex
    have q' : Q' (decide (f i ≠ g i)) _ := q'
    refine htt i Q' R' hi2 (fun e => ?_) (fun e => ?_)
    · rw [decide_eq_false (fun h => h e)] at q'; exact q'
    · rw [decide_eq_true e] at q'; exact q'
  · have hl : v < env.length := (List.getElem?_eq_some_iff.mp hv).1
    unfold dVar
    rw [List.getElem?_set_self hl]
    exact q'
  · rw [filtI]
    refine q _ ?_
    rw [List.filter_eq_nil_iff]
    constructor
    · intro h i hi
      have := h (i : Int) (ilist_mem.mpr (by omega))
      simpa using this
    · intro h a ha
      have := ilist_mem.mp ha
      simp only [decide_eq_true_eq, ne_eq, Decidable.not_not]
      exact h a.toNat (by omega)
theorem nilB {l : List Int} {k : PyData → Prop} {P : Prop} (e : l = [] ↔ P) (h1 : P → k (.bool true)) (h2 : ¬ P → k (.bool false)) : eqD (.list (l.map PyData.int)) (.list []) k := by
  refine eqPL (n := 2) (fun x hx => ?_) (fun x hx => by cases hx) (fun h => h1 (e.mp ?_)) (fun h => h2 fun z => h ?_)
  · obtain ⟨i, _, rfl⟩ := List.mem_map.mp hx
    exact ⟨⟨rfl, Nat.le_of_ble_eq_true rfl⟩, rfl⟩
  · exact List.map_eq_nil_iff.mp h
  · rw [e.mpr z]
    rfl
section
variable {Qd : PyData → List PyData → Prop} {Rd : Ex → List PyData → Prop} {u v w x : List PyData} {d n m : Nat}
theorem UU_at' {w : List PyData} (hw : w ≠ []) (i : Nat) {k : PyData → Prop} (h : k (UU w i)) : ixD (.tuple w) (.int ((i : Int).fmod (w.length : Int))) k := by
  have wp : 0 < w.length := List.length_pos_iff.mpr hw
  have : (i : Int).fmod (w.length : Int) = ((i % w.length : Nat) : Int) := fmodN
  rw [this]
  exact ⟨_, atN (getD_some (Nat.mod_lt _ wp)), h⟩
theorem w_law_same_words : ∀ ds Qd Rd, sp_law_same_words ds Qd Rd → b_law_same_words (fin [.d, .d, .d, .d] Qd Rd) (startE 6 [.d, .d, .d, .d] ds) := by
  rintro ds Qd Rd ⟨w, x, n, m, rfl, ww, wx, lw, lx, h1, h2, q⟩
  unfold b_law_same_words
  walk_at "bx ux"
  walk_at "bx ui"
  refine ⟨cmL' (by omega), cmL' (by omega), ?_⟩
  rw [mulN, mulN]
  refine neI2 (fun e => ?_) (fun e => ?_)
  · have e : n * w.length = m * x.length := by omega
    refine ⟨_, rfl, itF ?_⟩
    unfold b_law_same_words_2
    walk_at "bx ux"
    walk_at "bx ui"
    refine ⟨cmL' (by omega), cmL' (by omega), ?_⟩
    have e1 : (if (x.length : Int) > 1 then (x.length : Int) else 1) = ((max 1 x.length : Nat) : Int) := by split <;> omega
    rw [e1, show (w.length : Int) * (n : Int) = ((n * w.length : Nat) : Int) from mulN, show (w.length : Int) * ((max 1 x.length : Nat) : Int) = ((w.length * max 1 x.length : Nat) : Int) by simp]
    generalize hF : min (n * w.length) (w.length * max 1 x.length) = F
    have e2 : (if ((w.length * max 1 x.length : Nat) : Int) < ((n * w.length : Nat) : Int) then ((w.length * max 1 x.length : Nat) : Int) else ((n * w.length : Nat) : Int)) = (F : Int) := by split <;> omega
    rw [e2]
    have lF : F ≤ 900 := by
      have : w.length * max 1 x.length ≤ 30 * 30 := Nat.mul_le_mul lw (by omega)
      omega
    have far : w ≠ [] → x ≠ [] := fun hw z => by
      have wp : 0 < w.length := List.length_pos_iff.mpr hw
      have : 0 < n * w.length := Nat.mul_pos (by omega) wp
      rw [z] at e
      simp at e
      omega
    unfold b_law_same_words_1 sSeq sRet dBin
    refine And.intro rfl ?_
    refine lc_part (v := 5) (F := F) (f := UU w) (g := UU x) (env := [.v (.tuple w), .v (.int n), .v (.tuple x), .v (.int m), .v (.int F), .e]) (fun K h => ?_) rfl (by omega) (fun i Q' R' hi g1 g2 => ?_) (fun l hl => ?_)
    · exact ⟨F, rfl, by omega, by rw [Int.toNat_natCast]; exact h⟩
    · have hw : w ≠ [] := fun z => by rw [z] at hF; simp at hF; omega
      have hx := far hw
      have wp : 0 < w.length := List.length_pos_iff.mpr hw
      have xp : 0 < x.length := List.length_pos_iff.mpr hx
      walk_at "bx ux"
      walk_at "bx ui"
      refine ⟨by omega, UU_at' hw i ?_⟩
      refine ⟨by omega, UU_at' hx i ?_⟩
      exact neLet (UU_let ww hw i) (UU_let wx hx i) (fun e => ⟨_, rfl, g1 e⟩) (fun e => ⟨_, rfl, g2 e⟩)
    · have key : (∀ i, i < F → UU w i = UU x i) ↔ rep n w = rep m x := by
        by_cases hw : w = []
        · subst hw
          simp at hF
          subst hF
          exact ⟨fun _ => repB_t.mp (repB_nil e), fun _ i hi => by omega⟩
        · have hx := far hw
          have wp : 0 < w.length := List.length_pos_iff.mpr hw
          have xp : 0 < x.length := List.length_pos_iff.mpr hx
          rw [rep_iff e hw h1]
          have d1 : w.length ∣ F ∧ x.length ∣ F ∧ 0 < F := by
            rw [Nat.max_eq_right (by omega)] at hF
            rcases Nat.le_total (n * w.length) (w.length * x.length) with h | h
            · rw [Nat.min_eq_left h] at hF
              subst hF
              exact ⟨⟨n, Nat.mul_comm _ _⟩, by rw [e]; exact ⟨m, Nat.mul_comm _ _⟩, Nat.mul_pos (by omega) wp⟩
            · rw [Nat.min_eq_right h] at hF
              subst hF
              exact ⟨⟨_, rfl⟩, ⟨_, Nat.mul_comm _ _⟩, Nat.mul_pos wp xp⟩
          exact agree_dvd d1.1 d1.2.1 d1.2.2
      walk_at "bx ux"
      refine And.intro (Nat.zero_le _) (nilB (hl.trans key) (fun h => ?_) (fun h => ?_))
      · rw [repB_t.mpr h] at q
        exact q
      · rw [Bool.eq_false_iff.mpr fun z => h (repB_t.mp z)] at q
        exact q
  · have e : n * w.length ≠ m * x.length := by omega
    rw [repB_len e] at q
    exact ⟨_, rfl, itT q⟩
theorem far_le (ok : okF u v d) (h1 : 1 ≤ n) {k : Nat} (hk : depthI u v d n ≤ k) : n * u.length ≤ k + n * v.length := by
  have h := (depth_iff (c := List.replicate k .none) h1).mp (by rw [List.length_replicate]; exact hk) (n - 1) (by omega)
  rw [List.length_replicate] at h
  have := okF_lack ok
  obtain ⟨m, rfl⟩ : ∃ m, n = m + 1 := ⟨n - 1, (by omega)⟩
  rw [Nat.add_sub_cancel] at h
  rw [Nat.add_mul, Nat.add_mul]
  omega
theorem UU_modA {u : List PyData} {F : Nat} (h : u.length ∣ F) (k i : Nat) : UU u (k + i % F) = UU u (k + i) := by
  unfold UU
  congr 1
  rw [Nat.add_mod k (i % F), Nat.mod_mod_of_dvd _ h, ← Nat.add_mod]
theorem okB_t {n k : Nat} : okB u v n k = true ↔ okF (rep n u) (rep n v) k := by unfold okB; simp only [decide_eq_true_eq]
theorem rest_iff (ok : okF u v d) (h1 : 1 ≤ n) (hu : u ≠ []) (hv : v ≠ []) {k : Nat} (hk : depthI u v d n ≤ k) (hw : k ≤ n * u.length) : (∀ i, i < min (n * u.length - k) (u.length * v.length) → UU u (k + i) = UU v i) ↔ okF (rep n u) (rep n v) k := by
  have up : 0 < u.length := List.length_pos_iff.mpr hu
  have vp : 0 < v.length := List.length_pos_iff.mpr hv
  have pp : 0 < u.length * v.length := Nat.mul_pos up vp
  rw [okF_rep ok h1 hk hw]
  constructor
  · intro h i hi
    rcases Nat.le_total (n * u.length - k) (u.length * v.length) with g | g
    · rw [Nat.min_eq_left g] at h
      exact (h i hi).symm
    · rw [Nat.min_eq_right g] at h
      have := h (i % (u.length * v.length)) (Nat.mod_lt _ pp)
      rw [UU_modA ⟨_, rfl⟩, UU_modL ⟨_, Nat.mul_comm _ _⟩] at this
      exact this.symm
  · intro h i hi
    exact (h i (by omega)).symm
theorem w_law_rest_begins : ∀ ds Qd Rd, sp_law_rest_begins ds Qd Rd → b_law_rest_begins (fin [.d, .d, .d, .d] Qd Rd) (startE 7 [.d, .d, .d, .d] ds) := by
  rintro ds Qd Rd ⟨u, v, d, n, k, rfl, ok, hu, hv, h1, hk, hw, q⟩
  obtain ⟨wu, wv, lu, lv, okf⟩ := ok
  have up : 0 < u.length := List.length_pos_iff.mpr hu
  have vp : 0 < v.length := List.length_pos_iff.mpr hv
  have key := rest_iff okf h1 hu hv hk hw
  have hle := far_le okf h1 hk
  generalize hF : min (n * u.length - k) (u.length * v.length) = F at key
  have lF : F ≤ 900 := by
    have : u.length * v.length ≤ 30 * 30 := Nat.mul_le_mul lu lv
    omega
  unfold b_law_rest_begins
  walk_at "bx ux"
  walk_at "bx ui"
  refine ⟨cmL' (by omega), ?_⟩
  rw [show (u.length : Int) * (n : Int) = ((n * u.length : Nat) : Int) from mulN]
  rw [show ((n * u.length : Nat) : Int) - (k : Int) = ((n * u.length - k : Nat) : Int) by omega]
  unfold b_law_rest_begins_3
  walk_at "bx ux"
  walk_at "bx ui"
  refine ⟨cmL' (by omega), ?_⟩
  rw [show (v.length : Int) * (n : Int) = ((n * v.length : Nat) : Int) from mulN]
  rw [(decide_eq_false (by omega))]
  refine itF ?_
  unfold b_law_rest_begins_2
  walk_at "bx ux"
  walk_at "bx ui"
  have e1 : (if (v.length : Int) > 1 then (v.length : Int) else 1) = (v.length : Int) := by split <;> omega
  rw [e1]
  refine ⟨cmL' (by omega), ?_⟩
  rw [show (u.length : Int) * (v.length : Int) = ((u.length * v.length : Nat) : Int) by simp]
  have e2 : (if ((u.length * v.length : Nat) : Int) < ((n * u.length - k : Nat) : Int) then ((u.length * v.length : Nat) : Int) else ((n * u.length - k : Nat) : Int)) = (F : Int) := by split <;> omega
  rw [e2]
  unfold b_law_rest_begins_1 sSeq sRet dBin
  refine And.intro rfl ?_
  refine lc_part (v := 6) (F := F) (f := fun i => UU u (k + i)) (g := UU v) (env := [.v (.tuple u), .v (.tuple v), .v (.int k), .v (.int n), .v (.int ((n * u.length - k : Nat) : Int)), .v (.int F), .e]) (fun K h => ?_) rfl (by omega) (fun i Q' R' hi g1 g2 => ?_) (fun l hl => ?_)
  · exact ⟨F, rfl, by omega, by rw [Int.toNat_natCast]; exact h⟩
  · walk_at "bx ux"
    walk_at "bx ui"
    rw [show (k : Int) + (i : Int) = ((k + i : Nat) : Int) by omega]
    refine ⟨by omega, UU_at' hu (k + i) ?_⟩
    refine ⟨by omega, UU_at' hv i ?_⟩
    exact neLet (UU_let wu hu (k + i)) (UU_let wv hv i) (fun e => ⟨_, rfl, g1 e⟩) (fun e => ⟨_, rfl, g2 e⟩)
  · walk_at "bx ux"
    refine And.intro (Nat.zero_le _) (nilB (hl.trans key) (fun h => ?_) (fun h => ?_))
    · rw [okB_t.mpr h] at q
      exact q
    · rw [Bool.eq_false_iff.mpr fun z => h (okB_t.mp z)] at q
      exact q
end
end BX
/-! K18k -/
namespace BX
open PySem PySem.Spec L2
theorem ilist_len {lo : Int} {m : Nat} : (ilist lo m).length = m := by simp [ilist]
theorem ilist_at {lo : Int} {m i : Nat} (h : i < m) : (ilist lo m)[i]? = some (lo + i) := by
  unfold ilist
  rw [List.getElem?_map, List.getElem?_range h]
  rfl
theorem ilist_rev {top : Int} {m : Nat} : ((List.range (m + 1)).map fun i : Nat => top - (i : Int)).reverse = ilist (top - m) (m + 1) := by
  refine List.ext_getElem? fun i => ?_
  by_cases h : i < m + 1
  · rw [List.getElem?_reverse (by simpa using h), ilist_at h, List.length_map, List.length_range, List.getElem?_map, List.getElem?_range (by omega)]
    simp only [Option.map_some, Option.some.injEq]
    omega
  · rw [List.getElem?_eq_none (by simp; omega), List.getElem?_eq_none (by rw [ilist_len]; omega)]
section
variable {Qd : PyData → List PyData → Prop} {Rd : Ex → List PyData → Prop} {u v : List PyData} {d n : Nat}
/-- the numbers near both ends -/
def nearL (u v : List PyData) (b w : Nat) : List Int := ilist b (u.length + 1) ++ ilist ((w : Int) - (u.length * v.length + 1 : Nat)) (u.length * v.length + 2)
def goodN (u v : List PyData) (n b w : Nat) (x : Int) : Prop := ((b : Int) ≤ x ∧ x ≤ w) ∧ okF (rep n u) (rep n v) x.toNat
theorem near_len {b w : Nat} : (nearL u v b w).length = u.length + u.length * v.length + 3 := by
  unfold nearL
  rw [List.length_append, ilist_len, ilist_len]
  omega
theorem near_lo {b w i : Nat} (h : i ≤ u.length) : (nearL u v b w)[i]? = some ((b : Int) + i) := by
  unfold nearL
  rw [List.getElem?_append_left (by rw [ilist_len]; omega), ilist_at (by omega)]
theorem near_hi {b w i : Nat} (h : i ≤ u.length * v.length + 1) : (nearL u v b w)[u.length + 1 + i]? = some ((w : Int) - (u.length * v.length + 1 : Nat) + i) := by
  unfold nearL
  rw [List.getElem?_append_right (by rw [ilist_len]; omega), ilist_len, show u.length + 1 + i - (u.length + 1) = i by omega, ilist_at (by omega)]
theorem okF_last : okF (rep n u) (rep n v) (n * u.length) := by
  have := okF_len (u := rep n u) (v := rep n v)
  rwa [len_rep] at this
theorem near_first (ok : okF u v d) (h1 : 1 ≤ n) {b w : Nat} (hb : depthI u v d n = b) (hw : w = n * u.length) {i : Nat} {x : Int} (hx : (nearL u v b w)[i]? = some x) (gx : goodN u v n b w x) (no : ∀ j, j < i → ∀ y, (nearL u v b w)[j]? = some y → ¬ goodN u v n b w y) : x = pwL u v d n := by
  obtain ⟨p1, p2, p3⟩ := pw_norm ok h1
  rw [hb, Int.toNat_natCast] at p1 p3
  generalize pwL u v d n = k at p1 p2 p3
  obtain ⟨⟨g1, g2⟩, g3⟩ := gx
  have kx : (k : Int) ≤ x := by
    rcases (show x < (k : Int) ∨ (k : Int) ≤ x by omega) with h | h
    · exact absurd g3 (p3 x.toNat (by omega) (by omega))
    · exact h
  rcases (show (k : Int) < x ∨ x ≤ (k : Int) by omega) with hlt | hge
  · exfalso
    have kw : k < w := by omega
    have good : goodN u v n b w k := ⟨by omega, by rw [Int.toNat_natCast]; exact p2⟩
    have il : i < u.length + u.length * v.length + 3 := by
      have := (List.getElem?_eq_some_iff.mp hx).1
      rwa [near_len] at this
    by_cases hk : k ≤ b + u.length
    · have at_ := near_lo (u := u) (v := v) (b := b) (w := w) (i := k - b) (by omega)
      by_cases hi : k - b < i
      · exact no (k - b) hi _ at_ (by rw [show (b : Int) + ((k - b : Nat) : Int) = k by omega]; exact good)
      · rw [near_lo (by omega)] at hx
        have := Option.some.inj hx
        omega
    · have near : w - k ≤ u.length * v.length + 1 := by
        rcases Nat.lt_or_ge (u.length * v.length + 1) (w - k) with h | h
        · exfalso
          have hu : u ≠ [] := fun z => by rw [z] at hw; simp at hw; omega
          have hv : v ≠ [] := fun z => by
            have := okF_lack p2
            rw [len_rep, len_rep, z, ← hw] at this
            simp at this
            omega
          have up : 0 < u.length := List.length_pos_iff.mpr hu
          have a := (rest_iff ok h1 hu hv (k := k) (by omega) (by omega)).mpr p2
          rw [← hw, Nat.min_eq_right (by omega)] at a
          have c := (rest_iff ok h1 hu hv (k := k - u.length) (by omega) (by omega)).mp (fun j hj => by
            rw [← UU_per, show k - u.length + j + u.length = k + j by omega]
            exact a j (by omega))
          exact p3 (k - u.length) (by omega) (by omega) c
        · exact h
      have at_ := near_hi (u := u) (v := v) (b := b) (w := w) (i := u.length * v.length + 1 - (w - k)) (by omega)
      by_cases hi : u.length + 1 + (u.length * v.length + 1 - (w - k)) < i
      · exact no _ hi _ at_ (by rw [show (w : Int) - ((u.length * v.length + 1 : Nat) : Int) + ((u.length * v.length + 1 - (w - k) : Nat) : Int) = k by omega]; exact good)
      · by_cases hi2 : i ≤ u.length
        · rw [near_lo hi2] at hx
          have := Option.some.inj hx
          omega
        · obtain ⟨q, rfl⟩ : ∃ q, i = u.length + 1 + q := ⟨i - (u.length + 1), by omega⟩
          rw [near_hi (by omega)] at hx
          have := Option.some.inj hx
          omega
  · omega
theorem near_last {b w : Nat} : (nearL u v b w)[u.length + 1 + (u.length * v.length + 1)]? = some (w : Int) := by
  rw [near_hi (Nat.le_refl _)]
  congr 1
  omega
end
end BX
/-! K18l -/
namespace BX
local macro_rules | `(tactic| walk_at "bx ux") => `(tactic| simp only [dChain3, iE, sSeq, sNil, sRet, sRetO, sRetN, sSet, sSetO, sIf, sAsg, sExpr, sPar, sApp, sBrk, sCnt, sAug, sRaise, sNever, sSet2, dTupP, dSlP, iR2, iRo, gLs, dMulN, dAnd, dOr, dNot, dIsi, dIsi2, dVar, dC, dNeg, dBin, dChain, dTst, dTru, dNotT, dAndT, dOrT, dIte, dTup, dLst, dCB, dCall, dCall1, dA, dX, AK.mo, ioIx, roIx, putL, putO, ow, pk, setS, dIx, dIxP, dLenP, dTruP, dEqP, dSl, dNo, dSo, dJoin, dD0, gN, gTp, gsNil, gsCons, gIx, iD, iS, iR1, dYes, dPop, dPopAt, inTab, ixTab, startE, inE, outE, List.map_cons, List.map_nil, List.length_cons, List.length_nil, List.getElem?_cons_zero, List.getElem?_cons_succ, List.set_cons_zero, List.set_cons_succ, List.cons_append, List.nil_append, List.replicate, Nat.reduceSub, Nat.reduceAdd, Nat.zero_add, Nat.sub_self, Option.map_some, Option.map_none, exOut, exEq, exEq', truthB, truthOkB, fnD, kit_int, kit_bool, kit_str, kit_list, kit_tuple, Option.some.injEq, true_and, and_true, List.zip_cons_cons, List.zip_nil_left, List.not_mem_nil, false_and, List.nodup_nil, Option.isSome_some, nd1, fi])
local macro_rules | `(tactic| walk_at "bx ui") => `(tactic| simp only [addI, addSt, addTu, addLi, subI, mulI, mulLi, modI, fdivI, powI, ltI, leI, gtI, geI, intI, intB, lenLi, lenTu, lenSt, maxI, minI, mulTu, ixLi, ixTu, ixSt, boolEq, intEq, true_and, and_true, truthB, truthOkB, exOut, exEq, exEq'])
open PySem PySem.Spec L2
section
variable {Qd : PyData → List PyData → Prop} {Rd : Ex → List PyData → Prop} {u v : List PyData} {d n : Nat}
theorem near_data {b w : Nat} : (rangeD 0 (u.length + 1)).map (fun x => match x with | .int i => PyData.int ((b : Int) + i) | _ => .none) ++ ((rangeD 0 (u.length * v.length + 2)).map (fun x => match x with | .int i => PyData.int ((w : Int) - i) | _ => .none)).reverse = (nearL u v b w).map PyData.int := by
  unfold nearL
  rw [List.map_append, ← ilist_rev, List.map_reverse]
  unfold rangeD ilist
  simp only [List.map_map, Function.comp_def, Int.zero_add]
theorem w_law_great_least : ∀ ds Qd Rd, sp_law_great_least ds Qd Rd → b_law_great_least (fin [.d, .d] Qd Rd) (startE 10 [.d, .d] ds) := by
  rintro ds Qd Rd ⟨u, v, d, n, rfl, ok, h1, h2, q⟩
  have ok' := ok
  obtain ⟨wu, wv, lu, lv, okf⟩ := ok'
  unfold b_law_great_least
  refine g3 (a := 2) (b := 3) (c := 4) (x := .tuple u) (y := .tuple v) (z := .int d) (env := [.v (frm u v d), .v (.int n), .e, .e, .e, .e, .e, .e, .e, .e]) ?_
  unfold b_law_great_least_5
  walk_at "bx ux"
  walk_at "bx ui"
  refine ⟨cmR (by omega), ?_⟩
  rw [maxE, show max (d : Int) (d + ((n : Int) - 1) * ((u.length : Int) - v.length)) = depthI u v d n from rfl]
  obtain ⟨b, hb⟩ := Int.eq_ofNat_of_zero_le (show 0 ≤ depthI u v d n by have := (depth_ok okf h1).1; omega)
  have bw : b ≤ n * u.length := by have := (depth_ok okf h1).2; omega
  rw [hb]
  unfold b_law_great_least_4
  walk_at "bx ux"
  walk_at "bx ui"
  refine ⟨cmL' (by omega), ?_⟩
  rw [show (u.length : Int) * (n : Int) = ((n * u.length : Nat) : Int) from mulN]
  generalize hw : n * u.length = w at bw
  have lp : u.length * v.length ≤ 900 := by
    have : u.length * v.length ≤ 30 * 30 := Nat.mul_le_mul lu lv
    omega
  unfold b_law_great_least_3 sSeq sSet dBin
  refine lcMap (v := 9) (env1 := [.v (frm u v d), .v (.int n), .v (.tuple u), .v (.tuple v), .v (.int d), .v (.int b), .v (.int w), .e, .e, .e]) (ds := rangeD 0 (u.length + 1)) (f := fun x => match x with | .int i => .int ((b : Int) + i) | _ => .none) (fun K h => ?_) rfl (by rw [rangeD_len]; exact Nat.le_trans (show u.length + 1 ≤ 1000 by omega) (by decide)) (fun x hx Q' R' q' => ?_) ?_
  · walk_at "bx ux"
    walk_at "bx ui"
    refine ⟨by omega, ?_⟩
    rw [show ((u.length : Int) + 1).toNat = u.length + 1 by omega]
    exact h
  · obtain ⟨i, hi⟩ := List.getElem?_of_mem hx
    obtain ⟨_, rfl⟩ := range_at hi
    walk_at "bx ux"
    walk_at "bx ui"
    exact q'
  · unfold dRevL
    refine lcMap (v := 9) (env1 := [.v (frm u v d), .v (.int n), .v (.tuple u), .v (.tuple v), .v (.int d), .v (.int b), .v (.int w), .e, .e, .e]) (ds := rangeD 0 (u.length * v.length + 2)) (f := fun x => match x with | .int i => .int ((w : Int) - i) | _ => .none) (fun K h => ?_) rfl (by rw [rangeD_len]; exact Nat.le_trans (show u.length * v.length + 2 ≤ 1000 by omega) (by decide)) (fun x hx Q' R' q' => ?_) ?_
    · walk_at "bx ux"
      walk_at "bx ui"
      refine ⟨cmL' (by omega), ?_⟩
      rw [show (u.length : Int) * (v.length : Int) = ((u.length * v.length : Nat) : Int) by simp]
      refine ⟨by omega, ?_⟩
      rw [show (((u.length * v.length : Nat) : Int) + 2).toNat = u.length * v.length + 2 by omega]
      exact h
    · obtain ⟨i, hi⟩ := List.getElem?_of_mem hx
      obtain ⟨_, rfl⟩ := range_at hi
      walk_at "bx ux"
      walk_at "bx ui"
      exact q'
    · walk_at "bx ux"
      walk_at "bx ui"
      refine ⟨_, rfl, ?_, ?_⟩
      · rw [List.length_map, List.length_reverse, List.length_map, rangeD_len, rangeD_len]
        exact Nat.le_trans (show _ ≤ 1000 by omega) (by decide)
      rw [near_data]
      unfold b_law_great_least_2
      refine seq_for (ds := (nearL u v b w).map PyData.int) (env1 := [.v (frm u v d), .v (.int n), .v (.tuple u), .v (.tuple v), .v (.int d), .v (.int b), .v (.int w), .v (.list ((nearL u v b w).map PyData.int)), .e, .e]) (fun i env => (∃ s8, env = [.v (frm u v d), .v (.int n), .v (.tuple u), .v (.tuple v), .v (.int d), .v (.int b), .v (.int w), .v (.list ((nearL u v b w).map PyData.int)), s8, .e]) ∧ ∀ j, j < i → ∀ y, (nearL u v b w)[j]? = some y → ¬ goodN u v n b w y) (fun K h => ?_) ⟨⟨_, rfl⟩, fun j h => by omega⟩ ?_ ?_
      · walk_at "bx ux"
        exact ⟨_, rfl, h⟩
      · rintro i x env hx ⟨⟨s8, rfl⟩, no⟩
        rw [List.getElem?_map] at hx
        obtain ⟨y, hy, rfl⟩ := Option.map_eq_some_iff.mp hx
        have go : ¬ goodN u v n b w y → ∀ s8, (∃ s8', [Sl.v (frm u v d), .v (.int n), .v (.tuple u), .v (.tuple v), .v (.int d), .v (.int b), .v (.int w), .v (.list ((nearL u v b w).map PyData.int)), s8, .e] = [Sl.v (frm u v d), .v (.int n), .v (.tuple u), .v (.tuple v), .v (.int d), .v (.int b), .v (.int w), .v (.list ((nearL u v b w).map PyData.int)), s8', .e]) ∧ ∀ j, j < i + 1 → ∀ y, (nearL u v b w)[j]? = some y → ¬ goodN u v n b w y := fun ng s8 => ⟨⟨_, rfl⟩, fun j hj z hz => by
          by_cases hji : j = i
          · subst hji
            rw [hy] at hz
            cases hz
            exact ng
          · exact no j (by omega) z hz⟩
        have yes : goodN u v n b w y → Qd (.int y) [] := fun g => by rw [near_first okf h1 hb hw.symm hy g no]; exact q
        walk_at "bx ux"
        walk_at "bx ui"
        by_cases hlo : (b : Int) ≤ y
        · rw [decide_eq_true hlo]
          refine itT ?_
          by_cases hhi : y ≤ (w : Int)
          · rw [decide_eq_true hhi]
            refine itT ?_
            refine eqI2 (fun e => ?_) (fun e => ?_)
            · refine ⟨_, rfl, itT ?_⟩
              rw [if_pos trivial]
              refine yes ⟨⟨hlo, hhi⟩, ?_⟩
              rw [e, Int.toNat_natCast, ← hw]
              exact okF_last
            · refine ⟨_, rfl, itF ⟨Nat.zero_le _, ?_⟩⟩
              refine neW wv (fun x hx => by cases hx) (fun hv => ?_) (fun hv => ?_)
              · refine ⟨_, rfl, itF ?_⟩
                rw [if_neg (by decide)]
                refine go (fun g => ?_) _
                have := okF_lack g.2
                rw [len_rep, len_rep, hv, hw] at this
                simp at this
                omega
              · refine ⟨_, rfl, itT ?_⟩
                obtain ⟨k, rfl⟩ := Int.eq_ofNat_of_zero_le (show 0 ≤ y by omega)
                have hu : u ≠ [] := fun z => by rw [z] at hw; simp at hw; omega
                refine ⟨u, v, d, n, k, rfl, ok, hu, hv, h1, by omega, by omega, ?_⟩
                refine ⟨trivial, ?_⟩
                cases hk : okB u v n k with
                | true =>
                  have := okB_t.mp hk
                  exact itT (yes ⟨⟨hlo, hhi⟩, by rw [Int.toNat_natCast]; exact this⟩)
                | false =>
                  refine itF (go (fun g => ?_) _)
                  have g2 := g.2
                  rw [Int.toNat_natCast] at g2
                  rw [okB_t.mpr g2] at hk
                  cases hk
          · rw [decide_eq_false hhi]
            refine itF ?_
            rw [if_neg (by decide)]
            exact go (fun g => hhi g.1.2) _
        · rw [decide_eq_false hlo]
          refine itF ?_
          rw [if_neg (by decide)]
          exact go (fun g => hlo g.1.1) _
      · rintro env ⟨⟨s8, rfl⟩, no⟩
        rw [List.length_map, near_len] at no
        exfalso
        refine no _ (by omega) _ near_last ⟨by omega, ?_⟩
        rw [Int.toNat_natCast, ← hw]
        exact okF_last
end
end BX
/-! K18m -/
namespace BX
local macro_rules | `(tactic| walk_at "bx ux") => `(tactic| simp only [dChain3, iE, sSeq, sNil, sRet, sRetO, sRetN, sSet, sSetO, sIf, sAsg, sExpr, sPar, sApp, sBrk, sCnt, sAug, sRaise, sNever, sSet2, dTupP, dSlP, iR2, iRo, gLs, dMulN, dAnd, dOr, dNot, dIsi, dIsi2, dVar, dC, dNeg, dBin, dChain, dTst, dTru, dNotT, dAndT, dOrT, dIte, dTup, dLst, dCB, dCall, dCall1, dA, dX, AK.mo, ioIx, roIx, putL, putO, ow, pk, setS, dIx, dIxP, dLenP, dTruP, dEqP, dSl, dNo, dSo, dJoin, dD0, gN, gTp, gsNil, gsCons, gIx, iD, iS, iR1, dYes, dPop, dPopAt, inTab, ixTab, startE, inE, outE, List.map_cons, List.map_nil, List.length_cons, List.length_nil, List.getElem?_cons_zero, List.getElem?_cons_succ, List.set_cons_zero, List.set_cons_succ, List.cons_append, List.nil_append, List.replicate, Nat.reduceSub, Nat.reduceAdd, Nat.zero_add, Nat.sub_self, Option.map_some, Option.map_none, exOut, exEq, exEq', truthB, truthOkB, fnD, kit_int, kit_bool, kit_str, kit_list, kit_tuple, Option.some.injEq, true_and, and_true, List.zip_cons_cons, List.zip_nil_left, List.not_mem_nil, false_and, List.nodup_nil, Option.isSome_some, nd1, fi])
local macro_rules | `(tactic| walk_at "bx ui") => `(tactic| simp only [addI, addSt, addTu, addLi, subI, mulI, mulLi, modI, fdivI, powI, ltI, leI, gtI, geI, intI, intB, lenLi, lenTu, lenSt, maxI, minI, mulTu, ixLi, ixTu, ixSt, boolEq, intEq, true_and, and_true, truthB, truthOkB, exOut, exEq, exEq'])
open PySem PySem.Spec L2
section
variable {Qd : PyData → List PyData → Prop} {Rd : Ex → List PyData → Prop} {u v w x s t : List PyData} {d e n m k j : Nat}
theorem alkB_t : alkB u v d n s t e m = true ↔ (rep n u = rep m s ∧ rep n v = rep m t ∧ pwL u v d n = pwL s t e m) := by unfold alkB; simp only [decide_eq_true_eq]
theorem alk_1 (h : repB u n s m = false) : alkB u v d n s t e m = false := Bool.eq_false_iff.mpr fun z => by
  have := repB_t.mpr (alkB_t.mp z).1
  rw [h] at this; cases this
theorem alk_2 (h : repB v n t m = false) : alkB u v d n s t e m = false := Bool.eq_false_iff.mpr fun z => by
  have := repB_t.mpr (alkB_t.mp z).2.1
  rw [h] at this; cases this
theorem alk_3 (h1 : repB u n s m = true) (h2 : repB v n t m = true) : alkB u v d n s t e m = true ↔ pwL u v d n = pwL s t e m :=
  alkB_t.trans ⟨fun z => z.2.2, fun z => ⟨repB_t.mp h1, repB_t.mp h2, z⟩⟩
theorem alk_end (h1 : repB u n s m = true) (h2 : repB v n t m = true) {k : PyData → Prop} (q : k (.bool (alkB u v d n s t e m))) : eqD (.int (pwL u v d n : Nat)) (.int (pwL s t e m : Nat)) k := by
  refine eqI2 (fun z => ?_) (fun z => ?_)
  · rw [(alk_3 h1 h2).mpr (by omega)] at q; exact q
  · have z3 : alkB u v d n s t e m = false := Bool.eq_false_iff.mpr fun z2 => z (by rw [(alk_3 h1 h2).mp z2])
    rw [z3] at q; exact q
theorem w_law_alike : ∀ ds Qd Rd, sp_law_alike ds Qd Rd → b_law_alike (fin [.d, .d, .d, .d] Qd Rd) (startE 5 [.d, .d, .d, .d] ds) := by
  rintro ds Qd Rd ⟨u, v, d, s, t, e, n, m, rfl, ok, ok2, h1, h2, h3, h4, q⟩
  obtain ⟨wu, wv, lu, lv, okf⟩ := id ok
  obtain ⟨ws, wt, ls, lt, okf2⟩ := id ok2
  unfold b_law_alike
  refine seq_forC (n := 2) (v := 4) (fun i env => (∃ s4, env = [.v (frm u v d), .v (.int n), .v (frm s t e), .v (.int m), s4]) ∧ (1 ≤ i → repB u n s m = true) ∧ (2 ≤ i → repB v n t m = true)) (by decide) ⟨⟨_, rfl⟩, by omega, by omega⟩ ?_ ?_
  · rintro i env hi ⟨⟨s4, rfl⟩, g1, g2⟩
    rcases (show i = 0 ∨ i = 1 by omega) with rfl | rfl
    · unfold frm
      walk_at "bx ux"
      walk_at "bx ui"
      refine ⟨_, at0, _, at0, u, s, n, m, rfl, wu, ws, lu, ls, h1, h3, ?_⟩
      refine ⟨trivial, ?_⟩
      cases hb : repB u n s m with
      | true => exact itF ⟨⟨_, rfl⟩, fun _ => rfl, by omega⟩
      | false =>
        rw [alk_1 hb] at q
        exact itT q
    · unfold frm
      walk_at "bx ux"
      walk_at "bx ui"
      refine ⟨_, at1, _, at1, v, t, n, m, rfl, wv, wt, lv, lt, h1, h3, ?_⟩
      refine ⟨trivial, ?_⟩
      cases hb : repB v n t m with
      | true => exact itF ⟨⟨_, rfl⟩, fun _ => g1 (by omega), fun _ => rfl⟩
      | false =>
        rw [alk_2 hb] at q
        exact itT q
  · rintro env ⟨⟨s4, rfl⟩, g1, g2⟩
    unfold b_law_alike_1
    walk_at "bx ux"
    refine ⟨u, v, d, n, rfl, ok, h1, h2, s, t, e, m, rfl, ok2, h3, h4, ?_⟩
    exact alk_end (g1 (by omega)) (g2 (by omega)) q
theorem bad_of {f g : PyData} {R : Ex → List PyData → Prop} (h : badP2 f g R) : (isQF f = false → R ⟨"NoForm", [("told", f)]⟩ []) ∧ (isQF f = true → betw g 1 (10 ^ 30) = false → R ⟨"NoCount", [("told", g)]⟩ []) ∧ (isQF f = true → betw g 1 (10 ^ 30) = true → False) := by
  rcases h with ⟨h1, h2⟩ | ⟨h1, h2, h3⟩
  · exact ⟨fun _ => h2, fun z => (by rw [h1] at z; cases z), fun z => (by rw [h1] at z; cases z)⟩
  · exact ⟨fun z => (by rw [h1] at z; cases z), fun _ _ => h3, fun _ z => (by rw [h2] at z; cases z)⟩
theorem betw_k (h1 : 1 ≤ n) (h2 : n ≤ 10 ^ 30) : betw (.int (n : Int)) 1 (10 ^ 30) = true := by
  show (decide (1 ≤ (n : Int)) && decide ((n : Int) ≤ 10 ^ 30)) = true
  rw [decide_eq_true (by omega), decide_eq_true (by omega)]
  rfl
theorem need_go {f g : PyData} {Q : PyData → List PyData → Prop} {R : Ex → List PyData → Prop} (hf : mildF f) (h : badP2 f g R ∨ ((∃ u v d, ∃ n : Nat, f = frm u v d ∧ g = .int n ∧ okP u v d ∧ 1 ≤ n ∧ n ≤ 10 ^ 30) ∧ Q .none [])) : sp_need_power [f, g] Q R := by
  refine ⟨f, g, rfl, hf, ?_⟩
  rcases h with h | ⟨⟨u, v, d, n, rfl, rfl, ok, h1, h2⟩, q⟩
  · obtain ⟨a, b, c⟩ := bad_of h
    exact ⟨a, b, fun x y => (c x y).elim⟩
  · exact ⟨fun z => (by rw [isQF_Q ok] at z; cases z), fun _ z => (by rw [betw_k h1 h2] at z; cases z), fun _ _ => q⟩
theorem w_powers_alike : ∀ ds Qd Rd, sp_powers_alike ds Qd Rd → b_powers_alike (fin [.d, .d, .d, .d] Qd Rd) (startE 6 [.d, .d, .d, .d] ds) := by
  rintro ds Qd Rd ⟨f, n, g, m, rfl, hf, hg, h⟩
  unfold b_powers_alike
  walk_at "bx ux"
  refine need_go hf ?_
  rcases h with h | ⟨u, v, d, n, rfl, rfl, ok, h1, h2, h⟩
  · exact .inl h
  refine .inr ⟨⟨u, v, d, n, rfl, rfl, ok, h1, h2⟩, ?_⟩
  unfold b_powers_alike_3
  walk_at "bx ux"
  refine need_go hg ?_
  rcases h with h | ⟨s, t, e, m, rfl, rfl, ok2, h3, h4, q⟩
  · exact .inl h
  refine .inr ⟨⟨s, t, e, m, rfl, rfl, ok2, h3, h4⟩, ?_⟩
  obtain ⟨wu, wv, lu, lv, okf⟩ := id ok
  obtain ⟨ws, wt, ls, lt, okf2⟩ := id ok2
  unfold b_powers_alike_2
  refine seq_for (ds := [.tuple [.tuple u, .tuple s], .tuple [.tuple v, .tuple t]]) (env1 := [.v (frm u v d), .v (.int n), .v (frm s t e), .v (.int m), .e, .e]) (fun i env => (∃ s4 s5, env = [.v (frm u v d), .v (.int n), .v (frm s t e), .v (.int m), s4, s5]) ∧ (1 ≤ i → repB u n s m = true) ∧ (2 ≤ i → repB v n t m = true)) (fun K h => ?_) ⟨⟨_, _, rfl⟩, by omega, by omega⟩ ?_ ?_
  · unfold frm
    unfold iZ
    walk_at "bx ux"
    refine ⟨2, rfl, ?_⟩
    simp only [slTu]
    refine ⟨2, rfl, _, _, .inr ⟨rfl, rfl⟩, ?_⟩
    rw [show ∀ xs : List PyData, cutD xs none (some 2) = xs.take 2 from fun xs => cut_hi (k := 2)]
    exact h
  · rintro i y env hi ⟨⟨s4, s5, rfl⟩, g1, g2⟩
    rcases (show i = 0 ∨ i = 1 ∨ 2 ≤ i by omega) with rfl | rfl | hh
    · cases hi
      walk_at "bx ux"
      refine ⟨_, rfl, rfl, _, _, rfl, _, _, rfl, rfl, u, s, n, m, rfl, wu, ws, lu, ls, h1, h3, ?_⟩
      refine ⟨trivial, ?_⟩
      cases hb : repB u n s m with
      | true => exact itF ⟨⟨_, _, rfl⟩, fun _ => rfl, by omega⟩
      | false =>
        rw [alk_1 hb] at q
        exact itT q
    · cases hi
      walk_at "bx ux"
      refine ⟨_, rfl, rfl, _, _, rfl, _, _, rfl, rfl, v, t, n, m, rfl, wv, wt, lv, lt, h1, h3, ?_⟩
      refine ⟨trivial, ?_⟩
      cases hb : repB v n t m with
      | true => exact itF ⟨⟨_, _, rfl⟩, fun _ => g1 (by omega), fun _ => rfl⟩
      | false =>
        rw [alk_2 hb] at q
        exact itT q
    · have := (List.getElem?_eq_some_iff.mp hi).1
      simp at this
      omega
  · rintro env ⟨⟨s4, s5, rfl⟩, g1, g2⟩
    unfold b_powers_alike_1
    walk_at "bx ux"
    refine ⟨u, v, d, n, rfl, ok, h1, h2, s, t, e, m, rfl, ok2, h3, h4, ?_⟩
    exact alk_end (g1 (by simp)) (g2 (by simp)) q
theorem pw_okF (ok : okP u v d) (h1 : 1 ≤ n) : okF (rep n u) (rep n v) (pwL u v d n) := (pw_norm ok.2.2.2.2 h1).2.1
theorem w_law_written : ∀ ds Qd Rd, sp_law_written ds Qd Rd → b_law_written (fin [.d, .d] Qd Rd) (startE 6 [.d, .d] ds) := by
  rintro ds Qd Rd ⟨u, v, d, n, rfl, ok, h1, h2, q⟩
  obtain ⟨wu, wv, lu, lv, okf⟩ := id ok
  unfold b_law_written
  refine g3 (a := 2) (b := 3) (c := 4) (x := .tuple u) (y := .tuple v) (z := .int d) (env := [.v (frm u v d), .v (.int n), .e, .e, .e, .e]) ?_
  unfold b_law_written_2
  walk_at "bx ux"
  walk_at "bx ui"
  refine ⟨cmR (by omega), ?_⟩
  rw [maxE, show max (d : Int) (d + ((n : Int) - 1) * ((u.length : Int) - v.length)) = depthI u v d n from rfl]
  obtain ⟨b, hb⟩ := Int.eq_ofNat_of_zero_le (show 0 ≤ depthI u v d n by have := (depth_ok okf h1).1; omega)
  have bw : b ≤ n * u.length := by have := (depth_ok okf h1).2; omega
  rw [hb]
  unfold b_law_written_1
  walk_at "bx ux"
  walk_at "bx ui"
  have l1 : n * u.length ≤ 3 * 30 := Nat.mul_le_mul h2 lu
  have l2 : n * v.length ≤ 3 * 30 := Nat.mul_le_mul h2 lv
  refine ⟨by omega, by omega, by omega, by omega, ?_⟩
  rw [rep_toNat, rep_toNat, Int.toNat_natCast]
  refine ⟨_, _, b, rfl, wd_rep wu n, wd_rep wv n, by rw [len_rep]; omega, by rw [len_rep]; omega, by omega, fun k hk hn => ⟨Nat.le_of_ble_eq_true rfl, ?_⟩⟩
  have := pw_eq okf h1 (k := k) (by rw [hb, Int.toNat_natCast]; exact hn (by rw [len_rep]; exact bw))
  rw [this]
  exact q
end
end BX
/-! K18n -/
namespace BX
local macro_rules | `(tactic| walk_at "bx ux") => `(tactic| simp only [dChain3, iE, sSeq, sNil, sRet, sRetO, sRetN, sSet, sSetO, sIf, sAsg, sExpr, sPar, sApp, sBrk, sCnt, sAug, sRaise, sNever, sSet2, dTupP, dSlP, iR2, iRo, gLs, dMulN, dAnd, dOr, dNot, dIsi, dIsi2, dVar, dC, dNeg, dBin, dChain, dTst, dTru, dNotT, dAndT, dOrT, dIte, dTup, dLst, dCB, dCall, dCall1, dA, dX, AK.mo, ioIx, roIx, putL, putO, ow, pk, setS, dIx, dIxP, dLenP, dTruP, dEqP, dSl, dNo, dSo, dJoin, dD0, gN, gTp, gsNil, gsCons, gIx, iD, iS, iR1, dYes, dPop, dPopAt, inTab, ixTab, startE, inE, outE, List.map_cons, List.map_nil, List.length_cons, List.length_nil, List.getElem?_cons_zero, List.getElem?_cons_succ, List.set_cons_zero, List.set_cons_succ, List.cons_append, List.nil_append, List.replicate, Nat.reduceSub, Nat.reduceAdd, Nat.zero_add, Nat.sub_self, Option.map_some, Option.map_none, exOut, exEq, exEq', truthB, truthOkB, fnD, kit_int, kit_bool, kit_str, kit_list, kit_tuple, Option.some.injEq, true_and, and_true, List.zip_cons_cons, List.zip_nil_left, List.not_mem_nil, false_and, List.nodup_nil, Option.isSome_some, nd1, fi])
local macro_rules | `(tactic| walk_at "bx ui") => `(tactic| simp only [addI, addSt, addTu, addLi, subI, mulI, mulLi, modI, fdivI, powI, ltI, leI, gtI, geI, intI, intB, lenLi, lenTu, lenSt, maxI, minI, mulTu, ixLi, ixTu, ixSt, boolEq, intEq, true_and, and_true, truthB, truthOkB, exOut, exEq, exEq'])
open PySem PySem.Spec L2
section
variable {Qd : PyData → List PyData → Prop} {Rd : Ex → List PyData → Prop} {u v w x s t : List PyData} {d e n m k j : Nat}
theorem okD_P (h : okD u v d) : okP u v d := ⟨h.1, h.2.1, by have := h.2.2.1; omega, by have := h.2.2.2.1; omega, h.2.2.2.2⟩
theorem okD_w (h : okD u v d) (h1 : 1 ≤ n) (h2 : n ≤ 3) : okP (rep n u) (rep n v) (pwL u v d n) := by
  have l1 : n * u.length ≤ 3 * 10 := Nat.mul_le_mul h2 h.2.2.1
  have l2 : n * v.length ≤ 3 * 10 := Nat.mul_le_mul h2 h.2.2.2.1
  exact ⟨wd_rep h.1 n, wd_rep h.2.1 n, by rw [len_rep]; omega, by rw [len_rep]; omega, pw_okF (okD_P h) h1⟩
theorem w_law_pair : ∀ ds Qd Rd, sp_law_pair ds Qd Rd → b_law_pair (fin [.io, .d] Qd Rd) (startE 7 [.io, .d] ds) := by
  rintro ds Qd Rd ⟨s0, ls, rfl, hs, hl, q⟩
  unfold b_law_pair
  walk_at "bx ux"
  refine ⟨s0, ls, rfl, hs, hl, fun u v d c s1 ok wc lc hs1 => ?_⟩
  refine ⟨_, rfl, rfl, _, _, rfl, _, _, rfl, rfl, ?_⟩
  show b_law_pair_7 (fin [.io, .d] Qd Rd) [.io s1, .v (.list ls), .v (frm u v d), .v (.tuple c), .e, .e, .e]
  unfold b_law_pair_7
  walk_at "bx ux"
  refine take_goW hs1 (fun way s2 w1 w2 hs2 => ?_) (by decide) (by decide)
  show b_law_pair_6 (fin [.io, .d] Qd Rd) [.io s2, .v (.list ls), .v (frm u v d), .v (.tuple c), .v (.int way), .e, .e]
  unfold b_law_pair_6
  walk_at "bx ux"
  refine eqI2 (fun e3 => ?_) (fun e3 => ?_)
  · refine ⟨_, rfl, itT ?_⟩
    refine ⟨s2, ls, rfl, hs2, hl, fun u2 v2 d2 c2 s3 ok2 wc2 lc2 hs3 => ?_⟩
    show ixD (.list [frm u2 v2 d2, .tuple c2]) (.int 0) _
    refine ⟨_, at0, ?_⟩
    exact ⟨Nat.le_of_ble_eq_true rfl, _, rfl, q _ _ _ _ _ _ _ (okD_P ok) (okD_P ok2) hs3⟩
  · refine ⟨_, rfl, itF ?_⟩
    unfold b_law_pair_5
    walk_at "bx ux"
    refine take_goW hs2 (fun r s3 g1 g2 hs3 => ?_) (by decide) (by decide)
    walk_at "bx ui"
    obtain ⟨r, rfl⟩ := Int.eq_ofNat_of_zero_le g1
    rw [show (1 : Int) + (r : Int) = ((1 + r : Nat) : Int) by omega]
    refine ⟨u, v, d, 1 + r, rfl, okD_P ok, by omega, by omega, ?_⟩
    have oq := okD_w ok (n := 1 + r) (by omega) (by omega)
    generalize rep (1 + r) u = U at oq ⊢
    generalize rep (1 + r) v = V at oq ⊢
    generalize pwL u v d (1 + r) = D at oq ⊢
    obtain ⟨wU, wV, lU, lV, oD⟩ := id oq
    show b_law_pair_4 (fin [.io, .d] Qd Rd) [.io s3, .v (.list ls), .v (frm u v d), .v (.tuple c), .v (.int way), .v (frm U V D), .e]
    have fin_ : ∀ s4 D s6, okP U V D → isSrc s4 → b_law_pair_3 (fin [.io, .d] Qd Rd) [.io s4, .v (.list ls), .v (frm u v d), .v (.tuple c), .v (.int way), .v (frm U V D), s6] := by
      intro s4 D s6 h1 h2
      unfold b_law_pair_3
      walk_at "bx ux"
      exact ⟨Nat.le_of_ble_eq_true rfl, q _ _ _ _ _ _ _ (okD_P ok) h1 h2⟩
    unfold b_law_pair_4
    walk_at "bx ux"
    refine eqI2 (fun e2 => ?_) (fun e2 => ?_)
    · refine ⟨_, rfl, itT ?_⟩
      show ixD (frm U V D) (.int 0) _
      refine ⟨_, at0, ?_⟩
      refine ⟨Nat.zero_le _, ?_⟩
      refine neW wU (fun x hx => by cases hx) (fun hU => ?_) (fun hU => ?_)
      · exact ⟨_, rfl, itF (fin_ _ _ _ oq hs3)⟩
      · refine ⟨_, rfl, itT ?_⟩
        unfold frm
        walk_at "bx ui"
        refine ⟨_, at0, ?_⟩
        walk_at "bx ui"
        refine ⟨_, at1, ?_⟩
        walk_at "bx ui"
        rw [maxE]
        obtain ⟨a, ha⟩ := Int.eq_ofNat_of_zero_le (show 0 ≤ max (0 : Int) ((U.length : Int) - V.length) by omega)
        rw [ha]
        unfold b_law_pair_2
        walk_at "bx ux"
        walk_at "bx ui"
        refine ⟨_, at0, ?_⟩
        walk_at "bx ui"
        refine take_goW hs3 (fun r2 s4 i1 i2 hs4 => ?_) (by omega) (by omega)
        obtain ⟨r2, rfl⟩ := Int.eq_ofNat_of_zero_le i1
        walk_at "bx ui"
        rw [show (a : Int) + (r2 : Int) = ((a + r2 : Nat) : Int) by omega]
        unfold b_law_pair_1
        walk_at "bx ux"
        refine ⟨2, rfl, ?_⟩
        simp only [slTu]
        rw [show ∀ xs : List PyData, cutD xs none (some 2) = xs.take 2 from fun xs => cut_hi (k := 2)]
        refine ⟨_, at0, _, at1, ?_⟩
        refine ⟨U, V, a + r2, rfl, wU, wV, by omega, by omega, by omega, fun k hk _ => ⟨Nat.le_of_ble_eq_true rfl, ?_⟩⟩
        refine ⟨Nat.le_of_ble_eq_true rfl, ?_⟩
        exact fin_ s4 k _ ⟨wU, wV, lU, lV, hk⟩ hs4
    · refine ⟨_, rfl, itF ?_⟩
      exact fin_ _ _ _ oq hs3
theorem w_law_heard : ∀ (o : XO) (tl : TL) (Q : PyData → Prop) (R : Ex → Prop), sp_law_heard tl Q R → b_law_heard (dAct o 0 tl) (finL Q R) (.x o :: List.replicate (2 - 1) .e) := by
  intro o tl Q R h
  unfold b_law_heard sTryN
  walk_at "bx ux"
  refine ⟨rfl, _, _, h, fun d q => ⟨Nat.le_of_ble_eq_true rfl, q⟩, fun ex he => ?_⟩
  obtain ⟨v, e1, he⟩ := he
  obtain ⟨cls, fs⟩ := ex
  have e1 : fs = ([("told", v)] : List (Str × PyData)) := e1
  subst e1
  rcases he with ⟨ec, q⟩ | ⟨ec, q⟩
  · have ec : cls = "NoForm" := ec
    subst ec
    refine .inl ⟨rfl, fun a d => ?_⟩
    walk_at "bx ux"
    exact ⟨rfl, rfl, _, rfl, Nat.le_of_ble_eq_true rfl, q⟩
  · have ec : cls = "NoCount" := ec
    subst ec
    refine .inr ⟨(by show ("NoCount" : Str) ≠ "NoForm"; decide), (by show ("NoCount" : Str) ∈ apCs; decide), .inl ⟨rfl, fun a d => ?_⟩⟩
    walk_at "bx ux"
    exact ⟨rfl, rfl, _, rfl, Nat.le_of_ble_eq_true rfl, q⟩
end
end BX
/-! K18p -/
namespace BX
local macro_rules | `(tactic| walk_at "bx ux") => `(tactic| simp only [dChain3, iE, sSeq, sNil, sRet, sRetO, sRetN, sSet, sSetO, sIf, sAsg, sExpr, sPar, sApp, sBrk, sCnt, sAug, sRaise, sNever, sSet2, dTupP, dSlP, iR2, iRo, gLs, dMulN, dAnd, dOr, dNot, dIsi, dIsi2, dVar, dC, dNeg, dBin, dChain, dTst, dTru, dNotT, dAndT, dOrT, dIte, dTup, dLst, dCB, dCall, dCall1, dA, dX, AK.mo, ioIx, roIx, putL, putO, ow, pk, setS, dIx, dIxP, dLenP, dTruP, dEqP, dSl, dNo, dSo, dJoin, dD0, gN, gTp, gsNil, gsCons, gIx, iD, iS, iR1, dYes, dPop, dPopAt, inTab, ixTab, startE, inE, outE, List.map_cons, List.map_nil, List.length_cons, List.length_nil, List.getElem?_cons_zero, List.getElem?_cons_succ, List.set_cons_zero, List.set_cons_succ, List.cons_append, List.nil_append, List.replicate, Nat.reduceSub, Nat.reduceAdd, Nat.zero_add, Nat.sub_self, Option.map_some, Option.map_none, exOut, exEq, exEq', truthB, truthOkB, fnD, kit_int, kit_bool, kit_str, kit_list, kit_tuple, Option.some.injEq, true_and, and_true, List.zip_cons_cons, List.zip_nil_left, List.not_mem_nil, false_and, List.nodup_nil, Option.isSome_some, nd1, fi])
local macro_rules | `(tactic| walk_at "bx ui") => `(tactic| simp only [addI, addSt, addTu, addLi, subI, mulI, mulLi, modI, fdivI, powI, ltI, leI, gtI, geI, intI, intB, lenLi, lenTu, lenSt, maxI, minI, mulTu, ixLi, ixTu, ixSt, boolEq, intEq, true_and, and_true, truthB, truthOkB, exOut, exEq, exEq'])
open PySem PySem.Spec L2
def keepV : Sl → Sl
  | .v d => .v d
  | .x o => .x o
  | _ => .e
theorem onlyV_cons {x : Sl} {r : Ev} : onlyV (x :: r) = keepV x :: onlyV r := by cases x <;> rfl
theorem onlyV_nil : onlyV [] = [] := rfl
theorem keepV_v {d : PyData} : keepV (.v d) = .v d := rfl
theorem keepV_x {o : XO} : keepV (.x o) = .x o := rfl
theorem val_addC {t : DE} {a b : Int} {env : Ev} (h : Val t env (.int a)) : Val (dBin addD t (dC (.int b))) env (.int (a + b)) := fun Q R q => h _ _ q
theorem val_pow {a b : Int} {env : Ev} (h : CPow a b) : Val (dBin powD (dC (.int a)) (dC (.int b))) env (.int (a ^ b.toNat)) := fun Q R q => by
  walk_at "bx ux"
  walk_at "bx ui"
  exact ⟨h, q⟩
theorem val_p30 {env : Ev} : Val (dBin powD (dC (.int 10)) (dC (.int 30))) env (.int (10 ^ 30)) := val_pow (a := 10) (b := 30) ⟨by decide, by decide, by decide⟩
theorem val_r30 {env : Ev} : Val (dBin addD (dBin powD (dC (.int 10)) (dC (.int 30))) (dC (.int 1))) env (.int (10 ^ 30 + 1)) := val_addC val_p30
section
variable {u v c : List PyData} {d : Nat} {s : PyData}
def cntL : List PyData := [.int 0, .int (-1), .none, .bool true, .int (10 ^ 30 + 1)]
end
section
variable {u v c : List PyData} {d : Nat} {s : PyData}
theorem cntL_bad : ∀ v ∈ cntL, (!betw v 1 (10 ^ 30) && shB 5 v) = true := by decide +kernel
end
end BX
/-! K18o -/
namespace BX
local macro_rules | `(tactic| walk_at "bx ux") => `(tactic| simp only [dChain3, iE, sSeq, sNil, sRet, sRetO, sRetN, sSet, sSetO, sIf, sAsg, sExpr, sPar, sApp, sBrk, sCnt, sAug, sRaise, sNever, sSet2, dTupP, dSlP, iR2, iRo, gLs, dMulN, dAnd, dOr, dNot, dIsi, dIsi2, dVar, dC, dNeg, dBin, dChain, dTst, dTru, dNotT, dAndT, dOrT, dIte, dTup, dLst, dCB, dCall, dCall1, dA, dX, AK.mo, ioIx, roIx, putL, putO, ow, pk, setS, dIx, dIxP, dLenP, dTruP, dEqP, dSl, dNo, dSo, dJoin, dD0, gN, gTp, gsNil, gsCons, gIx, iD, iS, iR1, dYes, dPop, dPopAt, inTab, ixTab, startE, inE, outE, List.map_cons, List.map_nil, List.length_cons, List.length_nil, List.getElem?_cons_zero, List.getElem?_cons_succ, List.set_cons_zero, List.set_cons_succ, List.cons_append, List.nil_append, List.replicate, Nat.reduceSub, Nat.reduceAdd, Nat.zero_add, Nat.sub_self, Option.map_some, Option.map_none, exOut, exEq, exEq', truthB, truthOkB, fnD, kit_int, kit_bool, kit_str, kit_list, kit_tuple, Option.some.injEq, true_and, and_true, List.zip_cons_cons, List.zip_nil_left, List.not_mem_nil, false_and, List.nodup_nil, Option.isSome_some, nd1, fi])
open PySem PySem.Spec L2
def bdK (o : XO) (te : DE) : DS := sSeq (sIf (dTst (dBin neD (dKept o 12 sp_law_heard te) (dVar 7))) (sSeq (sRet (dC (.bool false))) sNil) (sNil)) sNil
theorem kept_ok {D : DEnds} {env : Ev} {o : XO} {te : DE} {due : PyData} (h7 : env[7]? = some (.v due)) (h12 : env[12]? = some (.x o)) (hn : sh 8 due) (h : ∀ (Q : PyData → Prop) (R : Ex → Prop), Q due → sp_law_heard (lamT te env) Q R) (q : D.nx env) : bdK o te D env := by
  unfold bdK
  refine seq_ifF (k := sNil) (fun Q R q => ?_) q
  refine ⟨h12, h _ _ ?_⟩
  unfold dVar
  dsimp only
  rw [h7]
  exact neR hn ⟨_, rfl, q⟩
theorem dPs_cons {t te : DE} {r : List (DE × DE)} {env : Ev} {d : PyData} {Q : List PyData → Ev → Prop} {R : Ex → Ev → Prop} (h : Val t env d) (q : dPs r env (fun ds e => Q (d :: ds) e) R) : dPs ((t, te) :: r) env Q R := h _ _ q
theorem dPs_nil {env : Ev} {Q : List PyData → Ev → Prop} {R : Ex → Ev → Prop} (q : Q [] env) : dPs [] env Q R := q
theorem chain_cons {i j : Nat} {bd : XO → DE → DS} {D : DEnds} {d : PyData} {ds : List PyData} {t te : DE} {ps : List (DE × DE)} {env : Ev} (h : ∀ o : XO, bd o te { nx := fun e => chainK i j bd D ds ps (e.set j .e), ct := fun e => chainK i j bd D ds ps (e.set j .e), bk := D.nx, rt := D.rt, rs := D.rs, own := D.own } ((env.set i (.v d)).set j (.x o))) : chainK i j bd D (d :: ds) ((t, te) :: ps) env := h
section
variable {Qd : PyData → List PyData → Prop} {Rd : Ex → List PyData → Prop} {u v w x s t : List PyData} {d e n m k j : Nat}
theorem law_kept {D : DEnds} {ns : List PyData} {i : Int} {sr o : PyData} {s5 s6 s7 s8 s9 s10 s12 : Sl} (ok : okP u v d) (ok2 : okP s t e) (ho : o ∈ cntL)
    (q : ∀ s7 s12, D.nx [.ro ns, .v (.int i), .o sr, .v (frm u v d), .v (frm s t e), s5, s6, s7, s8, s9, s10, .v o, s12]) : b_law_3 D [.ro ns, .v (.int i), .o sr, .v (frm u v d), .v (frm s t e), s5, s6, s7, s8, s9, s10, .v o, s12] := by
  obtain ⟨n1, n2⟩ := band (cntL_bad o ho)
  have n1 := bnot n1
  have n2 := sh_of n2
  have mf : mildF (.none : PyData) := trivial
  have lD : ∀ (a : Str) (c : PyData), shB 7 (.str a) = true → sh 5 c → sh 8 (.tuple [.str a, c]) := fun a c ha hc => sh_tup (sh_cons (sh_of ha) (sh_cons (sh_mono hc (by decide)) sh_nil))
  have ne : ∀ (v : PyData) (Q : PyData → Prop), Q (.tuple [.str "form", v]) → hearE Q ⟨"NoForm", [("told", v)]⟩ := fun v Q q => ⟨v, rfl, .inl ⟨rfl, q⟩⟩
  have nc : ∀ (v : PyData) (Q : PyData → Prop), Q (.tuple [.str "times", v]) → hearE Q ⟨"NoCount", [("told", v)]⟩ := fun v Q q => ⟨v, rfl, .inr ⟨rfl, q⟩⟩
  unfold b_law_3
  show sKept 7 12 _ bdK { D with nx := sNil D } _
  generalize eD : ({ D with nx := sNil D } : DEnds) = D2
  have q : ∀ s7 s12, D2.nx [.ro ns, .v (.int i), .o sr, .v (frm u v d), .v (frm s t e), s5, s6, s7, s8, s9, s10, .v o, s12] := fun s7 s12 => by rw [← eD]; exact q s7 s12
  clear eD
  refine dPs_cons (val_tup (vals_cons val_c (vals_cons val_c vals_nil))) (dPs_cons (val_tup (vals_cons val_c (vals_cons (val_var rfl) vals_nil))) (dPs_cons (val_tup (vals_cons val_c (vals_cons val_c vals_nil))) (dPs_cons (val_tup (vals_cons val_c (vals_cons (val_var rfl) vals_nil))) (dPs_nil ?_))))
  refine chain_cons (t := dC .none) fun o1 => ?_
  refine kept_ok rfl rfl (lD _ _ (by decide +kernel) (sh_of (by decide +kernel))) (fun Q R q => ?_) ?_
  · simp only [lamT, List.set, onlyV_cons, onlyV_nil, keepV_v, keepV_x, sp_law_heard]
    walk_at "bx ux"
    exact ⟨.none, o, .none, o, rfl, mf, mf, .inl (.inl ⟨rfl, ne _ _ q⟩)⟩
  refine chain_cons (t := dC .none) fun o1 => ?_
  refine kept_ok rfl rfl (lD _ _ (by decide +kernel) n2) (fun Q R q => ?_) ?_
  · simp only [lamT, List.set, onlyV_cons, onlyV_nil, keepV_v, keepV_x, sp_law_heard]
    walk_at "bx ux"
    exact ⟨_, o, .none, o, rfl, mildF_Q ok, mf, .inl (.inr ⟨isQF_Q ok, n1, nc _ _ q⟩)⟩
  refine chain_cons (t := dC .none) fun o1 => ?_
  refine kept_ok rfl rfl (lD _ _ (by decide +kernel) (sh_of (by decide +kernel))) (fun Q R q => ?_) ?_
  · simp only [lamT, List.set, onlyV_cons, onlyV_nil, keepV_v, keepV_x, sp_law_heard]
    walk_at "bx ux"
    exact ⟨_, _, .int 5, o, rfl, mildF_Q ok, trivial, .inr ⟨u, v, d, 1, rfl, rfl, ok, by decide, by decide, .inl (.inl ⟨rfl, ne _ _ q⟩)⟩⟩
  refine chain_cons (t := dC .none) fun o1 => ?_
  refine kept_ok rfl rfl (lD _ _ (by decide +kernel) n2) (fun Q R q => ?_) ?_
  · simp only [lamT, List.set, onlyV_cons, onlyV_nil, keepV_v, keepV_x, sp_law_heard]
    walk_at "bx ux"
    exact ⟨_, _, _, o, rfl, mildF_Q ok, mildF_Q ok2, .inr ⟨u, v, d, 1, rfl, rfl, ok, by decide, by decide, .inl (.inr ⟨isQF_Q ok2, n1, nc _ _ q⟩)⟩⟩
  exact q _ _
end
end BX
/-! K18z -/
namespace BX
local macro_rules | `(tactic| walk_at "bx ux") => `(tactic| simp only [dChain3, iE, sSeq, sNil, sRet, sRetO, sRetN, sSet, sSetO, sIf, sAsg, sExpr, sPar, sApp, sBrk, sCnt, sAug, sRaise, sNever, sSet2, dTupP, dSlP, iR2, iRo, gLs, dMulN, dAnd, dOr, dNot, dIsi, dIsi2, dVar, dC, dNeg, dBin, dChain, dTst, dTru, dNotT, dAndT, dOrT, dIte, dTup, dLst, dCB, dCall, dCall1, dA, dX, AK.mo, ioIx, roIx, putL, putO, ow, pk, setS, dIx, dIxP, dLenP, dTruP, dEqP, dSl, dNo, dSo, dJoin, dD0, gN, gTp, gsNil, gsCons, gIx, iD, iS, iR1, dYes, dPop, dPopAt, inTab, ixTab, startE, inE, outE, List.map_cons, List.map_nil, List.length_cons, List.length_nil, List.getElem?_cons_zero, List.getElem?_cons_succ, List.set_cons_zero, List.set_cons_succ, List.cons_append, List.nil_append, List.replicate, Nat.reduceSub, Nat.reduceAdd, Nat.zero_add, Nat.sub_self, Option.map_some, Option.map_none, exOut, exEq, exEq', truthB, truthOkB, fnD, kit_int, kit_bool, kit_str, kit_list, kit_tuple, Option.some.injEq, true_and, and_true, List.zip_cons_cons, List.zip_nil_left, List.not_mem_nil, false_and, List.nodup_nil, Option.isSome_some, nd1, fi])
local macro_rules | `(tactic| walk_at "bx ui") => `(tactic| simp only [addI, addSt, addTu, addLi, subI, mulI, mulLi, modI, fdivI, powI, ltI, leI, gtI, geI, intI, intB, lenLi, lenTu, lenSt, maxI, minI, mulTu, ixLi, ixTu, ixSt, boolEq, intEq, true_and, and_true, truthB, truthOkB, exOut, exEq, exEq'])
open PySem PySem.Spec L2
def farL : List PyData := [.int 7, .int 1000, .int (10 ^ 12), .int (10 ^ 29)]
theorem val_p12 {env : Ev} : Val (dBin powD (dC (.int 10)) (dC (.int 12))) env (.int (10 ^ 12)) := val_pow (a := 10) (b := 12) ⟨by decide, by decide, by decide⟩
theorem val_p29 {env : Ev} : Val (dBin powD (dC (.int 10)) (dC (.int 29))) env (.int (10 ^ 29)) := val_pow (a := 10) (b := 29) ⟨by decide, by decide, by decide⟩
theorem max_one {n : Nat} : (if (n : Int) > 1 then (n : Int) else 1) = ((max 1 n : Nat) : Int) := by split <;> omega
theorem farL_ok : ∀ y ∈ farL, ∃ k : Nat, y = .int k ∧ 1 ≤ k := by
  intro y hy
  simp only [farL, List.mem_cons, List.not_mem_nil, or_false] at hy
  rcases hy with rfl | rfl | rfl | rfl
  · exact ⟨7, rfl, by decide⟩
  · exact ⟨1000, rfl, by decide⟩
  · exact ⟨10 ^ 12, rfl, by decide⟩
  · exact ⟨10 ^ 29, rfl, by decide⟩
section
variable {Qd : PyData → List PyData → Prop} {Rd : Ex → List PyData → Prop} {u v w x s t : List PyData} {d e n m k j : Nat}
theorem law_4 {D : DEnds} {ns : List PyData} {i : Int} {sr : PyData} {s5 s6 s7 s8 s9 s10 s11 s12 : Sl} (ok : okP u v d) (ok2 : okP s t e) (hs : isSrc sr)
    (q : ∀ sr s7 s11 s12, D.nx [.ro ns, .v (.int i), .o sr, .v (frm u v d), .v (frm s t e), s5, s6, s7, s8, s9, s10, s11, s12]) : b_law_4 D [.ro ns, .v (.int i), .o sr, .v (frm u v d), .v (frm s t e), s5, s6, s7, s8, s9, s10, s11, s12] := by
  unfold b_law_4
  refine seq_one (L := cntL) (s := sr) (val_lst ?v2) rfl hs (fun o ho s2 hs2 => ?_) (by decide) (by exact Nat.le_of_ble_eq_true rfl)
  case v2 =>
    unfold cntL
    repeat' with_reducible first | exact val_c | exact vals_nil | exact val_neg val_c | exact val_r30 | refine vals_cons ?_ ?_
  exact law_kept ok ok2 ho fun s7 s12 => q _ _ _ _
theorem law_2 {D : DEnds} {ns : List PyData} {i : Int} {sr : PyData} {s5 s6 s7 s8 s10 s11 s12 : Sl} {a : Nat} (ok : okP u v d) (h1 : 1 ≤ a) (h2 : a ≤ 10 ^ 30)
    (q : D.nx [.ro ns, .v (.int i), .o sr, .v (frm u v d), .v (frm s t e), s5, s6, s7, s8, .v (.int a), s10, s11, s12]) : b_law_2 D [.ro ns, .v (.int i), .o sr, .v (frm u v d), .v (frm s t e), s5, s6, s7, s8, .v (.int a), s10, s11, s12] := by
  unfold b_law_2
  refine seq_ifF (k := sNil) (fun Q R q => ?_) q
  walk_at "bx ux"
  refine ⟨u, v, d, a, rfl, ok, h1, h2, u, v, d, a, rfl, ok, h1, h2, ?_⟩
  exact neI2 (fun _ => ⟨_, rfl, q⟩) (fun z => absurd rfl z)
theorem law_5 {D : DEnds} {ns : List PyData} {i : Int} {sr : PyData} {s5 s6 s7 s8 s11 s12 : Sl} {a b : Nat} (ok : okP u v d) (ok2 : okP s t e) (hs : isSrc sr) (h1 : 1 ≤ a) (h2 : 1 ≤ b)
    (q : ∀ sr s7 s11 s12, D.nx [.ro ns, .v (.int i), .o sr, .v (frm u v d), .v (frm s t e), s5, s6, s7, s8, .v (.int a), .v (.int b), s11, s12]) : b_law_5 D [.ro ns, .v (.int i), .o sr, .v (frm u v d), .v (frm s t e), s5, s6, s7, s8, .v (.int a), .v (.int b), s11, s12] := by
  have go : b_law_4 D [.ro ns, .v (.int i), .o sr, .v (frm u v d), .v (frm s t e), s5, s6, s7, s8, .v (.int a), .v (.int b), s11, s12] := law_4 ok ok2 hs fun _ _ _ _ => q _ _ _ _
  unfold b_law_5
  have cond : ∀ (env : Ev) (Q : Bool → Ev → Prop) (R : Ex → Ev → Prop), env[9]? = some (.v (.int a)) → env[10]? = some (.v (.int b)) → Q (decide (max (a : Int) b ≤ 10 ^ 30)) env → dTst (dBin leD (dCB maxD [dCB intD [dVar 9], dCB intD [dVar 10]]) (dBin powD (dC (.int 10)) (dC (.int 30)))) env Q R := fun env Q R e1 e2 q => by
    walk_at "bx ux"
    rw [e1]
    dsimp only
    walk_at "bx ui"
    rw [e2]
    dsimp only
    walk_at "bx ui"
    have e3 : (if (b : Int) > (a : Int) then (b : Int) else (a : Int)) = max (a : Int) b := by omega
    rw [e3]
    exact ⟨⟨by decide, by decide, by decide⟩, q⟩
  refine seq_if (cond _ _ _ rfl rfl ?_)
  by_cases h : (max (a : Int) b) ≤ 10 ^ 30
  · rw [decide_eq_true h]
    refine itT ?_
    refine seq_ifF (fun Q R q => ?_) (law_2 ok h1 (by omega) go)
    walk_at "bx ux"
    refine ⟨_, _, _, _, rfl, mildF_Q ok, mildF_Q ok2, .inr ⟨u, v, d, a, rfl, rfl, ok, h1, by omega, .inr ⟨s, t, e, b, rfl, rfl, ok2, h2, by omega, ?_⟩⟩⟩
    refine ⟨u, v, d, s, t, e, a, b, rfl, ok, ok2, h1, by omega, h2, by omega, ?_⟩
    exact neR (n := 2) (sh_of rfl) ⟨_, rfl, q⟩
  · rw [decide_eq_false h]
    exact itF go
theorem law_7 {D : DEnds} {ns : List PyData} {i : Int} {sr : PyData} {s5 s6 s7 s8 s9 s10 s11 s12 : Sl} (ok : okP u v d) (ok2 : okP s t e) (hs : isSrc sr)
    (q : ∀ sr s7 s8 s9 s10 s11 s12, D.nx [.ro ns, .v (.int i), .o sr, .v (frm u v d), .v (frm s t e), s5, s6, s7, s8, s9, s10, s11, s12]) : b_law_7 D [.ro ns, .v (.int i), .o sr, .v (frm u v d), .v (frm s t e), s5, s6, s7, s8, s9, s10, s11, s12] := by
  unfold b_law_7
  refine seq_one (L := farL) (s := sr) (val_lst ?v2) rfl hs (fun o ho s2 hs2 => ?_) (by decide) (by exact Nat.le_of_ble_eq_true rfl)
  case v2 =>
    unfold farL
    repeat' with_reducible first | exact val_c | exact vals_nil | exact val_p12 | exact val_p29 | refine vals_cons ?_ ?_
  obtain ⟨f, rfl, hf⟩ := farL_ok o ho
  show b_law_6 D [.ro ns, .v (.int i), .o s2, .v (frm u v d), .v (frm s t e), s5, s6, s7, .v (.int f), s9, s10, s11, s12]
  have go : ∀ a b : Nat, 1 ≤ a → 1 ≤ b → b_law_5 D [.ro ns, .v (.int i), .o s2, .v (frm u v d), .v (frm s t e), s5, s6, s7, .v (.int f), .v (.int a), .v (.int b), s11, s12] := fun a b h1 h2 => law_5 ok ok2 hs2 h1 h2 fun _ _ _ _ => q _ _ _ _ _ _ _
  unfold b_law_6
  generalize b_law_5 = k5 at go ⊢
  obtain ⟨wu, wv, lu, lv, okf⟩ := id ok
  obtain ⟨ws, wt, ls, lt, okf2⟩ := id ok2
  unfold frm at go ⊢
  walk_at "bx ux"
  walk_at "bx ui"
  refine ⟨_, at0, _, at1, ?_⟩
  walk_at "bx ui"
  refine ⟨Nat.le_trans (show s.length + t.length ≤ 1000 by omega) (by decide), ?_⟩
  have l1 : (s ++ t).length ≤ 60 := by rw [List.length_append]; omega
  have l2 : (u ++ v).length ≤ 60 := by rw [List.length_append]; omega
  rw [max_one]
  refine ⟨cmL' (by omega), _, at0, _, at1, ?_⟩
  walk_at "bx ui"
  refine ⟨Nat.le_trans (show u.length + v.length ≤ 1000 by omega) (by decide), ?_⟩
  rw [max_one]
  refine ⟨cmL' (by omega), ?_⟩
  rw [mulN, mulN]
  exact go _ _ (Nat.mul_pos (by omega) (by omega)) (Nat.mul_pos (by omega) (by omega))
theorem frm_injQ {u v s t : List PyData} {d e : Nat} (h : frm u v d = frm s t e) : u = s ∧ v = t ∧ d = e := by
  unfold frm at h
  simp only [PyData.tuple.injEq, List.cons.injEq, PyData.int.injEq, and_true] at h
  exact ⟨h.1, h.2.1, by omega⟩
theorem frm_plQ {u v : List PyData} {d : Nat} (hu : wd u) (hv : wd v) : pl (frm u v d) := by
  have a := pl_wd hu
  have b := pl_wd hv
  refine ⟨?_, ?_⟩
  · show (pln (.tuple u) && (pln (.tuple v) && (true && true))) = true
    rw [a.1, b.1]; rfl
  · have e1 : PyData.depth (.tuple u) ≤ 1 := by
      have := depA_of (n := 0) fun x hx => Nat.le_of_eq (dep_let (hu x hx))
      show PyData.depthAll u + 1 ≤ 1
      omega
    have e2 : PyData.depth (.tuple v) ≤ 1 := by
      have := depA_of (n := 0) fun x hx => Nat.le_of_eq (dep_let (hv x hx))
      show PyData.depthAll v + 1 ≤ 1
      omega
    show PyData.depthAll [.tuple u, .tuple v, .int d] + 1 ≤ 60
    simp only [PyData.depthAll]
    have e3 : PyData.depth (.int d) = 0 := rfl
    omega
/-- lists of words -/
def WL (l : List PyData) : Prop := ∀ x ∈ l, ∃ u, x = .tuple u ∧ wd u
theorem law_8 {D : DEnds} {ns : List PyData} {i : Int} {sr : PyData} {s5 s6 s7 s8 s9 s10 s11 s12 : Sl} (ok : okP u v d) (ok2 : okP s t e) (hs : isSrc sr)
    (q : ∀ sr s5 s6 s7 s8 s9 s10 s11 s12, D.nx [.ro ns, .v (.int i), .o sr, .v (frm u v d), .v (frm s t e), s5, s6, s7, s8, s9, s10, s11, s12]) : b_law_8 D [.ro ns, .v (.int i), .o sr, .v (frm u v d), .v (frm s t e), s5, s6, s7, s8, s9, s10, s11, s12] := by
  have go : ∀ s5 s6 s7, b_law_7 D [.ro ns, .v (.int i), .o sr, .v (frm u v d), .v (frm s t e), s5, s6, s7, s8, s9, s10, s11, s12] := fun s5 s6 s7 => law_7 ok ok2 hs fun _ _ _ _ _ _ _ => q _ _ _ _ _ _ _ _ _
  unfold b_law_8
  generalize b_law_7 = k7 at go ⊢
  refine seq_for (ds := rangeD 1 3) (env1 := [.ro ns, .v (.int i), .o sr, .v (frm u v d), .v (frm s t e), s5, s6, s7, s8, s9, s10, s11, s12]) (fun _ env => ∃ s5 s6 s7, env = [.ro ns, .v (.int i), .o sr, .v (frm u v d), .v (frm s t e), s5, s6, s7, s8, s9, s10, s11, s12]) (fun K h => ?_) ⟨_, _, _, rfl⟩ ?_ ?_
  · exact ⟨1, 4, rfl, rfl, by decide, h⟩
  · rintro a x env ha ⟨s5, s6, s7, rfl⟩
    obtain ⟨ha, rfl⟩ := range_at ha
    show sSeq _ _ _ [.ro ns, .v (.int i), .o sr, .v (frm u v d), .v (frm s t e), .v (.int (1 + (a : Int))), s6, s7, s8, s9, s10, s11, s12]
    rw [show (1 : Int) + (a : Int) = ((1 + a : Nat) : Int) by omega]
    refine seq_for (ds := rangeD 1 3) (env1 := [.ro ns, .v (.int i), .o sr, .v (frm u v d), .v (frm s t e), .v (.int ((1 + a : Nat) : Int)), s6, s7, s8, s9, s10, s11, s12]) (fun _ env => ∃ s6 s7, env = [.ro ns, .v (.int i), .o sr, .v (frm u v d), .v (frm s t e), .v (.int ((1 + a : Nat) : Int)), s6, s7, s8, s9, s10, s11, s12]) (fun K h => ?_) ⟨_, _, rfl⟩ ?_ ?_
    · exact ⟨1, 4, rfl, rfl, by decide, h⟩
    · rintro b x env hb ⟨s6, s7, rfl⟩
      obtain ⟨hb, rfl⟩ := range_at hb
      show sSeq _ _ _ [.ro ns, .v (.int i), .o sr, .v (frm u v d), .v (frm s t e), .v (.int ((1 + a : Nat) : Int)), .v (.int (1 + (b : Int))), s7, s8, s9, s10, s11, s12]
      rw [show (1 : Int) + (b : Int) = ((1 + b : Nat) : Int) by omega]
      walk_at "bx ux"
      refine ⟨u, v, d, 1 + a, rfl, ok, by omega, by omega, s, t, e, 1 + b, rfl, ok2, by omega, by omega, ?_⟩
      have one : b_law_1 (inFor { nx := sNil (inFor { nx := k7 D, rt := D.rt, bk := D.bk, ct := D.ct, rs := D.rs, own := D.own } (fun _ env => ∃ s5 s6 s7, env = [.ro ns, .v (.int i), .o sr, .v (frm u v d), .v (frm s t e), s5, s6, s7, s8, s9, s10, s11, s12]) a), rt := D.rt, bk := k7 D, ct := fun env => ∃ s5 s6 s7, env = [.ro ns, .v (.int i), .o sr, .v (frm u v d), .v (frm s t e), s5, s6, s7, s8, s9, s10, s11, s12], rs := D.rs, own := D.own } (fun _ env => ∃ s6 s7, env = [.ro ns, .v (.int i), .o sr, .v (frm u v d), .v (frm s t e), .v (.int ((1 + a : Nat) : Int)), s6, s7, s8, s9, s10, s11, s12]) b) [.ro ns, .v (.int i), .o sr, .v (frm u v d), .v (frm s t e), .v (.int ((1 + a : Nat) : Int)), .v (.int ((1 + b : Nat) : Int)), .v (.bool (alkB u v d (1 + a) s t e (1 + b))), s8, s9, s10, s11, s12] := by
        unfold b_law_1
        refine seq_ifF (k := sNil) (fun Q R q => ?_) ⟨_, _, rfl⟩
        walk_at "bx ux"
        refine ⟨_, _, _, _, rfl, mildF_Q ok, mildF_Q ok2, .inr ⟨u, v, d, 1 + a, rfl, rfl, ok, by omega, by omega, .inr ⟨s, t, e, 1 + b, rfl, rfl, ok2, by omega, by omega, ?_⟩⟩⟩
        exact neR (n := 2) (sh_of rfl) ⟨_, rfl, q⟩
      obtain ⟨wu, wv, lu, lv, okf⟩ := id ok
      obtain ⟨ws, wt, ls, lt, okf2⟩ := id ok2
      refine eqP (frm_plQ (wd_rep wu _) (wd_rep wv _)) (frm_plQ (wd_rep ws _) (wd_rep wt _)) (fun h => ?_) (fun h => ?_)
      · obtain ⟨h1, h2, h3⟩ := frm_injQ h
        rw [show alkB u v d (1 + a) s t e (1 + b) = true from alkB_t.mpr ⟨h1, h2, h3⟩] at one
        exact one
      · rw [show alkB u v d (1 + a) s t e (1 + b) = false from Bool.eq_false_iff.mpr fun z => h (by obtain ⟨h1, h2, h3⟩ := alkB_t.mp z; rw [h1, h2, h3])] at one
        exact one
    · rintro env ⟨s6, s7, rfl⟩
      exact ⟨_, _, _, rfl⟩
  · rintro env ⟨s5, s6, s7, rfl⟩
    exact go _ _ _
theorem w_law : ∀ ds Qd Rd, sp_law ds Qd Rd → b_law (fin [.ro] Qd Rd) (startE 13 [.ro] ds) := by
  rintro ds Qd Rd ⟨ns, rfl, hn, q⟩
  unfold b_law
  refine Exists.intro _ (And.intro rfl ?_)
  refine Exists.intro _ (And.intro rfl (And.intro ?_ ?_))
  · constructor
    · split <;> split <;> omega
    · split <;> split <;> omega
  refine ⟨fun i env => ∃ s1 s2 s3 s4 s5 s6 s7 s8 s9 s10 s11 s12, env = [.ro (ns.map .int), s1, s2, s3, s4, s5, s6, s7, s8, s9, s10, s11, s12], ⟨_, _, _, _, _, _, _, _, _, _, _, _, rfl⟩, ?_, ?_⟩
  · rintro i x env hd ⟨s1, s2, s3, s4, s5, s6, s7, s8, s9, s10, s11, s12, rfl⟩
    obtain ⟨hi, ex⟩ := range_at hd
    rw [Int.zero_add] at ex
    subst ex
    have hi : i < 3 := by
      refine Nat.lt_of_lt_of_le hi ?_
      split <;> split <;> omega
    walk_at "bx ux"
    refine ⟨fun i _ h => h, ns.map .int, rfl, ns, i, rfl, by omega, by omega, by omega, fun a b => ?_⟩
    show b_law_9 _ [.ro (ns.map .int), .v (.int i), .o (.list [.int a, .int b]), s3, s4, s5, s6, s7, s8, s9, s10, s11, s12]
    unfold b_law_9
    walk_at "bx ux"
    refine ⟨_, rfl, ⟨a, b, rfl⟩, fun ls s' hls _ hs' => ?_⟩
    walk_at "bx ux"
    refine ⟨s', ls, rfl, hs', hls, fun u v d s t e s2 ok ok2 hs2 => ?_⟩
    refine ⟨_, rfl, rfl, _, _, rfl, _, _, rfl, rfl, ?_⟩
    exact law_8 ok ok2 hs2 fun _ _ _ _ _ _ _ _ _ => ⟨_, _, _, _, _, _, _, _, _, _, _, _, rfl⟩
  · rintro env ⟨s1, s2, s3, s4, s5, s6, s7, s8, s9, s10, s11, s12, rfl⟩
    show b_law_10 _ _
    unfold b_law_10
    walk_at "bx ux"
    exact q
end
theorem binds_is_word {t : Tok} (T : Addr) (kV doc pm : Value) (an : Option Addr) (cdv ct : Value) (us : List Value) (e : (us ++ [Value.int 4000 t]).length = (["value", "most"] : List Str).length) :
    ∃ k, bindArgs (PySem.W.fnOf "is_word" "is_word" (defArgs s_is_word) (defBody s_is_word) (defScope s_is_word) (.ref T) kV doc pm an cdv ct) ⟨us, []⟩ = seqItems? (.ref T) >>= k ∧ k (some ⟨[.int 4000 t]⟩) = pure ((["value", "most"] : List Str).zip (us ++ [.int 4000 t])) := by
  rw [List.length_append] at e
  have e : us.length + 1 = 2 := e
  rcases us with _ | ⟨u, _ | ⟨u2, us⟩⟩
  · simp at e
  · exact ⟨_, rfl, rfl⟩
  · simp only [List.length_cons] at e
    omega
end BX
/-! K18x -/
namespace BX
open PySem PySem.Spec L2
theorem all_ok {P : Program} {w : World} {K : PySem.W.Frag} {mg : Str → Option Value} {base : Heap} (G : Tops P w K mg base)
    {f_law_pool : Addr} {g_law_pool : FuncData} (D_law_pool : DefAt K mg "_law_pool" s_law_pool ["_law_script", "_law_k"] f_law_pool g_law_pool)
    {f_law_take : Addr} {g_law_take : FuncData} (D_law_take : DefAt K mg "_law_take" s_law_take ["_law_source", "_law_top"] f_law_take g_law_take)
    {f_law_one : Addr} {g_law_one : FuncData} (D_law_one : DefAt K mg "_law_one" s_law_one ["_law_source", "_law_things"] f_law_one g_law_one)
    {f_law_turned_word : Addr} {g_law_turned_word : FuncData} (D_law_turned_word : DefAt K mg "_law_turned_word" s_law_turned_word ["_law_root", "_law_far"] f_law_turned_word g_law_turned_word)
    {f_law_normal : Addr} {g_law_normal : FuncData} (D_law_normal : DefAt K mg "_law_normal" s_law_normal ["_law_u", "_law_v", "_law_least"] f_law_normal g_law_normal)
    {f_law_planted_form : Addr} {g_law_planted_form : FuncData} (D_law_planted_form : DefAt K mg "_law_planted_form" s_law_planted_form ["_law_source", "_law_letters_here"] f_law_planted_form g_law_planted_form)
    {f_law_form : Addr} {g_law_form : FuncData} (D_law_form : DefAt K mg "_law_form" s_law_form ["_law_row_here"] f_law_form g_law_form)
    {f_law_step : Addr} {g_law_step : FuncData} (D_law_step : DefAt K mg "_law_step" s_law_step ["_law_source", "_law_kind", "_law_letters_here"] f_law_step g_law_step)
    {f_law_planted : Addr} {g_law_planted : FuncData} (D_law_planted : DefAt K mg "_law_planted" s_law_planted ["_law_kind", "_law_drawn", "_law_step_here"] f_law_planted g_law_planted)
    {f_law_row : Addr} {g_law_row : FuncData} (D_law_row : DefAt K mg "_law_row" s_law_row ["_law_source", "_law_kind", "_law_letters_here", "_law_most"] f_law_row g_law_row)
    {f_law_contents : Addr} {g_law_contents : FuncData} (D_law_contents : DefAt K mg "_law_contents" s_law_contents ["_law_source", "_law_kind", "_law_letters_here"] f_law_contents g_law_contents)
    {f_law_drawn_form : Addr} {g_law_drawn_form : FuncData} (D_law_drawn_form : DefAt K mg "_law_drawn_form" s_law_drawn_form ["_law_source", "_law_letters_here"] f_law_drawn_form g_law_drawn_form)
    {f_law_written : Addr} {g_law_written : FuncData} (D_law_written : DefAt K mg "_law_written" s_law_written ["_law_form_here", "_law_many"] f_law_written g_law_written)
    {f_law_pair : Addr} {g_law_pair : FuncData} (D_law_pair : DefAt K mg "_law_pair" s_law_pair ["_law_source", "_law_letters_here"] f_law_pair g_law_pair)
    {f_law_letters : Addr} {g_law_letters : FuncData} (D_law_letters : DefAt K mg "_law_letters" s_law_letters ["_law_source"] f_law_letters g_law_letters)
    {f_is_letter : Addr} {g_is_letter : FuncData} (D_is_letter : DefAt K mg "is_letter" s_is_letter ["value"] f_is_letter g_is_letter)
    {f_is_word : Addr} {g_is_word : FuncData} (D_is_word : DefAtV K mg "is_word" s_is_word ["value", "most"] 4000 f_is_word g_is_word)
    {f_is_number : Addr} {g_is_number : FuncData} (D_is_number : DefAt K mg "is_number" s_is_number ["value"] f_is_number g_is_number)
    {f_is_between : Addr} {g_is_between : FuncData} (D_is_between : DefAt K mg "is_between" s_is_between ["value", "least", "most"] f_is_between g_is_between)
    {f_is_fitting : Addr} {g_is_fitting : FuncData} (D_is_fitting : DefAt K mg "is_fitting" s_is_fitting ["u", "v", "d"] f_is_fitting g_is_fitting)
    {f_match_lengths : Addr} {g_match_lengths : FuncData} (D_match_lengths : DefAt K mg "match_lengths" s_match_lengths ["pattern", "text"] f_match_lengths g_match_lengths)
    {f_normal_from : Addr} {g_normal_from : FuncData} (D_normal_from : DefAt K mg "normal_from" s_normal_from ["u", "v", "d"] f_normal_from g_normal_from)
    {f_is_queue_form : Addr} {g_is_queue_form : FuncData} (D_is_queue_form : DefAt K mg "is_queue_form" s_is_queue_form ["value"] f_is_queue_form g_is_queue_form)
    {f_need_queue_form : Addr} {g_need_queue_form : FuncData} (D_need_queue_form : DefAt K mg "need_queue_form" s_need_queue_form ["form"] f_need_queue_form g_need_queue_form)
    {f_need_count : Addr} {g_need_count : FuncData} (D_need_count : DefAt K mg "need_count" s_need_count ["count", "least", "most"] f_need_count g_need_count)
    {f_need_power : Addr} {g_need_power : FuncData} (D_need_power : DefAt K mg "need_power" s_need_power ["form", "times"] f_need_power g_need_power)
    {f_letters_from : Addr} {g_letters_from : FuncData} (D_letters_from : DefAt K mg "letters_from" s_letters_from ["word", "begin", "many"] f_letters_from g_letters_from)
    {f_repeated_alike : Addr} {g_repeated_alike : FuncData} (D_repeated_alike : DefAt K mg "repeated_alike" s_repeated_alike ["word", "times", "other", "more"] f_repeated_alike g_repeated_alike)
    {f_depth_of : Addr} {g_depth_of : FuncData} (D_depth_of : DefAt K mg "depth_of" s_depth_of ["form", "times"] f_depth_of g_depth_of)
    {f_least_of_power : Addr} {g_least_of_power : FuncData} (D_least_of_power : DefAt K mg "least_of_power" s_least_of_power ["form", "times"] f_least_of_power g_least_of_power)
    {f_powers_alike : Addr} {g_powers_alike : FuncData} (D_powers_alike : DefAt K mg "powers_alike" s_powers_alike ["one", "times", "other", "more"] f_powers_alike g_powers_alike)
    {f_law_same_words : Addr} {g_law_same_words : FuncData} (D_law_same_words : DefAt K mg "_law_same_words" s_law_same_words ["_law_one_here", "_law_times", "_law_other", "_law_more"] f_law_same_words g_law_same_words)
    {f_law_rest_begins : Addr} {g_law_rest_begins : FuncData} (D_law_rest_begins : DefAt K mg "_law_rest_begins" s_law_rest_begins ["_law_u", "_law_v", "_law_k", "_law_many"] f_law_rest_begins g_law_rest_begins)
    {f_law_great_least : Addr} {g_law_great_least : FuncData} (D_law_great_least : DefAt K mg "_law_great_least" s_law_great_least ["_law_form_here", "_law_many"] f_law_great_least g_law_great_least)
    {f_law_alike : Addr} {g_law_alike : FuncData} (D_law_alike : DefAt K mg "_law_alike" s_law_alike ["_law_one_here", "_law_times", "_law_other", "_law_more"] f_law_alike g_law_alike)
    {f_power_least : Addr} {g_power_least : FuncData} (D_power_least : DefAt K mg "power_least" s_power_least ["form", "times"] f_power_least g_power_least)
    {f_law_heard : Addr} {g_law_heard : FuncData} (D_law_heard : DefAt K mg "_law_heard" s_law_heard ["_law_call"] f_law_heard g_law_heard)
    {f_law : Addr} {g_law : FuncData} (D_law : DefAt K mg "law" s_law ["_law_script"] f_law g_law)
    : FnG P w K mg base 10 f_law g_law ["_law_script"] (lift K mg [.ro] sp_law) := by
  have c_law_pool : CalN P w K mg base "_law_pool" 1 [.ro, .d] sp_law_pool := calN_of D_law_pool sc_law_pool rfl (fun cdv A outer s H E gd => d_law_pool D_law_pool.fn G cdv A outer s H E gd) (w_law_pool)
  have c_law_take : Cal P w K mg base "_law_take" 1 [.io, .d] sp_law_takeW := cal_of D_law_take sc_law_take rfl (fun cdv A outer s H E gd => d_law_take D_law_take.fn G cdv A outer s H E gd) (w_law_take)
  have c_law_one : Cal P w K mg base "_law_one" 2 [.io, .d] sp_law_one := cal_of D_law_one sc_law_one rfl (fun cdv A outer s H E gd => d_law_one D_law_one.fn G c_law_take cdv A outer s H E gd) (w_law_one)
  have c_law_turned_word : Cal P w K mg base "_law_turned_word" 1 [.d, .d] sp_law_turned_word := cal_of D_law_turned_word sc_law_turned_word rfl (fun cdv A outer s H E gd => d_law_turned_word D_law_turned_word.fn G cdv A outer s H E gd) (w_law_turned_word)
  have c_law_normal : Cal P w K mg base "_law_normal" 1 [.d, .d, .d] sp_law_normal := cal_of D_law_normal sc_law_normal rfl (fun cdv A outer s H E gd => d_law_normal D_law_normal.fn G cdv A outer s H E gd) (w_law_normal)
  have c_law_planted_form : Cal P w K mg base "_law_planted_form" 3 [.io, .d] sp_law_planted_form := cal_of D_law_planted_form sc_law_planted_form rfl (fun cdv A outer s H E gd => d_law_planted_form D_law_planted_form.fn G c_law_one c_law_take c_law_turned_word c_law_normal cdv A outer s H E gd) (w_law_planted_form)
  have c_law_form : Cal P w K mg base "_law_form" 2 [.d] sp_law_form := cal_of D_law_form sc_law_form rfl (fun cdv A outer s H E gd => d_law_form D_law_form.fn G c_law_normal cdv A outer s H E gd) (w_law_form)
  have c_law_step : Cal P w K mg base "_law_step" 3 [.io, .d, .d] sp_law_step := cal_of D_law_step sc_law_step rfl (fun cdv A outer s H E gd => d_law_step D_law_step.fn G c_law_one c_law_take cdv A outer s H E gd) (w_law_step)
  have c_law_planted : Cal P w K mg base "_law_planted" 1 [.d, .ro, .d] sp_law_planted := cal_of D_law_planted sc_law_planted rfl (fun cdv A outer s H E gd => d_law_planted D_law_planted.fn G cdv A outer s H E gd) (w_law_planted)
  have c_law_row : Cal P w K mg base "_law_row" 4 [.io, .d, .d, .d] sp_law_row := cal_of D_law_row sc_law_row rfl (fun cdv A outer s H E gd => d_law_row D_law_row.fn G c_law_take c_law_step c_law_planted cdv A outer s H E gd) (w_law_row)
  have c_law_contents : Cal P w K mg base "_law_contents" 3 [.io, .d, .d] sp_law_contents := cal_of D_law_contents sc_law_contents rfl (fun cdv A outer s H E gd => d_law_contents D_law_contents.fn G c_law_one c_law_take cdv A outer s H E gd) (w_law_contents)
  have c_law_drawn_form : Cal P w K mg base "_law_drawn_form" 5 [.io, .d] sp_law_drawn_form := cal_of D_law_drawn_form sc_law_drawn_form rfl (fun cdv A outer s H E gd => d_law_drawn_form D_law_drawn_form.fn G c_law_take c_law_planted_form c_law_form c_law_row c_law_contents cdv A outer s H E gd) (w_law_drawn_form)
  have c_law_written : Cal P w K mg base "_law_written" 2 [.d, .d] sp_law_written := cal_of D_law_written sc_law_written rfl (fun cdv A outer s H E gd => d_law_written D_law_written.fn G c_law_normal cdv A outer s H E gd) (w_law_written)
  have c_law_pair : Cal P w K mg base "_law_pair" 6 [.io, .d] sp_law_pair := cal_of D_law_pair sc_law_pair rfl (fun cdv A outer s H E gd => d_law_pair D_law_pair.fn G c_law_drawn_form c_law_take c_law_written c_law_normal cdv A outer s H E gd) (w_law_pair)
  have c_law_letters : Cal P w K mg base "_law_letters" 3 [.io] sp_law_letters := cal_of D_law_letters sc_law_letters rfl (fun cdv A outer s H E gd => d_law_letters D_law_letters.fn G c_law_one cdv A outer s H E gd) (w_law_letters)
  have c_is_letter : Cal P w K mg base "is_letter" 1 [.d] sp_is_letter := cal_of D_is_letter sc_is_letter rfl (fun cdv A outer s H E gd => d_is_letter D_is_letter.fn G cdv A outer s H E gd) (w_is_letter)
  have c_is_word : CalF P w K mg base "is_word" 2 [.d] sp_is_word [.int 4000] := calF_of D_is_word sc_is_word rfl (fun cdv A outer s H E gd => d_is_word G c_is_letter cdv A outer s H E gd) (w_is_word)
  have c_is_number : Cal P w K mg base "is_number" 1 [.d] sp_is_number := cal_of D_is_number sc_is_number rfl (fun cdv A outer s H E gd => d_is_number D_is_number.fn G cdv A outer s H E gd) (w_is_number)
  have c_is_between : Cal P w K mg base "is_between" 2 [.d, .d, .d] sp_is_between := cal_of D_is_between sc_is_between rfl (fun cdv A outer s H E gd => d_is_between D_is_between.fn G c_is_number cdv A outer s H E gd) (w_is_between)
  have c_is_fitting : Cal P w K mg base "is_fitting" 3 [.d, .d, .d] sp_is_fitting := cal_of D_is_fitting sc_is_fitting rfl (fun cdv A outer s H E gd => d_is_fitting D_is_fitting.fn G c_is_word c_is_between cdv A outer s H E gd) (w_is_fitting)
  have c_match_lengths : Cal P w K mg base "match_lengths" 1 [.d, .d] sp_match_lengths := cal_of D_match_lengths sc_match_lengths rfl (fun cdv A outer s H E gd => d_match_lengths D_match_lengths.fn G cdv A outer s H E gd) (w_match_lengths)
  have c_normal_from : Cal P w K mg base "normal_from" 2 [.d, .d, .d] sp_normal_from := cal_of D_normal_from sc_normal_from rfl (fun cdv A outer s H E gd => d_normal_from D_normal_from.fn G c_match_lengths cdv A outer s H E gd) (w_normal_from)
  have c_is_queue_form : Cal P w K mg base "is_queue_form" 4 [.d] sp_is_queue_form := cal_of D_is_queue_form sc_is_queue_form rfl (fun cdv A outer s H E gd => d_is_queue_form D_is_queue_form.fn G c_is_fitting c_normal_from cdv A outer s H E gd) (w_is_queue_form)
  have c_need_queue_form : Cal P w K mg base "need_queue_form" 5 [.d] sp_need_queue_form := cal_of D_need_queue_form sc_need_queue_form rfl (fun cdv A outer s H E gd => d_need_queue_form D_need_queue_form.fn G c_is_queue_form cdv A outer s H E gd) (w_need_queue_form)
  have c_need_count : Cal P w K mg base "need_count" 3 [.d, .d, .d] sp_need_count := cal_of D_need_count sc_need_count rfl (fun cdv A outer s H E gd => d_need_count D_need_count.fn G c_is_between cdv A outer s H E gd) (w_need_count)
  have c_need_power : Cal P w K mg base "need_power" 6 [.d, .d] sp_need_power := cal_of D_need_power sc_need_power rfl (fun cdv A outer s H E gd => d_need_power D_need_power.fn G c_need_queue_form c_need_count cdv A outer s H E gd) (w_need_power)
  have c_letters_from : Cal P w K mg base "letters_from" 1 [.d, .d, .d] sp_letters_from := cal_of D_letters_from sc_letters_from rfl (fun cdv A outer s H E gd => d_letters_from D_letters_from.fn G cdv A outer s H E gd) (w_letters_from)
  have c_repeated_alike : Cal P w K mg base "repeated_alike" 2 [.d, .d, .d, .d] sp_repeated_alike := cal_of D_repeated_alike sc_repeated_alike rfl (fun cdv A outer s H E gd => d_repeated_alike D_repeated_alike.fn G c_letters_from cdv A outer s H E gd) (w_repeated_alike)
  have c_depth_of : Cal P w K mg base "depth_of" 1 [.d, .d] sp_depth_of := cal_of D_depth_of sc_depth_of rfl (fun cdv A outer s H E gd => d_depth_of D_depth_of.fn G cdv A outer s H E gd) (w_depth_of)
  have c_least_of_power : Cal P w K mg base "least_of_power" 2 [.d, .d] sp_least_of_power := cal_of D_least_of_power sc_least_of_power rfl (fun cdv A outer s H E gd => d_least_of_power D_least_of_power.fn G c_match_lengths c_letters_from c_depth_of cdv A outer s H E gd) (w_least_of_power)
  have c_powers_alike : Cal P w K mg base "powers_alike" 7 [.d, .d, .d, .d] sp_powers_alike := cal_of D_powers_alike sc_powers_alike rfl (fun cdv A outer s H E gd => d_powers_alike D_powers_alike.fn G c_need_power c_repeated_alike c_least_of_power cdv A outer s H E gd) (w_powers_alike)
  have c_law_same_words : Cal P w K mg base "_law_same_words" 1 [.d, .d, .d, .d] sp_law_same_words := cal_of D_law_same_words sc_law_same_words rfl (fun cdv A outer s H E gd => d_law_same_words D_law_same_words.fn G cdv A outer s H E gd) (w_law_same_words)
  have c_law_rest_begins : Cal P w K mg base "_law_rest_begins" 1 [.d, .d, .d, .d] sp_law_rest_begins := cal_of D_law_rest_begins sc_law_rest_begins rfl (fun cdv A outer s H E gd => d_law_rest_begins D_law_rest_begins.fn G cdv A outer s H E gd) (w_law_rest_begins)
  have c_law_great_least : Cal P w K mg base "_law_great_least" 2 [.d, .d] sp_law_great_least := cal_of D_law_great_least sc_law_great_least rfl (fun cdv A outer s H E gd => d_law_great_least D_law_great_least.fn G c_law_rest_begins cdv A outer s H E gd) (w_law_great_least)
  have c_law_alike : Cal P w K mg base "_law_alike" 3 [.d, .d, .d, .d] sp_law_alike := cal_of D_law_alike sc_law_alike rfl (fun cdv A outer s H E gd => d_law_alike D_law_alike.fn G c_law_same_words c_law_great_least cdv A outer s H E gd) (w_law_alike)
  have c_power_least : Cal P w K mg base "power_least" 7 [.d, .d] sp_power_least := cal_of D_power_least sc_power_least rfl (fun cdv A outer s H E gd => d_power_least D_power_least.fn G c_need_power c_least_of_power cdv A outer s H E gd) (w_power_least)
  have c_law_heard : CalL P w K mg base "_law_heard" 0 sp_law_heard := ⟨⟨s_law_heard, "_law_call", ["_law_call", "e"], f_law_heard, g_law_heard, b_law_heard, D_law_heard, sc_law_heard, rfl, (by first | exact Or.inl rfl | exact Or.inr (Or.inl rfl) | exact Or.inr (Or.inr rfl)), (by decide), (by decide), (fun k hk act cdv A outer s H E ha gd => d_law_heard D_law_heard.fn G act cdv A outer s H E k ha gd), (w_law_heard)⟩⟩
  exact def_okL D_law.fn sc_law rfl (fun cdv e A outer s H E gd => d_law D_law.fn G c_law_pool c_law_pair c_law_letters c_law_written c_powers_alike c_law_one c_law_alike c_power_least c_law_great_least c_law_heard cdv (by rw [← e]; exact G.la_law _ _ _ D_law.fn D_law.gm) A outer s H E gd) w_law
end BX
/-! K18y -/
open PySem PySem.W
set_option maxRecDepth 110000 in
set_option maxHeartbeats 0 in
theorem PySem.Challenge.cw_boxeffects_k18_whole_powers_alike_holds : PySem.Challenge.rw_boxeffects_k18_whole_powers_alike.Holds := by
  w_on; o_law
  refine TB.holds_of (r := PySem.W.OpenLaw.row PySem.Challenge.rw_boxeffects_k18_whole_powers_alike) (q := BX.QV) (loose := BX.names) (Y := (TB.hookC BX.cfg).says) (d := HandSHeadRun.topDef BX.RW0.prog 48) (kwd := []) BX.grounds (TB.hookC BX.cfg).keeps (by kernel_rfl) (by kernel_rfl) (by kernel_rfl) (by kernel_rfl) (by first | assumption | decide +kernel) (by decide +kernel) (by decide +kernel) (by kernel_rfl) ⟨rfl, rfl, rfl, rfl, rfl, by decide +kernel⟩ ?hw ?hc
  case hw => w_witness2
  case hc =>
    refine TB.walkE (l := PySem.Challenge.rw_boxeffects_k18_whole_powers_alike) (x := "_law_script") (k := 10) (sp := BX.sp_law) rfl (by kernel_rfl) ⟨rfl, by decide, by decide⟩ (fun ns Q R h q => ⟨ns, rfl, h, q⟩) ?F
    intro w mg fa h Y G hmg0
    obtain ⟨K, KX, S, TA, TL, TF⟩ := Y
    have hmg : mg ("law" : PySem.Str) = some (.ref fa) := by
      have e : (HandSHeadRun.topDef BX.RW0.prog 48).name = ("law" : PySem.Str) := by kernel_rfl
      rw [← e]
      exact hmg0
    obtain ⟨g_law_pool, D_law_pool⟩ := TB.def_at (x := "_law_pool") (st := BX.s_law_pool) (ps := ["_law_script", "_law_k"]) KX G (S.def_ 0).1 (S.def_ 0).2 (fun _ _ _ _ _ _ us e => match us, e with | [_, _], _ => rfl)
    obtain ⟨g_law_take, D_law_take⟩ := TB.def_at (x := "_law_take") (st := BX.s_law_take) (ps := ["_law_source", "_law_top"]) KX G (S.def_ 1).1 (S.def_ 1).2 (fun _ _ _ _ _ _ us e => match us, e with | [_, _], _ => rfl)
    obtain ⟨g_law_one, D_law_one⟩ := TB.def_at (x := "_law_one") (st := BX.s_law_one) (ps := ["_law_source", "_law_things"]) KX G (S.def_ 2).1 (S.def_ 2).2 (fun _ _ _ _ _ _ us e => match us, e with | [_, _], _ => rfl)
    obtain ⟨g_law_turned_word, D_law_turned_word⟩ := TB.def_at (x := "_law_turned_word") (st := BX.s_law_turned_word) (ps := ["_law_root", "_law_far"]) KX G (S.def_ 3).1 (S.def_ 3).2 (fun _ _ _ _ _ _ us e => match us, e with | [_, _], _ => rfl)
    obtain ⟨g_law_normal, D_law_normal⟩ := TB.def_at (x := "_law_normal") (st := BX.s_law_normal) (ps := ["_law_u", "_law_v", "_law_least"]) KX G (S.def_ 4).1 (S.def_ 4).2 (fun _ _ _ _ _ _ us e => match us, e with | [_, _, _], _ => rfl)
    obtain ⟨g_law_planted_form, D_law_planted_form⟩ := TB.def_at (x := "_law_planted_form") (st := BX.s_law_planted_form) (ps := ["_law_source", "_law_letters_here"]) KX G (S.def_ 5).1 (S.def_ 5).2 (fun _ _ _ _ _ _ us e => match us, e with | [_, _], _ => rfl)
    obtain ⟨g_law_form, D_law_form⟩ := TB.def_at (x := "_law_form") (st := BX.s_law_form) (ps := ["_law_row_here"]) KX G (S.def_ 6).1 (S.def_ 6).2 (fun _ _ _ _ _ _ us e => match us, e with | [_], _ => rfl)
    obtain ⟨g_law_step, D_law_step⟩ := TB.def_at (x := "_law_step") (st := BX.s_law_step) (ps := ["_law_source", "_law_kind", "_law_letters_here"]) KX G (S.def_ 7).1 (S.def_ 7).2 (fun _ _ _ _ _ _ us e => match us, e with | [_, _, _], _ => rfl)
    obtain ⟨g_law_planted, D_law_planted⟩ := TB.def_at (x := "_law_planted") (st := BX.s_law_planted) (ps := ["_law_kind", "_law_drawn", "_law_step_here"]) KX G (S.def_ 8).1 (S.def_ 8).2 (fun _ _ _ _ _ _ us e => match us, e with | [_, _, _], _ => rfl)
    obtain ⟨g_law_row, D_law_row⟩ := TB.def_at (x := "_law_row") (st := BX.s_law_row) (ps := ["_law_source", "_law_kind", "_law_letters_here", "_law_most"]) KX G (S.def_ 9).1 (S.def_ 9).2 (fun _ _ _ _ _ _ us e => match us, e with | [_, _, _, _], _ => rfl)
    obtain ⟨g_law_contents, D_law_contents⟩ := TB.def_at (x := "_law_contents") (st := BX.s_law_contents) (ps := ["_law_source", "_law_kind", "_law_letters_here"]) KX G (S.def_ 10).1 (S.def_ 10).2 (fun _ _ _ _ _ _ us e => match us, e with | [_, _, _], _ => rfl)
    obtain ⟨g_law_drawn_form, D_law_drawn_form⟩ := TB.def_at (x := "_law_drawn_form") (st := BX.s_law_drawn_form) (ps := ["_law_source", "_law_letters_here"]) KX G (S.def_ 11).1 (S.def_ 11).2 (fun _ _ _ _ _ _ us e => match us, e with | [_, _], _ => rfl)
    obtain ⟨g_law_written, D_law_written⟩ := TB.def_at (x := "_law_written") (st := BX.s_law_written) (ps := ["_law_form_here", "_law_many"]) KX G (S.def_ 12).1 (S.def_ 12).2 (fun _ _ _ _ _ _ us e => match us, e with | [_, _], _ => rfl)
    obtain ⟨g_law_pair, D_law_pair⟩ := TB.def_at (x := "_law_pair") (st := BX.s_law_pair) (ps := ["_law_source", "_law_letters_here"]) KX G (S.def_ 13).1 (S.def_ 13).2 (fun _ _ _ _ _ _ us e => match us, e with | [_, _], _ => rfl)
    obtain ⟨g_law_letters, D_law_letters⟩ := TB.def_at (x := "_law_letters") (st := BX.s_law_letters) (ps := ["_law_source"]) KX G (S.def_ 14).1 (S.def_ 14).2 (fun _ _ _ _ _ _ us e => match us, e with | [_], _ => rfl)
    obtain ⟨g_is_letter, D_is_letter⟩ := TB.def_at (x := "is_letter") (st := BX.s_is_letter) (ps := ["value"]) KX G (S.def_ 15).1 (S.def_ 15).2 (fun _ _ _ _ _ _ us e => match us, e with | [_], _ => rfl)
    obtain ⟨g_is_word, D_is_word⟩ := TB.def_atV (x := "is_word") (st := BX.s_is_word) (ps := ["value", "most"]) (i := 4000) KX G (S.def_ 16).1 (S.def_ 16).2 (fun t => BX.binds_is_word (t := t))
    obtain ⟨g_is_number, D_is_number⟩ := TB.def_at (x := "is_number") (st := BX.s_is_number) (ps := ["value"]) KX G (S.def_ 17).1 (S.def_ 17).2 (fun _ _ _ _ _ _ us e => match us, e with | [_], _ => rfl)
    obtain ⟨g_is_between, D_is_between⟩ := TB.def_at (x := "is_between") (st := BX.s_is_between) (ps := ["value", "least", "most"]) KX G (S.def_ 18).1 (S.def_ 18).2 (fun _ _ _ _ _ _ us e => match us, e with | [_, _, _], _ => rfl)
    obtain ⟨g_is_fitting, D_is_fitting⟩ := TB.def_at (x := "is_fitting") (st := BX.s_is_fitting) (ps := ["u", "v", "d"]) KX G (S.def_ 19).1 (S.def_ 19).2 (fun _ _ _ _ _ _ us e => match us, e with | [_, _, _], _ => rfl)
    obtain ⟨g_match_lengths, D_match_lengths⟩ := TB.def_at (x := "match_lengths") (st := BX.s_match_lengths) (ps := ["pattern", "text"]) KX G (S.def_ 20).1 (S.def_ 20).2 (fun _ _ _ _ _ _ us e => match us, e with | [_, _], _ => rfl)
    obtain ⟨g_normal_from, D_normal_from⟩ := TB.def_at (x := "normal_from") (st := BX.s_normal_from) (ps := ["u", "v", "d"]) KX G (S.def_ 21).1 (S.def_ 21).2 (fun _ _ _ _ _ _ us e => match us, e with | [_, _, _], _ => rfl)
    obtain ⟨g_is_queue_form, D_is_queue_form⟩ := TB.def_at (x := "is_queue_form") (st := BX.s_is_queue_form) (ps := ["value"]) KX G (S.def_ 22).1 (S.def_ 22).2 (fun _ _ _ _ _ _ us e => match us, e with | [_], _ => rfl)
    obtain ⟨g_need_queue_form, D_need_queue_form⟩ := TB.def_at (x := "need_queue_form") (st := BX.s_need_queue_form) (ps := ["form"]) KX G (S.def_ 23).1 (S.def_ 23).2 (fun _ _ _ _ _ _ us e => match us, e with | [_], _ => rfl)
    obtain ⟨g_need_count, D_need_count⟩ := TB.def_at (x := "need_count") (st := BX.s_need_count) (ps := ["count", "least", "most"]) KX G (S.def_ 24).1 (S.def_ 24).2 (fun _ _ _ _ _ _ us e => match us, e with | [_, _, _], _ => rfl)
    obtain ⟨g_need_power, D_need_power⟩ := TB.def_at (x := "need_power") (st := BX.s_need_power) (ps := ["form", "times"]) KX G (S.def_ 25).1 (S.def_ 25).2 (fun _ _ _ _ _ _ us e => match us, e with | [_, _], _ => rfl)
    obtain ⟨g_letters_from, D_letters_from⟩ := TB.def_at (x := "letters_from") (st := BX.s_letters_from) (ps := ["word", "begin", "many"]) KX G (S.def_ 26).1 (S.def_ 26).2 (fun _ _ _ _ _ _ us e => match us, e with | [_, _, _], _ => rfl)
    obtain ⟨g_repeated_alike, D_repeated_alike⟩ := TB.def_at (x := "repeated_alike") (st := BX.s_repeated_alike) (ps := ["word", "times", "other", "more"]) KX G (S.def_ 27).1 (S.def_ 27).2 (fun _ _ _ _ _ _ us e => match us, e with | [_, _, _, _], _ => rfl)
    obtain ⟨g_depth_of, D_depth_of⟩ := TB.def_at (x := "depth_of") (st := BX.s_depth_of) (ps := ["form", "times"]) KX G (S.def_ 28).1 (S.def_ 28).2 (fun _ _ _ _ _ _ us e => match us, e with | [_, _], _ => rfl)
    obtain ⟨g_least_of_power, D_least_of_power⟩ := TB.def_at (x := "least_of_power") (st := BX.s_least_of_power) (ps := ["form", "times"]) KX G (S.def_ 29).1 (S.def_ 29).2 (fun _ _ _ _ _ _ us e => match us, e with | [_, _], _ => rfl)
    obtain ⟨g_powers_alike, D_powers_alike⟩ := TB.def_at (x := "powers_alike") (st := BX.s_powers_alike) (ps := ["one", "times", "other", "more"]) KX G (S.def_ 30).1 (S.def_ 30).2 (fun _ _ _ _ _ _ us e => match us, e with | [_, _, _, _], _ => rfl)
    obtain ⟨g_law_same_words, D_law_same_words⟩ := TB.def_at (x := "_law_same_words") (st := BX.s_law_same_words) (ps := ["_law_one_here", "_law_times", "_law_other", "_law_more"]) KX G (S.def_ 31).1 (S.def_ 31).2 (fun _ _ _ _ _ _ us e => match us, e with | [_, _, _, _], _ => rfl)
    obtain ⟨g_law_rest_begins, D_law_rest_begins⟩ := TB.def_at (x := "_law_rest_begins") (st := BX.s_law_rest_begins) (ps := ["_law_u", "_law_v", "_law_k", "_law_many"]) KX G (S.def_ 32).1 (S.def_ 32).2 (fun _ _ _ _ _ _ us e => match us, e with | [_, _, _, _], _ => rfl)
    obtain ⟨g_law_great_least, D_law_great_least⟩ := TB.def_at (x := "_law_great_least") (st := BX.s_law_great_least) (ps := ["_law_form_here", "_law_many"]) KX G (S.def_ 33).1 (S.def_ 33).2 (fun _ _ _ _ _ _ us e => match us, e with | [_, _], _ => rfl)
    obtain ⟨g_law_alike, D_law_alike⟩ := TB.def_at (x := "_law_alike") (st := BX.s_law_alike) (ps := ["_law_one_here", "_law_times", "_law_other", "_law_more"]) KX G (S.def_ 34).1 (S.def_ 34).2 (fun _ _ _ _ _ _ us e => match us, e with | [_, _, _, _], _ => rfl)
    obtain ⟨g_power_least, D_power_least⟩ := TB.def_at (x := "power_least") (st := BX.s_power_least) (ps := ["form", "times"]) KX G (S.def_ 35).1 (S.def_ 35).2 (fun _ _ _ _ _ _ us e => match us, e with | [_, _], _ => rfl)
    obtain ⟨g_law_heard, D_law_heard⟩ := TB.def_at (x := "_law_heard") (st := BX.s_law_heard) (ps := ["_law_call"]) KX G (S.def_ 36).1 (S.def_ 36).2 (fun _ _ _ _ _ _ us e => match us, e with | [_], _ => rfl)
    obtain ⟨g_law, D_law⟩ := TB.def_at (x := "law") (st := BX.s_law) (ps := ["_law_script"]) KX G (S.def_ 37).1 (S.def_ 37).2 (fun _ _ _ _ _ _ us e => match us, e with | [_], _ => rfl)
    have e := hmg.symm.trans D_law.gm
    cases e
    exact ⟨K, KX, TA, g_law, fun s u => .of_eq (D_law.bq [u] rfl), fun base LB => BX.all_ok ⟨S.gone KX G 0, S.gone KX G 1, S.gone KX G 2, S.gone KX G 3, S.gone KX G 4, S.gone KX G 5, S.gone KX G 6, S.gone KX G 7, S.gone KX G 8, S.gone KX G 9, S.gone KX G 10, S.gone KX G 11, S.gone KX G 12, S.dat KX G 0, S.dat KX G 1, (BX.e_NoForm KX G S).1, (BX.e_NoForm KX G S).2 _ w base, (BX.e_NoCount KX G S).1, (BX.e_NoCount KX G S).2 _ w base, S.apart KX G, LB, (fun _ _ _ Fn gm => BX.lamAt_of KX G (by decide +kernel) (TL "law" (by decide +kernel)) Fn gm LB)⟩ D_law_pool D_law_take D_law_one D_law_turned_word D_law_normal D_law_planted_form D_law_form D_law_step D_law_planted D_law_row D_law_contents D_law_drawn_form D_law_written D_law_pair D_law_letters D_is_letter D_is_word D_is_number D_is_between D_is_fitting D_match_lengths D_normal_from D_is_queue_form D_need_queue_form D_need_count D_need_power D_letters_from D_repeated_alike D_depth_of D_least_of_power D_powers_alike D_law_same_words D_law_rest_begins D_law_great_least D_law_alike D_power_least D_law_heard D_law⟩
