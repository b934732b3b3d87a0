import PyProof.Rows.All
import Wide.All
import OpenK.AllK
import Wide.FinOn
import HandS.ForMost
import HandS.StrMore
import HandS.IsInst
import HandS.Walk
import HandS.Exc
import HandS.ExcOwn
import HandS.ExcInit
import HandS.ExcIs
import HandS.ExcField
import KE.DataAny
import PyProof.Rows.SeqMore
import HandS.Small
import HandS.SetKeys
import PyProof.Rows.SetFrom
import HandS.More
import HandS.Conv
import HandS.Ends
import HandS.Words
import KE.GoesEnumKw
import HandS.DictComp
import HandS.TupAny
import HandS.TupMul
import HandS.Star
import HandS.Style
import HandS.Wide
import HandS.Gcd
import HandS.Zip
import KE.GoesEnum
import HandS.WordsExc
import HandS.ExcValue
import KE.KExcIs
import KE.DataFind
import HandS.RaiseMore
import KE.GoesMore
import PyProof.EnumMake
import HandS.Finally
import PySem.Challenge.RW_totalround_k02_shapes_at_their_bounds
set_option Elab.async false
set_option linter.all false
set_option maxRecDepth 100000
noncomputable section
namespace Sim
open PySem PySem.Spec PyProof.Rows L2

/-! ### data -/
inductive D where
  | non | bl (b : Bool) | int (i : Int) | str (x : Str)
  | tup (xs : List D) | lst (xs : List D) | dic (kvs : List (Key × D)) | ins (c : Nat) (fs : List D)
  /-- an error that was caught -/
  | exc (c : Nat) (fs : List D)
structure G where
  K : PySem.W.Frag
  mg : Str → Option Value
  CT : Nat → Str × List Str
def zipF (ns : List Str) (vs : List V) : List (Str × V) := ns.zip vs
/-- a caught error, by what is true of its object -/
def ExT (a C : Addr) (d : Option Addr) : HO := .ext fun h => ∃ (oe : Obj) (vs : Array Value), h.get? a = some oe ∧ Zc (.ref C) d oe ∧ oe.data = .fields vs
mutual
inductive Is (g : G) (F : Hp) : V → D → Prop
  | non : Is g F .non .non
  | bl (b : Bool) : Is g F (.bl b) (.bl b)
  | int (i : Int) : Is g F (.int i) (.int i)
  | str (x : Str) : Is g F (.str x) (.str x)
  | tup {a : Addr} {vs : List V} {ds : List D} : SqT g.K F a vs → IsL g F vs ds → Is g F (.ref a) (.tup ds)
  | lst {a : Addr} {vs : List V} {ds : List D} : SqL g.K F a vs → IsL g F vs ds → Is g F (.ref a) (.lst ds)
  | dic {a : Addr} {vk : List (Key × V)} {dk : List (Key × D)} : F a = some (.dK vk) → IsK g F vk dk → Is g F (.ref a) (.dic dk)
  | ins {a C dx : Addr} {c : Nat} {vs : List V} {ds : List D} : g.mg (g.CT c).1 = some (.ref C) → F a = some (.ins C dx (zipF (g.CT c).2 vs)) → IsL g F vs ds → vs.length ≤ (g.CT c).2.length → Is g F (.ref a) (.ins c ds)
  | exc0 {a C : Addr} {c : Nat} : g.mg (g.CT c).1 = some (.ref C) → F a = some (ExT a C none) → Is g F (.ref a) (.exc c [])
  | exc {a C dd : Addr} {c : Nat} {fs : List (Str × V)} {vs : List V} {ds : List D} : g.mg (g.CT c).1 = some (.ref C) → F a = some (ExT a C (some dd)) → F dd = some (.xd fs) → IsL g F vs ds → (∀ (i : Nat) (f : Str), (g.CT c).2[i]? = some f → fs.lookup f = vs[i]?) → Is g F (.ref a) (.exc c ds)
inductive IsL (g : G) (F : Hp) : List V → List D → Prop
  | nil : IsL g F [] []
  | cons {v : V} {vs : List V} {d : D} {ds : List D} : Is g F v d → IsL g F vs ds → IsL g F (v :: vs) (d :: ds)
inductive IsK (g : G) (F : Hp) : List (Key × V) → List (Key × D) → Prop
  | nil : IsK g F [] []
  | cons {k : Key} {v : V} {vs : List (Key × V)} {d : D} {ds : List (Key × D)} : Is g F v d → IsK g F vs ds → IsK g F ((k, v) :: vs) ((k, d) :: ds)
end
def Ex (F F' : Hp) : Prop := ∀ a o, F a = some o → F' a = some o
theorem Ex.refl (F : Hp) : Ex F F := fun _ _ h => h
theorem Ex.trans {F G H : Hp} (a : Ex F G) (b : Ex G H) : Ex F H := fun x o h => b x o (a x o h)
theorem Ex.new {F : Hp} {p : Addr} {o : HO} (h : F p = none) : Ex F (upd F p o) := fun a u e => by
  rw [upd_ne (ne_of_none e h)]
  exact e
theorem sqL_ex {K : PySem.W.Frag} {F F' : Hp} (x : Ex F F') {a : Addr} {vs : List V} (h : SqL K F a vs) : SqL K F' a vs := by
  rcases h with (h | ⟨o, h⟩) | h
  · exact .inl (.inl (x _ _ h))
  · exact .inl (.inr ⟨o, x _ _ h⟩)
  · exact .inr h
theorem sqT_ex {K : PySem.W.Frag} {F F' : Hp} (x : Ex F F') {a : Addr} {vs : List V} (h : SqT K F a vs) : SqT K F' a vs := by
  rcases h with (h | ⟨o, h⟩) | h
  · exact .inl (.inl (x _ _ h))
  · exact .inl (.inr ⟨o, x _ _ h⟩)
  · exact .inr h
section
variable {g : G} {F F' : Hp}
mutual
theorem Is.mono (e : Ex F F') : ∀ {v : V} {d : D}, Is g F v d → Is g F' v d
  | _, _, .non => .non
  | _, _, .bl b => .bl b
  | _, _, .int i => .int i
  | _, _, .str x => .str x
  | _, _, .tup h l => .tup (sqT_ex e h) (IsL.mono e l)
  | _, _, .lst h l => .lst (sqL_ex e h) (IsL.mono e l)
  | _, _, .dic h l => .dic (e _ _ h) (IsK.mono e l)
  | _, _, .ins m h l z => .ins m (e _ _ h) (IsL.mono e l) z
  | _, _, .exc0 m h => .exc0 m (e _ _ h)
  | _, _, .exc m h hd l k => .exc m (e _ _ h) (e _ _ hd) (IsL.mono e l) k
theorem IsL.mono (e : Ex F F') : ∀ {v : List V} {d : List D}, IsL g F v d → IsL g F' v d
  | _, _, .nil => .nil
  | _, _, .cons h l => .cons (Is.mono e h) (IsL.mono e l)
theorem IsK.mono (e : Ex F F') : ∀ {v : List (Key × V)} {d : List (Key × D)}, IsK g F v d → IsK g F' v d
  | _, _, .nil => .nil
  | _, _, .cons h l => .cons (Is.mono e h) (IsK.mono e l)
end
theorem IsL.len : ∀ {v : List V} {d : List D}, IsL g F v d → v.length = d.length
  | _, _, .nil => rfl
  | _, _, .cons _ l => congrArg (· + 1) (IsL.len l)
theorem IsL.get : ∀ {v : List V} {d : List D} {i : Nat} {x : D}, IsL g F v d → d[i]? = some x → ∃ u, v[i]? = some u ∧ Is g F u x
  | _, _, 0, _, .cons h _, e => ⟨_, rfl, (Option.some.inj e) ▸ h⟩
  | _, _, i + 1, _, .cons _ l, e => IsL.get (i := i) l e
  | _, _, _, _, .nil, e => by simp at e
theorem IsL.getV : ∀ {v : List V} {d : List D} {i : Nat} {u : V}, IsL g F v d → v[i]? = some u → ∃ x, d[i]? = some x ∧ Is g F u x
  | _, _, 0, _, .cons h _, e => ⟨_, rfl, (Option.some.inj e) ▸ h⟩
  | _, _, i + 1, _, .cons _ l, e => IsL.getV (i := i) l e
  | _, _, _, _, .nil, e => by simp at e
theorem IsL.append : ∀ {v w : List V} {d e : List D}, IsL g F v d → IsL g F w e → IsL g F (v ++ w) (d ++ e)
  | _, _, _, _, .nil, r => r
  | _, _, _, _, .cons h l, r => .cons h (IsL.append l r)
theorem IsL.take : ∀ {v : List V} {d : List D} (n : Nat), IsL g F v d → IsL g F (v.take n) (d.take n)
  | _, _, 0, _ => .nil
  | _, _, _ + 1, .nil => .nil
  | _, _, n + 1, .cons h l => .cons h (IsL.take n l)
theorem IsL.drop : ∀ {v : List V} {d : List D} (n : Nat), IsL g F v d → IsL g F (v.drop n) (d.drop n)
  | _, _, 0, r => r
  | _, _, _ + 1, .nil => .nil
  | _, _, n + 1, .cons _ l => IsL.drop n l
theorem IsL.set : ∀ {v : List V} {d : List D} {x : V} {y : D} (n : Nat), IsL g F v d → Is g F x y → IsL g F (v.set n x) (d.set n y)
  | _, _, _, _, _, .nil, _ => .nil
  | _, _, _, _, 0, .cons _ l, r => .cons r l
  | _, _, _, _, n + 1, .cons h l, r => .cons h (IsL.set n l r)
end

/-! ### states -/
inductive Ob where
  | lst (xs : List D) | dic (kvs : List (Key × D)) | obj (c : Nat) (fs : List D)
def Ob.frz : Ob → D
  | .lst xs => .lst xs
  | .dic k => .dic k
  | .obj c fs => .ins c fs
inductive Sl where
  | val (d : D) | own (p : Bool) (o : Ob)
inductive ObIs (g : G) (F : Hp) : HO → Ob → Prop
  | lst {vs : List V} {ds : List D} : IsL g F vs ds → ObIs g F (.lst vs) (.lst ds)
  | dic {vs : List (Key × V)} {ds : List (Key × D)} : IsK g F vs ds → ObIs g F (.dK vs) (.dic ds)
  | obj {C dx : Addr} {c : Nat} {vs : List V} {ds : List D} : g.mg (g.CT c).1 = some (.ref C) → IsL g F vs ds → vs.length ≤ (g.CT c).2.length → ObIs g F (.ins C dx (zipF (g.CT c).2 vs)) (.obj c ds)
theorem ObIs.mono {g : G} {F F' : Hp} (e : Ex F F') {ho : HO} {o : Ob} (h : ObIs g F ho o) : ObIs g F' ho o := by
  cases h with
  | lst l => exact .lst (l.mono e)
  | dic l => exact .dic (l.mono e)
  | obj m l z => exact .obj m (l.mono e) z
theorem ObIs.frz {g : G} {F : Hp} {a : Addr} {ho : HO} {o : Ob} (n : F a = none) (h : ObIs g F ho o) : Is g (upd F a ho) (.ref a) o.frz := by
  have e : Ex F (upd F a ho) := Ex.new n
  cases h with
  | lst l => exact .lst (.of upd_same) (l.mono e)
  | dic l => exact .dic upd_same (l.mono e)
  | obj m l z => exact .ins m upd_same (l.mono e) z
structure Base where
  H : Hp
  F : Hp
  A : Option Addr
  L : List (Addr × HO)
def lockable : HO → Bool
  | .lst _ => true
  | .dK _ => true
  | _ => false
def Sub (F H : Hp) : Prop := ∀ a o, F a = some o → H a = some o ∨ (lockable o = true ∧ ∃ od, H a = some (.frz od o))
theorem sqL_sub {K : PySem.W.Frag} {F H : Hp} (s : Sub F H) {a : Addr} {vs : List V} (h : SqL K F a vs) : SqL K H a vs := by
  rcases h with (h | ⟨o, h⟩) | h
  · rcases s _ _ h with z | ⟨_, od, z⟩
    · exact .inl (.inl z)
    · exact .inl (.inr ⟨od, z⟩)
  · rcases s _ _ h with z | ⟨z, _⟩
    · exact .inl (.inr ⟨o, z⟩)
    · cases z
  · exact .inr h
theorem sqT_sub {K : PySem.W.Frag} {F H : Hp} (s : Sub F H) {a : Addr} {vs : List V} (h : SqT K F a vs) : SqT K H a vs := by
  rcases h with (h | ⟨o, h⟩) | h
  · rcases s _ _ h with z | ⟨z, _⟩
    · exact .inl (.inl z)
    · cases z
  · rcases s _ _ h with z | ⟨z, _⟩
    · exact .inl (.inr ⟨o, z⟩)
    · cases z
  · exact .inr h
structure Wd (B : Base) (F H : Hp) : Prop where
  sub : Sub F H
  ex0 : Ex B.F F
  keep : ∀ b o, B.H b = some o → B.A ≠ some b → B.F b = none → H b = some o
  dom : ∀ b, B.H b ≠ none → H b ≠ none
  fr : ∀ b, B.H b ≠ none → F b = B.F b
  lk : ∀ p ∈ B.L, H p.1 = some p.2 ∧ F p.1 ≠ none
  bor : ∀ a, B.A = some a → B.H a ≠ none
/-- an address that the running def may change -/
def Mine (B : Base) (p : Bool) (a : Addr) : Prop := if p = true then B.A = some a else B.H a = none
inductive SlIs (g : G) (B : Base) (F H : Hp) : V → Sl → Prop
  | val {v : V} {d : D} : Is g F v d → SlIs g B F H v (.val d)
  | own {a : Addr} {p : Bool} {o : Ob} {ho : HO} : F a = none → Mine B p a → H a = some ho → ObIs g F ho o → SlIs g B F H (.ref a) (.own p o)
abbrev Env := List (Option Sl)
structure EnvIs (g : G) (B : Base) (F H : Hp) (σ : L2.St) (env : Env) : Prop where
  len : σ.length = env.length
  sl : ∀ (i : Nat) (s : Sl), env[i]? = some (some s) → ∃ v, σ[i]? = some (some v) ∧ SlIs g B F H v s
  dis : ∀ (i j : Nat) (a : Addr) (p q : Bool) (o u : Ob), env[i]? = some (some (.own p o)) → env[j]? = some (some (.own q u)) → σ[i]? = some (some (.ref a)) → σ[j]? = some (some (.ref a)) → i = j
inductive Vl where
  | val (d : D) | at (j : Nat)
inductive VIs (g : G) (F : Hp) (σ : L2.St) : V → Vl → Prop
  | val {v : V} {d : D} : Is g F v d → VIs g F σ v (.val d)
  | at {v : V} {j : Nat} : σ[j]? = some (some v) → VIs g F σ v (.at j)
def Sat {α : Type} (r : Option α) (p : α → Prop) : Prop := ∃ a, r = some a ∧ p a
theorem Sat.bind {α β : Type} {r : Option α} {f : α → Option β} {p : β → Prop} (h : Sat (r.bind f) p) : Sat r fun a => Sat (f a) p := by
  obtain ⟨b, e, q⟩ := h
  cases r with
  | none => cases e
  | some a => exact ⟨a, rfl, b, e, q⟩
theorem Sat.mono {α : Type} {r : Option α} {p q : α → Prop} (h : Sat r p) (k : ∀ a, p a → q a) : Sat r q := by
  obtain ⟨a, e, x⟩ := h
  exact ⟨a, e, k a x⟩

section
variable {g : G} {B : Base} {F F' H H' : Hp} {σ τ : L2.St} {env : Env}
theorem SlIs.step {v : V} {s : Sl} (h : SlIs g B F H v s) (e : Ex F F') (k : ∀ a ho, F a = none → H a = some ho → F' a = none ∧ H' a = some ho) : SlIs g B F' H' v s := by
  cases h with
  | val i => exact .val (i.mono e)
  | own n m h o => exact .own (k _ _ n h).1 m (k _ _ n h).2 (o.mono e)
/-- nothing of ours changes -/
theorem EnvIs.step (h : EnvIs g B F H σ env) (e : Ex F F') (k : ∀ a ho, F a = none → H a = some ho → F' a = none ∧ H' a = some ho) : EnvIs g B F' H' σ env :=
  ⟨h.len, fun i s q => let ⟨v, a, b⟩ := h.sl i s q; ⟨v, a, b.step e k⟩, h.dis⟩
theorem EnvIs.take (h : EnvIs g B F H (σ ++ τ) env) : EnvIs g B F H σ (env.take σ.length) := by
  have hl := h.len
  have ix : ∀ (i : Nat) (s : Sl), (env.take σ.length)[i]? = some (some s) → env[i]? = some (some s) ∧ i < σ.length := fun i s e => by
    rw [List.getElem?_take] at e
    by_cases c : i < σ.length
    · rw [if_pos c] at e
      exact ⟨e, c⟩
    · rw [if_neg c] at e
      cases e
  refine ⟨?_, fun i s e => ?_, fun i j a p q o u e1 e2 s1 s2 => ?_⟩
  · rw [List.length_take, ← hl, List.length_append]
    omega
  · obtain ⟨e, c⟩ := ix i s e
    obtain ⟨v, a, b⟩ := h.sl i s e
    rw [List.getElem?_append_left c] at a
    exact ⟨v, a, b⟩
  · obtain ⟨e1, c1⟩ := ix i _ e1
    obtain ⟨e2, c2⟩ := ix j _ e2
    exact h.dis i j a p q o u e1 e2 (by rw [List.getElem?_append_left c1]; exact s1) (by rw [List.getElem?_append_left c2]; exact s2)
theorem EnvIs.lt (h : EnvIs g B F H σ env) {i : Nat} {s : Option Sl} (e : env[i]? = some s) : i < σ.length := by
  rw [h.len]
  exact (List.getElem?_eq_some_iff.mp e).1
/-- a slot gets a value -/
theorem EnvIs.setV (h : EnvIs g B F H σ env) {v : V} {d : D} (i : Nat) (r : Is g F v d) : EnvIs g B F H (σ.set i (some v)) (env.set i (some (.val d))) := by
  have ne : ∀ (j : Nat) (p : Bool) (o : Ob), (env.set i (some (Sl.val d)))[j]? = some (some (.own p o)) → j ≠ i ∧ env[j]? = some (some (.own p o)) := fun j p o e => by
    rw [List.getElem?_set] at e
    by_cases c : i = j
    · subst c
      rw [if_pos rfl] at e
      split at e <;> cases e
    · rw [if_neg c] at e
      exact ⟨fun z => c z.symm, e⟩
  refine ⟨by rw [List.length_set, List.length_set]; exact h.len, fun j s e => ?_, fun j k a p q o u e1 e2 s1 s2 => ?_⟩
  · rw [List.getElem?_set] at e
    rw [List.getElem?_set]
    by_cases c : i = j
    · subst c
      rw [if_pos rfl] at e ⊢
      by_cases l : i < env.length
      · rw [if_pos l] at e
        rw [if_pos (by rw [h.len]; exact l)]
        cases e
        exact ⟨v, rfl, .val r⟩
      · rw [if_neg l] at e
        cases e
    · rw [if_neg c] at e ⊢
      exact h.sl j s e
  · obtain ⟨n1, e1⟩ := ne j p o e1
    obtain ⟨n2, e2⟩ := ne k q u e2
    rw [List.getElem?_set, if_neg (fun z => n1 z.symm)] at s1
    rw [List.getElem?_set, if_neg (fun z => n2 z.symm)] at s2
    exact h.dis j k a p q o u e1 e2 s1 s2
/-- forgetting a slot -/
theorem EnvIs.forget (h : EnvIs g B F H σ env) (i : Nat) (x : Option V) : EnvIs g B F H (σ.set i x) (env.set i none) := by
  have ne : ∀ (j : Nat) (s : Sl), (env.set i none)[j]? = some (some s) → j ≠ i ∧ env[j]? = some (some s) := fun j s e => by
    rw [List.getElem?_set] at e
    by_cases c : i = j
    · subst c
      rw [if_pos rfl] at e
      split at e <;> cases e
    · rw [if_neg c] at e
      exact ⟨fun z => c z.symm, e⟩
  refine ⟨by rw [List.length_set, List.length_set]; exact h.len, fun j s e => ?_, fun j k a p q o u e1 e2 s1 s2 => ?_⟩
  · obtain ⟨n, e⟩ := ne j s e
    rw [List.getElem?_set, if_neg (fun z => n z.symm)]
    exact h.sl j s e
  · obtain ⟨n1, e1⟩ := ne j _ e1
    obtain ⟨n2, e2⟩ := ne k _ e2
    rw [List.getElem?_set, if_neg (fun z => n1 z.symm)] at s1
    rw [List.getElem?_set, if_neg (fun z => n2 z.symm)] at s2
    exact h.dis j k a p q o u e1 e2 s1 s2
/-- a slot is only forgotten in what is known -/
theorem EnvIs.lose (h : EnvIs g B F H σ env) (i : Nat) : EnvIs g B F H σ (env.set i none) := by
  have ne : ∀ (j : Nat) (s : Sl), (env.set i none)[j]? = some (some s) → env[j]? = some (some s) := fun j s e => by
    rw [List.getElem?_set] at e
    by_cases c : i = j
    · subst c
      rw [if_pos rfl] at e
      split at e <;> cases e
    · rw [if_neg c] at e
      exact e
  exact ⟨by rw [List.length_set]; exact h.len, fun j s e => h.sl j s (ne j s e), fun j k a p q o u e1 e2 s1 s2 => h.dis j k a p q o u (ne j _ e1) (ne k _ e2) s1 s2⟩
/-- an own object stands in a slot: its address, what stands there -/
theorem EnvIs.own (h : EnvIs g B F H σ env) {i : Nat} {p : Bool} {o : Ob} (e : env[i]? = some (some (.own p o))) : ∃ a ho, σ[i]? = some (some (.ref a)) ∧ F a = none ∧ Mine B p a ∧ H a = some ho ∧ ObIs g F ho o := by
  obtain ⟨v, a, b⟩ := h.sl i _ e
  cases b with
  | own n m hh r => exact ⟨_, _, a, n, m, hh, r⟩
theorem EnvIs.val (h : EnvIs g B F H σ env) {i : Nat} {d : D} (e : env[i]? = some (some (.val d))) : ∃ v, σ[i]? = some (some v) ∧ Is g F v d := by
  obtain ⟨v, a, b⟩ := h.sl i _ e
  cases b with
  | val r => exact ⟨_, a, r⟩
/-- an own object is changed -/
theorem EnvIs.write (h : EnvIs g B F H σ env) {i : Nat} {p : Bool} {o o' : Ob} {a : Addr} {ho : HO} (e : env[i]? = some (some (.own p o))) (ea : σ[i]? = some (some (.ref a))) (r : ObIs g F ho o') : EnvIs g B F (upd H a ho) σ (env.set i (some (.own p o'))) := by
  obtain ⟨a', h0, ea', n, m, _, _⟩ := h.own e
  obtain rfl : a' = a := by rw [ea] at ea'; cases ea'; rfl
  have hi : i < env.length := (List.getElem?_eq_some_iff.mp e).1
  refine ⟨by rw [List.length_set]; exact h.len, fun j s q => ?_, fun j k b p1 p2 o1 o2 e1 e2 s1 s2 => ?_⟩
  · rw [List.getElem?_set] at q
    by_cases c : i = j
    · subst c
      rw [if_pos rfl, if_pos hi] at q
      cases q
      exact ⟨_, ea, .own n m upd_same r⟩
    · rw [if_neg c] at q
      obtain ⟨v, x, y⟩ := h.sl j s q
      refine ⟨v, x, ?_⟩
      cases y with
      | val y => exact .val y
      | @own b p2 o2 ho2 n2 m2 h2 r2 =>
        refine .own n2 m2 ?_ r2
        rw [upd_ne]
        · exact h2
        · intro z
          subst z
          exact c (h.dis i j _ p p2 o o2 e q ea x)
  · have bk : ∀ (j : Nat) (p1 : Bool) (o1 : Ob), (env.set i (some (Sl.own p o')))[j]? = some (some (.own p1 o1)) → ∃ p2 o2, env[j]? = some (some (.own p2 o2)) := fun j p1 o1 q => by
      rw [List.getElem?_set] at q
      by_cases c : i = j
      · subst c
        exact ⟨_, _, e⟩
      · rw [if_neg c] at q
        exact ⟨_, _, q⟩
    obtain ⟨_, _, e1⟩ := bk j p1 o1 e1
    obtain ⟨_, _, e2⟩ := bk k p2 o2 e2
    exact h.dis j k b _ _ _ _ e1 e2 s1 s2
/-- one more, behind: a new object -/
theorem EnvIs.push (h : EnvIs g B F H σ env) {a : Addr} {ho : HO} {o : Ob} (n : F a = none) (m : B.H a = none) (ha : H a = none) (r : ObIs g F ho o) : EnvIs g B F (upd H a ho) (σ ++ [some (.ref a)]) (env ++ [some (.own false o)]) := by
  have ix : ∀ (j : Nat) (s : Sl), (env ++ [some (Sl.own false o)])[j]? = some (some s) → (j < env.length ∧ env[j]? = some (some s)) ∨ (j = env.length ∧ s = .own false o) := fun j s q => by
    rw [List.getElem?_append] at q
    by_cases c : j < env.length
    · rw [if_pos c] at q
      exact .inl ⟨c, q⟩
    · rw [if_neg c] at q
      have : j - env.length = 0 := by
        cases z : j - env.length with
        | zero => rfl
        | succ k => rw [z] at q; simp at q
      rw [this] at q
      simp at q
      exact .inr ⟨by omega, q.symm⟩
  have old : ∀ (j : Nat), j < env.length → (σ ++ [some (V.ref a)])[j]? = σ[j]? := fun j c => List.getElem?_append_left (by rw [h.len]; exact c)
  have neA : ∀ (j : Nat) (p : Bool) (u : Ob) (b : Addr), env[j]? = some (some (.own p u)) → σ[j]? = some (some (.ref b)) → b ≠ a := fun j p u b e s z => by
    obtain ⟨b', _, x, _, _, y, _⟩ := h.own e
    rw [s] at x
    cases x
    rw [z, ha] at y
    cases y
  have last : (σ ++ [some (V.ref a)])[env.length]? = some (some (.ref a)) := by
    rw [← h.len]
    simp
  refine ⟨by rw [List.length_append, List.length_append, h.len]; rfl, fun j s q => ?_, fun j k b p1 p2 o1 o2 e1 e2 s1 s2 => ?_⟩
  · rcases ix j s q with ⟨c, q⟩ | ⟨rfl, rfl⟩
    · rw [old j c]
      obtain ⟨v, x, y⟩ := h.sl j s q
      refine ⟨v, x, ?_⟩
      cases y with
      | val y => exact .val y
      | own n2 m2 h2 r2 => exact .own n2 m2 (by rw [upd_ne (neA j _ _ _ q x)]; exact h2) r2
    · exact ⟨_, last, .own n m upd_same r⟩
  · rcases ix j _ e1 with ⟨c1, e1⟩ | ⟨rfl, _⟩
    · rw [old j c1] at s1
      rcases ix k _ e2 with ⟨c2, e2⟩ | ⟨rfl, _⟩
      · rw [old k c2] at s2
        exact h.dis j k b p1 p2 o1 o2 e1 e2 s1 s2
      · rw [last] at s2
        cases s2
        exact absurd rfl (neA j _ _ _ e1 s1)
    · rcases ix k _ e2 with ⟨c2, e2⟩ | ⟨rfl, _⟩
      · rw [old k c2] at s2
        rw [last] at s1
        cases s1
        exact absurd rfl (neA k _ _ _ e2 s2)
      · rfl
/-- own becomes known for good -/
theorem EnvIs.freeze (h : EnvIs g B F H σ env) {i : Nat} {o : Ob} {a : Addr} {ho : HO} (e : env[i]? = some (some (.own false o))) (ea : σ[i]? = some (some (.ref a))) (hh : H a = some ho) (r : ObIs g F ho o) :
    EnvIs g B (upd F a ho) H σ (env.set i (some (.val o.frz))) := by
  obtain ⟨a', h0, ea', n, m, h1, _⟩ := h.own e
  obtain rfl : a' = a := by rw [ea] at ea'; cases ea'; rfl
  have ex : Ex F (upd F a' ho) := Ex.new n
  have hi : i < env.length := (List.getElem?_eq_some_iff.mp e).1
  have bk : ∀ (j : Nat) (p1 : Bool) (o1 : Ob), (env.set i (some (Sl.val o.frz)))[j]? = some (some (.own p1 o1)) → j ≠ i ∧ env[j]? = some (some (.own p1 o1)) := fun j p1 o1 q => by
    rw [List.getElem?_set] at q
    by_cases c : i = j
    · subst c
      rw [if_pos rfl, if_pos hi] at q
      cases q
    · rw [if_neg c] at q
      exact ⟨fun z => c z.symm, q⟩
  refine ⟨by rw [List.length_set]; exact h.len, fun j s q => ?_, fun j k b p1 p2 o1 o2 e1 e2 s1 s2 => h.dis j k b _ _ _ _ (bk j _ _ e1).2 (bk k _ _ e2).2 s1 s2⟩
  rw [List.getElem?_set] at q
  by_cases c : i = j
  · subst c
    rw [if_pos rfl, if_pos hi] at q
    cases q
    exact ⟨_, ea, .val (r.frz n)⟩
  · rw [if_neg c] at q
    obtain ⟨v, x, y⟩ := h.sl j s q
    refine ⟨v, x, ?_⟩
    cases y with
    | val y => exact .val (y.mono ex)
    | @own b p2 o2 ho2 n2 m2 h2 r2 =>
      refine .own ?_ m2 h2 (r2.mono ex)
      rw [upd_ne]
      · exact n2
      · intro z
        subst z
        exact c (h.dis i j _ false p2 o o2 e q ea x)
/-- H and F grow by one new object that nobody owns -/
theorem Wd.laid (w : Wd B F H) {a : Addr} {ho : HO} (n : H a = none) : Wd B F (upd H a ho) := by
  have nf : F a = none := by
    cases e : F a with
    | none => rfl
    | some o =>
      rcases w.sub a o e with z | ⟨_, od, z⟩ <;> (rw [n] at z; cases z)
  have ne : ∀ b o, H b = some o → b ≠ a := fun b o e z => by rw [z, n] at e; cases e
  refine ⟨fun b o e => ?_, w.ex0, fun b o e x y => ?_, fun b e => ?_, w.fr, fun p hp => ?_, w.bor⟩
  · rcases w.sub b o e with z | ⟨q, od, z⟩
    · exact .inl (by rw [upd_ne (ne _ _ z)]; exact z)
    · exact .inr ⟨q, od, by rw [upd_ne (ne _ _ z)]; exact z⟩
  · have z := w.keep b o e x y
    rw [upd_ne (ne _ _ z)]
    exact z
  · by_cases c : b = a
    · rw [c, upd_same]
      exact fun z => nomatch z
    · rw [upd_ne c]
      exact w.dom b e
  · have z := w.lk p hp
    exact ⟨by rw [upd_ne (ne _ _ z.1)]; exact z.1, z.2⟩
theorem Wd.nF (w : Wd B F H) {a : Addr} (n : H a = none) : F a = none := by
  cases e : F a with
  | none => rfl
  | some o =>
    rcases w.sub a o e with z | ⟨_, od, z⟩ <;> (rw [n] at z; cases z)
theorem Wd.nB (w : Wd B F H) {a : Addr} (n : H a = none) : B.H a = none := by
  cases e : B.H a with
  | none => rfl
  | some o => exact absurd n (w.dom a (by rw [e]; exact fun z => nomatch z))
/-- a new object for good -/
theorem Wd.laidF (w : Wd B F H) {a : Addr} {ho : HO} (n : H a = none) : Wd B (upd F a ho) (upd H a ho) := by
  have nf := w.nF n
  have w1 : Wd B F (upd H a ho) := w.laid n
  refine ⟨fun b o e => ?_, w1.ex0.trans (Ex.new nf), w1.keep, w1.dom, fun b e => ?_, fun p hp => ⟨(w1.lk p hp).1, fun z => ?_⟩, w1.bor⟩
  · by_cases c : b = a
    · subst c
      rw [upd_same] at e ⊢
      exact .inl e
    · rw [upd_ne c] at e
      exact w1.sub b o e
  · rw [upd_ne (fun z => by rw [z] at e; exact e (w.nB n))]
    exact w1.fr b e
  · by_cases c : p.1 = a
    · rw [c, upd_same] at z
      cases z
    · rw [upd_ne c] at z
      exact (w1.lk p hp).2 z
theorem EnvIs.laid (h : EnvIs g B F H σ env) {a : Addr} {ho : HO} (n : H a = none) : EnvIs g B F (upd H a ho) σ env :=
  h.step (Ex.refl F) fun b o x y => ⟨x, by rw [upd_ne (fun z => by rw [z, n] at y; cases y)]; exact y⟩
theorem EnvIs.laidF (w : Wd B F H) (h : EnvIs g B F H σ env) {a : Addr} {ho : HO} (n : H a = none) : EnvIs g B (upd F a ho) (upd H a ho) σ env :=
  h.step (Ex.new (w.nF n)) fun b o x y => by
    have ne : b ≠ a := fun z => by rw [z, n] at y; cases y
    exact ⟨by rw [upd_ne ne]; exact x, by rw [upd_ne ne]; exact y⟩
/-- an own object is changed -/
theorem Wd.write (w : Wd B F H) {a : Addr} {p : Bool} {ho h0 : HO} (n : F a = none) (m : Mine B p a) (e0 : H a = some h0) : Wd B F (upd H a ho) := by
  have nl : ∀ q ∈ B.L, q.1 ≠ a := fun q hq z => (w.lk q hq).2 (by rw [z]; exact n)
  refine ⟨fun b o e => ?_, w.ex0, fun b o e x y => ?_, fun b e => ?_, w.fr, fun q hq => ?_, w.bor⟩
  · rw [upd_ne (fun z => by rw [z, n] at e; cases e)]
    exact w.sub b o e
  · have ne : b ≠ a := fun z => by
      subst z
      unfold Mine at m
      cases p with
      | true => rw [if_pos rfl] at m; exact x m
      | false => rw [if_neg Bool.false_ne_true] at m; rw [m] at e; cases e
    rw [upd_ne ne]
    exact w.keep b o e x y
  · by_cases c : b = a
    · rw [c, upd_same]
      exact fun z => nomatch z
    · rw [upd_ne c]
      exact w.dom b e
  · rw [upd_ne (nl q hq)]
    exact w.lk q hq
theorem Wd.freeze (w : Wd B F H) {a : Addr} {ho : HO} (n : F a = none) (m : B.H a = none) (e : H a = some ho) : Wd B (upd F a ho) H := by
  refine ⟨fun b o q => ?_, w.ex0.trans (Ex.new n), w.keep, w.dom, fun b q => ?_, fun p hp => ⟨(w.lk p hp).1, fun z => ?_⟩, w.bor⟩
  · by_cases c : b = a
    · subst c
      rw [upd_same] at q
      cases q
      exact .inl e
    · rw [upd_ne c] at q
      exact w.sub b o q
  · rw [upd_ne (fun z => by rw [z] at q; exact q m)]
    exact w.fr b q
  · by_cases c : p.1 = a
    · rw [c, upd_same] at z
      cases z
    · rw [upd_ne c] at z
      exact (w.lk p hp).2 z
/-- a callee has run: its base was (H, F, what was lent) -/
theorem Wd.after {A' : Option Addr} (w : Wd B F H) (hA : ∀ a, A' = some a → F a = none ∧ ∃ p, Mine B p a) (w' : Wd ⟨H, F, A', B.L⟩ F' H') : Wd B F' H' := by
  refine ⟨w'.sub, w.ex0.trans w'.ex0, fun b o e x y => ?_, fun b e => w'.dom b (w.dom b e), fun b e => (w'.fr b (w.dom b e)).trans (w.fr b e), w'.lk, w.bor⟩
  have h1 := w.keep b o e x y
  refine w'.keep b o h1 (fun z => ?_) ((w.fr b (by rw [e]; exact fun z => nomatch z)).trans y)
  obtain ⟨_, p, m⟩ := hA b z
  unfold Mine at m
  cases p with
  | true => rw [if_pos rfl] at m; exact x m
  | false => rw [if_neg Bool.false_ne_true] at m; rw [m] at e; cases e
theorem Wd.start (hs : Sub F H) {A : Option Addr} {L : List (Addr × HO)} (hl : ∀ p ∈ L, H p.1 = some p.2 ∧ F p.1 ≠ none) (hb : ∀ a, A = some a → H a ≠ none) : Wd ⟨H, F, A, L⟩ F H :=
  ⟨hs, Ex.refl F, fun _ _ e _ _ => e, fun _ e => e, fun _ _ => rfl, hl, hb⟩
theorem Wd.nA (w : Wd B F H) {a : Addr} (n : H a = none) : B.A ≠ some a := fun e => w.dom a (w.bor a e) n
end
end Sim
namespace Sim
open PySem PySem.Spec PyProof.Rows L2

/-! ### what is said of an expression, its arguments, a test -/
abbrev DE := Env → Option (Vl × Env)
abbrev DD := Env → Option (D × Env)
abbrev DA := Env → Option (List Vl × Env)
abbrev DT := Env → Option (Bool × Env)
abbrev CTab := Nat → Str × List Str
inductive VsIs (g : G) (F : Hp) (ρ : L2.St) : List V → List Vl → Prop
  | nil : VsIs g F ρ [] []
  | cons {v : V} {vs : List V} {l : Vl} {ls : List Vl} : VIs g F ρ v l → VsIs g F ρ vs ls → VsIs g F ρ (v :: vs) (l :: ls)
def SimE (g : G) (n : Nat) (te : TE) (de : DE) : Prop := ∀ (B : Base) (F H : Hp) (σ ρ : L2.St) (env : Env) (Q : VK), Wd B F H → σ.length = n → σ <+: ρ → EnvIs g B F H ρ env →
  Sat (de env) (fun r => ∀ (F' H' : Hp) (v : V) (ρ' : L2.St), Wd B F' H' → Ex F F' → ρ <+: ρ' → EnvIs g B F' H' ρ' r.2 → VIs g F' ρ' v r.1 → Q v H') → te σ H Q
def SimD (g : G) (n : Nat) (te : TE) (de : DD) : Prop := ∀ (B : Base) (F H : Hp) (σ ρ : L2.St) (env : Env) (Q : VK), Wd B F H → σ.length = n → σ <+: ρ → EnvIs g B F H ρ env →
  Sat (de env) (fun r => ∀ (F' H' : Hp) (v : V) (ρ' : L2.St), Wd B F' H' → Ex F F' → ρ <+: ρ' → EnvIs g B F' H' ρ' r.2 → Is g F' v r.1 → Q v H') → te σ H Q
def SimA (g : G) (n : Nat) (ta : TA) (da : DA) : Prop := ∀ (B : Base) (F H : Hp) (σ ρ : L2.St) (env : Env) (Q : List V → Hp → Prop), Wd B F H → σ.length = n → σ <+: ρ → EnvIs g B F H ρ env →
  Sat (da env) (fun r => ∀ (F' H' : Hp) (vs : List V) (ρ' : L2.St), Wd B F' H' → Ex F F' → ρ <+: ρ' → EnvIs g B F' H' ρ' r.2 → VsIs g F' ρ' vs r.1 → Q vs H') → ta σ H Q
def SimT (g : G) (n : Nat) (tt : TT) (dt : DT) : Prop := ∀ (B : Base) (F H : Hp) (σ ρ : L2.St) (env : Env) (Q : Bool → Hp → Prop), Wd B F H → σ.length = n → σ <+: ρ → EnvIs g B F H ρ env →
  Sat (dt env) (fun r => ∀ (F' H' : Hp) (ρ' : L2.St), Wd B F' H' → Ex F F' → ρ <+: ρ' → EnvIs g B F' H' ρ' r.2 → Q r.1 H') → tt σ H Q
abbrev gX (CT : CTab) (X : Cx) : G := ⟨X.K, X.mg, CT⟩
structure SE (CT : CTab) (X : Cx) (e : Expr) (de : DE) : Prop where
  ex : ∃ te, PE X e te ∧ SimE (gX CT X) X.N.length te de
structure SA (CT : CTab) (X : Cx) (es : List Expr) (da : DA) : Prop where
  ex : ∃ ta, PA X es ta ∧ SimA (gX CT X) X.N.length ta da
structure ST (CT : CTab) (X : Cx) (e : Expr) (dt : DT) : Prop where
  ex : ∃ tt, PT X e tt ∧ SimT (gX CT X) X.N.length tt dt
structure SW (CT : CTab) (X : Cx) (e : Expr) (dt : DT) : Prop where
  ex : ∃ tt, PW X e tt ∧ SimT (gX CT X) X.N.length tt dt

theorem VIs.mono {g : G} {F F' : Hp} {ρ ρ' : L2.St} {v : V} {l : Vl} (h : VIs g F ρ v l) (e : Ex F F') (p : ρ <+: ρ') : VIs g F' ρ' v l := by
  cases h with
  | val i => exact .val (i.mono e)
  | «at» i =>
    obtain ⟨τ, rfl⟩ := p
    exact .at (by rw [List.getElem?_append_left (List.getElem?_eq_some_iff.mp i).1]; exact i)
theorem VsIs.mono {g : G} {F F' : Hp} {ρ ρ' : L2.St} {v : List V} {l : List Vl} (h : VsIs g F ρ v l) (e : Ex F F') (p : ρ <+: ρ') : VsIs g F' ρ' v l := by
  induction h with
  | nil => exact .nil
  | cons a _ k => exact .cons (a.mono e p) k

/-! ### what is looked at, what is taken for good -/
/-- a value that is read as it stands -/
inductive View (g : G) (F H : Hp) : V → D → Prop
  | is {v : V} {d : D} : Is g F v d → View g F H v d
  | own {a : Addr} {ho : HO} {o : Ob} : F a = none → H a = some ho → ObIs g F ho o → View g F H (.ref a) o.frz
inductive ViewL (g : G) (F H : Hp) : List V → List D → Prop
  | nil : ViewL g F H [] []
  | cons {v : V} {vs : List V} {d : D} {ds : List D} : View g F H v d → ViewL g F H vs ds → ViewL g F H (v :: vs) (d :: ds)
def look (env : Env) : Vl → Option D
  | .val d => some d
  | .at j => match env[j]? with
    | some (some (.val d)) => some d
    | some (some (.own _ o)) => some o.frz
    | _ => none
def looks (env : Env) : List Vl → Option (List D)
  | [] => some []
  | l :: ls => (look env l).bind fun d => (looks env ls).bind fun ds => some (d :: ds)
def force (l : Vl) (env : Env) : Option (D × Env) := match l with
  | .val d => some (d, env)
  | .at j => match env[j]? with
    | some (some (.val d)) => some (d, env)
    | some (some (.own false o)) => some (o.frz, env.set j (some (.val o.frz)))
    | _ => none
def forces : List Vl → Env → Option (List D × Env)
  | [], env => some ([], env)
  | l :: ls, env => (force l env).bind fun r => (forces ls r.2).bind fun q => some (r.1 :: q.1, q.2)
section
variable {g : G} {B : Base} {F F' H H' : Hp} {σ ρ : L2.St} {env : Env}
theorem look_ok (E : EnvIs g B F H ρ env) {v : V} {l : Vl} {d : D} (h : VIs g F ρ v l) (e : look env l = some d) : View g F H v d := by
  cases h with
  | val i => cases e; exact .is i
  | @«at» j i =>
    change (match env[j]? with | some (some (Sl.val d)) => some d | some (some (Sl.own _ o)) => some o.frz | _ => none) = some d at e
    cases q : env[j]? with
    | none => rw [q] at e; cases e
    | some s =>
      rw [q] at e
      cases s with
      | none => cases e
      | some s =>
        cases s with
        | val x =>
          cases e
          obtain ⟨u, a, b⟩ := E.val q
          rw [i] at a
          cases a
          exact .is b
        | own p o =>
          cases e
          obtain ⟨a, ho, x, n, _, hh, r⟩ := E.own q
          rw [i] at x
          cases x
          exact .own n hh r
theorem looks_ok (E : EnvIs g B F H ρ env) {vs : List V} {ls : List Vl} {ds : List D} (h : VsIs g F ρ vs ls) (e : looks env ls = some ds) : ViewL g F H vs ds := by
  induction h generalizing ds with
  | nil => cases e; exact .nil
  | @cons v vs l ls a _ k =>
    unfold looks at e
    cases q : look env l with
    | none => rw [q] at e; cases e
    | some d =>
      rw [q, Option.bind_some] at e
      cases q2 : looks env ls with
      | none => rw [q2] at e; cases e
      | some dd =>
        rw [q2, Option.bind_some] at e
        cases e
        exact .cons (look_ok E a q) (k q2)
theorem force_ok (w : Wd B F H) (E : EnvIs g B F H ρ env) {v : V} {l : Vl} {r : D × Env} (h : VIs g F ρ v l) (e : force l env = some r) : ∃ F', Wd B F' H ∧ Ex F F' ∧ EnvIs g B F' H ρ r.2 ∧ Is g F' v r.1 := by
  cases h with
  | val i => cases e; exact ⟨F, w, Ex.refl F, E, i⟩
  | @«at» j i =>
    change (match env[j]? with | some (some (Sl.val d)) => some (d, env) | some (some (Sl.own false o)) => some (o.frz, env.set j (some (.val o.frz))) | _ => none) = some r at e
    cases q : env[j]? with
    | none => rw [q] at e; cases e
    | some s =>
      rw [q] at e
      cases s with
      | none => cases e
      | some s =>
        cases s with
        | val x =>
          cases e
          obtain ⟨u, a, b⟩ := E.val q
          rw [i] at a
          cases a
          exact ⟨F, w, Ex.refl F, E, b⟩
        | own p o =>
          cases p with
          | true => cases e
          | false =>
            cases e
            obtain ⟨a, ho, x, n, m, hh, r⟩ := E.own q
            rw [i] at x
            cases x
            have m' : B.H a = none := by unfold Mine at m; rw [if_neg Bool.false_ne_true] at m; exact m
            exact ⟨upd F a ho, w.freeze n m' hh, Ex.new n, E.freeze q i hh r, r.frz n⟩
theorem forces_ok {ls : List Vl} : ∀ {F : Hp} {env : Env} {vs : List V} {r : List D × Env}, Wd B F H → EnvIs g B F H ρ env → VsIs g F ρ vs ls → forces ls env = some r → ∃ F', Wd B F' H ∧ Ex F F' ∧ EnvIs g B F' H ρ r.2 ∧ IsL g F' vs r.1 := by
  induction ls with
  | nil =>
    intro F env vs r w E h e
    cases h
    cases e
    exact ⟨F, w, Ex.refl F, E, .nil⟩
  | cons l ls k =>
    intro F env vs r w E h e
    cases h with
    | cons a b =>
      unfold forces at e
      cases q : force l env with
      | none => rw [q] at e; cases e
      | some x =>
        rw [q, Option.bind_some] at e
        cases q2 : forces ls x.2 with
        | none => rw [q2] at e; cases e
        | some y =>
          rw [q2, Option.bind_some] at e
          cases e
          obtain ⟨F1, w1, e1, E1, i1⟩ := force_ok w E a q
          obtain ⟨F2, w2, e2, E2, i2⟩ := k w1 E1 (b.mono e1 List.prefix_rfl) q2
          exact ⟨F2, w2, e1.trans e2, E2, .cons (i1.mono e2) i2⟩
end
/-- the value of an expression, for good -/
def dd (de : DE) : DD := fun env => (de env).bind fun r => force r.1 r.2
theorem SimE.d {g : G} {n : Nat} {te : TE} {de : DE} (h : SimE g n te de) : SimD g n te (dd de) := fun B F H σ ρ env Q w l p E s => by
  refine h B F H σ ρ env Q w l p E (s.bind.mono fun r sr F' H' v ρ' w' e' p' E' i => ?_)
  obtain ⟨q, eq, k⟩ := sr
  obtain ⟨F2, w2, e2, E2, i2⟩ := force_ok w' E' i eq
  exact k F2 H' v ρ' w2 (e'.trans e2) p' E2 i2

/-! ### results of operations -/
inductive Rs where
  | val (d : D) | new (o : Ob) | tup (ds : List D)
def fin (env : Env) : Rs → Vl × Env
  | .val d => (.val d, env)
  | .new o => (.at env.length, env ++ [some (.own false o)])
  | .tup ds => (.val (.tup ds), env)
def RsOk (g : G) (F H : Hp) (Q : VK) : Rs → Prop
  | .val d => ∀ v, Is g F v d → Q v H
  | .new o => ∀ a ho, H a = none → ObIs g F ho o → Q (.ref a) (upd H a ho)
  | .tup ds => ∀ a vs, H a = none → IsL g F vs ds → Q (.ref a) (upd H a (.tup vs))
/-- what is wanted behind an operation's result -/
theorem fin_ok {g : G} {B : Base} {F H : Hp} {ρ : L2.St} {env : Env} {Q : VK} (w : Wd B F H) (E : EnvIs g B F H ρ env) {rs : Rs}
    (k : ∀ (F' H' : Hp) (v : V) (ρ' : L2.St), Wd B F' H' → Ex F F' → ρ <+: ρ' → EnvIs g B F' H' ρ' (fin env rs).2 → VIs g F' ρ' v (fin env rs).1 → Q v H') : RsOk g F H Q rs := by
  cases rs with
  | val d => exact fun v i => k F H v ρ w (Ex.refl F) List.prefix_rfl E (.val i)
  | new o =>
    intro a ho n r
    refine k F _ _ (ρ ++ [some (.ref a)]) (w.laid n) (Ex.refl F) (List.prefix_append _ _) (E.push (w.nF n) (w.nB n) n r) (.at ?_)
    rw [← E.len]
    simp
  | tup ds =>
    intro a vs n r
    exact k _ _ _ ρ (w.laidF n) (Ex.new (w.nF n)) List.prefix_rfl (E.laidF w n) (.val (.tup (.of upd_same) (r.mono (Ex.new (w.nF n)))))
def Op2 (g : G) (r : R2) (f : D → D → Option Rs) : Prop := ∀ (F H : Hp) (x y : V) (dx dy : D) (Q : VK), Sub F H → View g F H x dx → View g F H y dy → Sat (f dx dy) (RsOk g F H Q) → r x y H Q
def Op1 (g : G) (r : V → Hp → VK → Prop) (f : D → Option Rs) : Prop := ∀ (F H : Hp) (x : V) (dx : D) (Q : VK), Sub F H → View g F H x dx → Sat (f dx) (RsOk g F H Q) → r x H Q
def OpL (g : G) (r : List V → Hp → VK → Prop) (f : List D → Option Rs) : Prop := ∀ (F H : Hp) (xs : List V) (ds : List D) (Q : VK), Sub F H → ViewL g F H xs ds → Sat (f ds) (RsOk g F H Q) → r xs H Q
def d2 (f : D → D → Option Rs) (da db : DE) : DE := fun env => (da env).bind fun r => (db r.2).bind fun q => (look q.2 r.1).bind fun x => (look q.2 q.1).bind fun y => (f x y).bind fun z => some (fin q.2 z)
def d1 (f : D → Option Rs) (da : DE) : DE := fun env => (da env).bind fun r => (look r.2 r.1).bind fun x => (f x).bind fun z => some (fin r.2 z)
def dL (f : List D → Option Rs) (da : DA) : DE := fun env => (da env).bind fun r => (looks r.2 r.1).bind fun x => (f x).bind fun z => some (fin r.2 z)
section
variable {CT : CTab} {X : Cx}
theorem sim2 {g : G} {n : Nat} {ta tb : TE} {da db : DE} {r : R2} {f : D → D → Option Rs} (ha : SimE g n ta da) (hb : SimE g n tb db) (ho : Op2 g r f) : SimE g n (tOp r ta tb) (d2 f da db) := fun B F H σ ρ env Q w l p E s => by
  refine ha B F H σ ρ env _ w l p E (s.bind.mono fun r1 s1 F1 H1 x ρ1 w1 e1 p1 E1 i1 => ?_)
  refine hb B F1 H1 σ ρ1 r1.2 _ w1 l (p.trans p1) E1 (s1.bind.mono fun r2 s2 F2 H2 y ρ2 w2 e2 p2 E2 i2 => ?_)
  obtain ⟨dx, ex, s3⟩ := s2.bind
  obtain ⟨dy, ey, s4⟩ := s3.bind
  refine ho F2 H2 x y dx dy Q w2.sub (look_ok E2 (i1.mono e2 p2) ex) (look_ok E2 i2 ey) (s4.bind.mono fun rs s5 => ?_)
  obtain ⟨q, eq, k⟩ := s5
  cases eq
  exact fin_ok w2 E2 fun F' H' v ρ' w' e' p' E' i' => k F' H' v ρ' w' ((e1.trans e2).trans e') ((p1.trans p2).trans p') E' i'
theorem sim1 {g : G} {n : Nat} {ta : TE} {da : DE} {r : V → Hp → VK → Prop} {f : D → Option Rs} (ha : SimE g n ta da) (ho : Op1 g r f) : SimE g n (tUn r ta) (d1 f da) := fun B F H σ ρ env Q w l p E s => by
  refine ha B F H σ ρ env _ w l p E (s.bind.mono fun r1 s1 F1 H1 x ρ1 w1 e1 p1 E1 i1 => ?_)
  obtain ⟨dx, ex, s3⟩ := s1.bind
  refine ho F1 H1 x dx Q w1.sub (look_ok E1 i1 ex) (s3.bind.mono fun rs s5 => ?_)
  obtain ⟨q, eq, k⟩ := s5
  cases eq
  exact fin_ok w1 E1 fun F' H' v ρ' w' e' p' E' i' => k F' H' v ρ' w' (e1.trans e') (p1.trans p') E' i'
theorem simL {g : G} {n : Nat} {ta : TA} {da : DA} {r : List V → Hp → VK → Prop} {f : List D → Option Rs} (ha : SimA g n ta da) (ho : OpL g r f) : SimE g n (tCB r ta) (dL f da) := fun B F H σ ρ env Q w l p E s => by
  refine ha B F H σ ρ env _ w l p E (s.bind.mono fun r1 s1 F1 H1 x ρ1 w1 e1 p1 E1 i1 => ?_)
  obtain ⟨dx, ex, s3⟩ := s1.bind
  refine ho F1 H1 x dx Q w1.sub (looks_ok E1 i1 ex) (s3.bind.mono fun rs s5 => ?_)
  obtain ⟨q, eq, k⟩ := s5
  cases eq
  exact fin_ok w1 E1 fun F' H' v ρ' w' e' p' E' i' => k F' H' v ρ' w' (e1.trans e') (p1.trans p') E' i'

/-! ### leaves -/
def dVar (i : Nat) : DE := fun env => match env[i]? with
  | some (some (.val d)) => some (.val d, env)
  | some (some (.own _ _)) => some (.at i, env)
  | _ => none
def dC (d : D) : DE := fun env => some (.val d, env)
theorem se_var (i : Nat) {x : Str} {pos : Pos} (hN : X.N[i]? = some x := by rfl) (hv : Vis X.env.scope x := by first | exact Or.inl rfl | exact Or.inr (Or.inl rfl) | exact Or.inr (Or.inr rfl)) (hd : (x == ("__debug__" : Str)) = false := by decide)
    (hcd : (x == ("__classdict__" : Str)) = false := by decide) : SE CT X (.Name x pos) (dVar i) := by
  refine ⟨_, pe_var hN hv hd hcd, fun B F H σ ρ env Q w l p E s => ?_⟩
  have hi : i < σ.length := by rw [l]; exact (List.getElem?_eq_some_iff.mp hN).1
  have old : ∀ v, ρ[i]? = some (some v) → σ[i]? = some (some v) := fun v e => by
    obtain ⟨τ, rfl⟩ := p
    rwa [List.getElem?_append_left hi] at e
  obtain ⟨r, e, k⟩ := s
  unfold dVar at e
  cases q : env[i]? with
  | none => rw [q] at e; cases e
  | some sl =>
    rw [q] at e
    cases sl with
    | none => cases e
    | some sl =>
      cases sl with
      | val d =>
        cases e
        obtain ⟨v, a, b⟩ := E.val q
        exact ⟨v, old v a, k F H v ρ w (Ex.refl F) List.prefix_rfl E (.val b)⟩
      | own b o =>
        cases e
        obtain ⟨a, ho, x, _⟩ := E.own q
        exact ⟨_, old _ x, k F H _ ρ w (Ex.refl F) List.prefix_rfl E (.at x)⟩
theorem simC {g : G} {n : Nat} {v : V} {d : D} (h : ∀ F, Is g F v d) : SimE g n (tC v) (dC d) := fun B F H σ ρ env Q w l p E s => by
  obtain ⟨r, e, k⟩ := s
  cases e
  exact k F H v ρ w (Ex.refl F) List.prefix_rfl E (.val (h F))
theorem se_int {i : Int} {j : Nat} {pos : Pos} : SE CT X (.Constant (.int i) j pos) (dC (.int i)) := ⟨_, pe_int, simC fun _ => .int i⟩
theorem se_bl {b : Bool} {j : Nat} {pos : Pos} : SE CT X (.Constant (.bool b) j pos) (dC (.bl b)) := ⟨_, pe_bl, simC fun _ => .bl b⟩
theorem se_non {j : Nat} {pos : Pos} : SE CT X (.Constant .none j pos) (dC .non) := ⟨_, pe_non, simC fun _ => .non⟩
theorem se_str {x : Str} {j : Nat} {pos : Pos} : SE CT X (.Constant (.str x) j pos) (dC (.str x)) := ⟨_, pe_str, simC fun _ => .str x⟩
/-- a constant of the module: an int, a text -/
theorem se_globI {x : Str} {i : Int} {u : Value} {pos : Pos} (hg : Gl X x) (hm : X.mg x = some u) (r : RelV (.int i) u) (hd : (x == ("__debug__" : Str)) = false := by decide) : SE CT X (.Name x pos) (dC (.int i)) := ⟨_, pe_glob hg hm r hd, simC fun _ => .int i⟩
/-! ### arguments -/
def dNil : DA := fun env => some ([], env)
def dCons (de : DE) (da : DA) : DA := fun env => (de env).bind fun r => (da r.2).bind fun q => some (r.1 :: q.1, q.2)
theorem sa_nil : SA CT X [] dNil := ⟨_, pa_nil, fun B F H σ ρ env Q w l p E s => by
  obtain ⟨r, e, k⟩ := s
  cases e
  exact k F H [] ρ w (Ex.refl F) List.prefix_rfl E .nil⟩
theorem simCons {g : G} {n : Nat} {te : TE} {ta : TA} {de : DE} {da : DA} (he : SimE g n te de) (ha : SimA g n ta da) : SimA g n (tCons te ta) (dCons de da) := fun B F H σ ρ env Q w l p E s => by
  refine he B F H σ ρ env _ w l p E (s.bind.mono fun r1 s1 F1 H1 x ρ1 w1 e1 p1 E1 i1 => ?_)
  refine ha B F1 H1 σ ρ1 r1.2 _ w1 l (p.trans p1) E1 (s1.bind.mono fun r2 s2 F2 H2 y ρ2 w2 e2 p2 E2 i2 => ?_)
  obtain ⟨q, eq, k⟩ := s2
  cases eq
  exact k F2 H2 _ ρ2 w2 (e1.trans e2) (p1.trans p2) E2 (.cons (i1.mono e2 p2) i2)
theorem sa_cons {e : Expr} {es : List Expr} {de : DE} {da : DA} (h1 : SE CT X e de) (h2 : SA CT X es da) (hs : starEach (e :: es) X.env = (false, eval e X.env) :: starEach es X.env := by rfl) : SA CT X (e :: es) (dCons de da) := by
  obtain ⟨te, a, b⟩ := h1
  obtain ⟨ta, c, d⟩ := h2
  exact ⟨_, pa_cons a c hs, simCons b d⟩

/-! ### operators -/
theorem se_bin {op : Operator} {a b : Expr} {pos : Pos} {r : R2} {f : D → D → Option Rs} {da db : DE} (ho : OpR X (binaryOp op) r) (hs : Op2 (gX CT X) r f) (h1 : SE CT X a da) (h2 : SE CT X b db) : SE CT X (.BinOp a op b pos) (d2 f da db) := by
  obtain ⟨_, a1, b1⟩ := h1
  obtain ⟨_, a2, b2⟩ := h2
  exact ⟨_, pe_op ho a1 a2, sim2 b1 b2 hs⟩
theorem se_cmp {op : CmpOp} {a b : Expr} {pos : Pos} {r : R2} {f : D → D → Option Rs} {da db : DE} (ho : OpR X (compareOp op) r) (hs : Op2 (gX CT X) r f) (h1 : SE CT X a da) (h2 : SE CT X b db) (hm : behindInMarks op b = false) : SE CT X (.Compare a [op] [b] pos) (d2 f da db) := by
  obtain ⟨_, a1, b1⟩ := h1
  obtain ⟨_, a2, b2⟩ := h2
  exact ⟨_, pe_cmpR ho a1 a2 hm, sim2 b1 b2 hs⟩
/-- a built-in function, a built-in class, called by its name -/
theorem se_callB {id : String} {x : Str} {p pos : Pos} {e : Expr} {es : List Expr} {r : List V → Hp → VK → Prop} {f : List D → Option Rs} {da : DA} (hc : CallR X (.builtin id) r) (hs : OpL (gX CT X) r f) (hg : Gl X x) (hm : X.mg x = none) (hv : bootBuiltins x = some (.builtin id))
    (ha : SA CT X (e :: es) da) (hn : x ≠ "__name__" := by decide) (hdb : (x == ("__debug__" : Str)) = false := by decide)
    (he : starEach (e :: es) X.env = (false, eval e X.env) :: starEach es X.env := by rfl) (hpl : (backTo pos (starEach es X.env)).any (·.1) = false := by rfl) : SE CT X (.Call (.Name x p) (e :: es) [] pos) (dL f da) := by
  obtain ⟨_, a1, b1⟩ := ha
  exact ⟨_, pe_callB hc hg hm hv a1 hn hdb he hpl, simL b1 hs⟩
theorem se_callTy {T : String} {x : Str} {p pos : Pos} {e : Expr} {es : List Expr} {r : List V → Hp → VK → Prop} {f : List D → Option Rs} {da : DA} (hc : CallR X (.type T) r) (hs : OpL (gX CT X) r f) (hg : Gl X x) (hm : X.mg x = none) (hv : bootBuiltins x = some (.type T))
    (ha : SA CT X (e :: es) da) (hn : x ≠ "__name__" := by decide) (hdb : (x == ("__debug__" : Str)) = false := by decide)
    (he : starEach (e :: es) X.env = (false, eval e X.env) :: starEach es X.env := by rfl) (hpl : (backTo pos (starEach es X.env)).any (·.1) = false := by rfl) : SE CT X (.Call (.Name x p) (e :: es) [] pos) (dL f da) := by
  obtain ⟨_, a1, b1⟩ := ha
  exact ⟨_, pe_callTy hc hg hm hv a1 hn hdb he hpl, simL b1 hs⟩
end
end Sim
namespace Sim
open PySem PySem.Spec PyProof.Rows L2

/-! ### tests -/
def dtB (de : DE) : DT := fun env => (de env).bind fun r => match r.1 with
  | .val (.bl b) => some (b, r.2)
  | _ => none
theorem simB {g : G} {n : Nat} {te : TE} {de : DE} (h : SimE g n te de) : SimT g n (tB te) (dtB de) := fun B F H σ ρ env Q w l p E s => by
  refine h B F H σ ρ env _ w l p E (s.bind.mono fun r sr F' H' v ρ' w' e' p' E' i => ?_)
  obtain ⟨q, eq, k⟩ := sr
  obtain ⟨vl, env'⟩ := r
  cases vl with
  | «at» j => cases eq
  | val d =>
    cases d with
    | bl b =>
      cases eq
      cases i with
      | val i => cases i; exact ⟨b, rfl, k F' H' ρ' w' e' p' E'⟩
    | _ => cases eq
def dAndV (da db : DE) : DE := fun env => (dtB da env).bind fun r => if r.1 = true then (db r.2) else some (.val (.bl false), r.2)
def dOrV (da db : DE) : DE := fun env => (dtB da env).bind fun r => if r.1 = true then some (.val (.bl true), r.2) else db r.2
def dNotV (da : DE) : DE := fun env => (dtB da env).bind fun r => some (.val (.bl (!r.1)), r.2)
def dtAnd (da db : DT) : DT := fun env => (da env).bind fun r => if r.1 = true then db r.2 else some (false, r.2)
def dtOr (da db : DT) : DT := fun env => (da env).bind fun r => if r.1 = true then some (true, r.2) else db r.2
def dtNot (da : DT) : DT := fun env => (da env).bind fun r => some (!r.1, r.2)
def dIf (t : DT) (da db : DE) : DE := fun env => (t env).bind fun r => if r.1 = true then da r.2 else db r.2
section
variable {g : G} {n : Nat} {ta tb : TE} {da db : DE} {t u : TT} {dt du : DT}
theorem simAndV (ha : SimE g n ta da) (hb : SimE g n tb db) : SimE g n (tAndV ta tb) (dAndV da db) := fun B F H σ ρ env Q w l p E s => by
  refine simB ha B F H σ ρ env (fun c H1 => if c = true then tb σ H1 Q else Q (.bl false) H1) w l p E (s.bind.mono fun r sr F1 H1 ρ1 w1 e1 p1 E1 => ?_)
  obtain ⟨b, env1⟩ := r
  cases b with
  | true =>
    rw [if_pos rfl] at sr ⊢
    exact hb B F1 H1 σ ρ1 env1 Q w1 l (p.trans p1) E1 (sr.mono fun q k F2 H2 v ρ2 w2 e2 p2 E2 i => k F2 H2 v ρ2 w2 (e1.trans e2) (p1.trans p2) E2 i)
  | false =>
    rw [if_neg Bool.false_ne_true] at sr ⊢
    obtain ⟨q, eq, k⟩ := sr
    cases eq
    exact k F1 H1 _ ρ1 w1 e1 p1 E1 (.val (.bl false))
theorem simNotV (ha : SimE g n ta da) : SimE g n (tNotV ta) (dNotV da) := fun B F H σ ρ env Q w l p E s => by
  refine simB ha B F H σ ρ env (fun c H1 => Q (.bl (!c)) H1) w l p E (s.bind.mono fun r sr F1 H1 ρ1 w1 e1 p1 E1 => ?_)
  obtain ⟨q, eq, k⟩ := sr
  cases eq
  exact k F1 H1 _ ρ1 w1 e1 p1 E1 (.val (.bl _))
theorem simAnd (ha : SimT g n t dt) (hb : SimT g n u du) : SimT g n (tAnd t u) (dtAnd dt du) := fun B F H σ ρ env Q w l p E s => by
  refine ha B F H σ ρ env (fun c H1 => if c = true then u σ H1 Q else Q false H1) w l p E (s.bind.mono fun r sr F1 H1 ρ1 w1 e1 p1 E1 => ?_)
  obtain ⟨b, env1⟩ := r
  cases b with
  | true =>
    rw [if_pos rfl] at sr ⊢
    exact hb B F1 H1 σ ρ1 env1 Q w1 l (p.trans p1) E1 (sr.mono fun q k F2 H2 ρ2 w2 e2 p2 E2 => k F2 H2 ρ2 w2 (e1.trans e2) (p1.trans p2) E2)
  | false =>
    rw [if_neg Bool.false_ne_true] at sr ⊢
    obtain ⟨q, eq, k⟩ := sr
    cases eq
    exact k F1 H1 ρ1 w1 e1 p1 E1
theorem simOr (ha : SimT g n t dt) (hb : SimT g n u du) : SimT g n (tOr t u) (dtOr dt du) := fun B F H σ ρ env Q w l p E s => by
  refine ha B F H σ ρ env (fun c H1 => if c = true then Q true H1 else u σ H1 Q) w l p E (s.bind.mono fun r sr F1 H1 ρ1 w1 e1 p1 E1 => ?_)
  obtain ⟨b, env1⟩ := r
  cases b with
  | false =>
    rw [if_neg Bool.false_ne_true] at sr ⊢
    exact hb B F1 H1 σ ρ1 env1 Q w1 l (p.trans p1) E1 (sr.mono fun q k F2 H2 ρ2 w2 e2 p2 E2 => k F2 H2 ρ2 w2 (e1.trans e2) (p1.trans p2) E2)
  | true =>
    rw [if_pos rfl] at sr ⊢
    obtain ⟨q, eq, k⟩ := sr
    cases eq
    exact k F1 H1 ρ1 w1 e1 p1 E1
theorem simNot (ha : SimT g n t dt) : SimT g n (tNot t) (dtNot dt) := fun B F H σ ρ env Q w l p E s => by
  refine ha B F H σ ρ env (fun c H1 => Q (!c) H1) w l p E (s.bind.mono fun r sr F1 H1 ρ1 w1 e1 p1 E1 => ?_)
  obtain ⟨q, eq, k⟩ := sr
  cases eq
  exact k F1 H1 ρ1 w1 e1 p1 E1
theorem simIf (ht : SimT g n t dt) (ha : SimE g n ta da) (hb : SimE g n tb db) : SimE g n (tIf t ta tb) (dIf dt da db) := fun B F H σ ρ env Q w l p E s => by
  refine ht B F H σ ρ env (fun c H1 => if c = true then ta σ H1 Q else tb σ H1 Q) w l p E (s.bind.mono fun r sr F1 H1 ρ1 w1 e1 p1 E1 => ?_)
  obtain ⟨b, env1⟩ := r
  cases b with
  | true =>
    rw [if_pos rfl] at sr ⊢
    exact ha B F1 H1 σ ρ1 env1 Q w1 l (p.trans p1) E1 (sr.mono fun q k F2 H2 v ρ2 w2 e2 p2 E2 i => k F2 H2 v ρ2 w2 (e1.trans e2) (p1.trans p2) E2 i)
  | false =>
    rw [if_neg Bool.false_ne_true] at sr ⊢
    exact hb B F1 H1 σ ρ1 env1 Q w1 l (p.trans p1) E1 (sr.mono fun q k F2 H2 v ρ2 w2 e2 p2 E2 i => k F2 H2 v ρ2 w2 (e1.trans e2) (p1.trans p2) E2 i)
end
section
variable {CT : CTab} {X : Cx} {a b c : Expr} {da db dc : DE} {dt du : DT} {pos : Pos} {rest : List Expr}
theorem st_val (h : SE CT X a da) (he : ∀ whole, isTrue a X.env whole = (do let v ← whole; standAt a.pos; holding [v] (truthy v)) := by intro _; rfl) : ST CT X a (dtB da) := by
  obtain ⟨_, x, y⟩ := h
  exact ⟨_, pt_val x he, simB y⟩
theorem st_cmp {op : CmpOp} {r : R2} {f : D → D → Option Rs} (ho : OpR X (compareOp op) r) (hs : Op2 (gX CT X) r f) (h1 : SE CT X a da) (h2 : SE CT X b db) (hm : behindInMarks op b = false) : ST CT X (.Compare a [op] [b] pos) (dtB (d2 f da db)) := by
  obtain ⟨_, a1, b1⟩ := h1
  obtain ⟨_, a2, b2⟩ := h2
  exact ⟨_, pt_cmpR ho a1 a2 hm, simB (sim2 b1 b2 hs)⟩
theorem se_and (h1 : SE CT X a da) (h2 : SE CT X (.BoolOp .And (b :: rest) pos) db) : SE CT X (.BoolOp .And (a :: b :: rest) pos) (dAndV da db) := by
  obtain ⟨_, a1, b1⟩ := h1
  obtain ⟨_, a2, b2⟩ := h2
  exact ⟨_, pe_and a1 a2, simAndV b1 b2⟩
theorem se_one {op : BoolOp} (h1 : SE CT X a da) : SE CT X (.BoolOp op [a] pos) da := by
  obtain ⟨_, a1, b1⟩ := h1
  exact ⟨_, pe_one a1, b1⟩
theorem se_not (h1 : SE CT X a da) : SE CT X (.UnaryOp .Not a pos) (dNotV da) := by
  obtain ⟨_, a1, b1⟩ := h1
  exact ⟨_, pe_not a1, simNotV b1⟩
theorem se_if (ht : ST CT X c dt) (h1 : SE CT X a da) (h2 : SE CT X b db) : SE CT X (.IfExp c a b pos) (dIf dt da db) := by
  obtain ⟨_, a0, b0⟩ := ht
  obtain ⟨_, a1, b1⟩ := h1
  obtain ⟨_, a2, b2⟩ := h2
  exact ⟨_, pe_ifExp a0 a1 a2, simIf b0 b1 b2⟩
theorem st_not (h : ST CT X a dt) : ST CT X (.UnaryOp .Not a pos) (dtNot dt) := by
  obtain ⟨_, a1, b1⟩ := h
  exact ⟨_, pt_not a1, simNot b1⟩
theorem SW.t (h : SW CT X a dt) : ST CT X a dt := by
  obtain ⟨_, a1, b1⟩ := h
  exact ⟨_, a1.pt, b1⟩
theorem sw_and1 (h : ST CT X a dt) : SW CT X (.BoolOp .And [a] pos) dt := by
  obtain ⟨_, a1, b1⟩ := h
  exact ⟨_, pw_and1 a1, b1⟩
theorem sw_or1 (h : ST CT X a dt) : SW CT X (.BoolOp .Or [a] pos) dt := by
  obtain ⟨_, a1, b1⟩ := h
  exact ⟨_, pw_or1 a1, b1⟩
theorem sw_and (h1 : ST CT X a dt) (h2 : SW CT X (.BoolOp .And (b :: rest) pos) du) : SW CT X (.BoolOp .And (a :: b :: rest) pos) (dtAnd dt du) := by
  obtain ⟨_, a1, b1⟩ := h1
  obtain ⟨_, a2, b2⟩ := h2
  exact ⟨_, pw_and a1 a2, simAnd b1 b2⟩
theorem sw_or (h1 : ST CT X a dt) (h2 : SW CT X (.BoolOp .Or (b :: rest) pos) du) : SW CT X (.BoolOp .Or (a :: b :: rest) pos) (dtOr dt du) := by
  obtain ⟨_, a1, b1⟩ := h1
  obtain ⟨_, a2, b2⟩ := h2
  exact ⟨_, pw_or a1 a2, simOr b1 b2⟩
/-- a op b op c -/
def dChain (f f' : D → D → Option Rs) (da db dc : DE) : DE := fun env => (da env).bind fun r => (db r.2).bind fun q => (look q.2 r.1).bind fun x => (look q.2 q.1).bind fun y => (f x y).bind fun z => match z with
  | .val (.bl true) => (dc q.2).bind fun s => (look s.2 q.1).bind fun y' => (look s.2 s.1).bind fun w => (f' y' w).bind fun u => some (fin s.2 u)
  | .val (.bl false) => some (.val (.bl false), q.2)
  | _ => none
theorem simChain {g : G} {n : Nat} {ta tb tc : TE} {r r' : R2} {f f' : D → D → Option Rs} (ha : SimE g n ta da) (hb : SimE g n tb db) (hc : SimE g n tc dc) (ho : Op2 g r f) (ho' : Op2 g r' f') : SimE g n (tChain r r' ta tb tc) (dChain f f' da db dc) := fun B F H σ ρ env Q w l p E s => by
  refine ha B F H σ ρ env _ w l p E (s.bind.mono fun r1 s1 F1 H1 x ρ1 w1 e1 p1 E1 i1 => ?_)
  refine hb B F1 H1 σ ρ1 r1.2 _ w1 l (p.trans p1) E1 (s1.bind.mono fun r2 s2 F2 H2 y ρ2 w2 e2 p2 E2 i2 => ?_)
  obtain ⟨dx, ex, s3⟩ := s2.bind
  obtain ⟨dy, ey, s4⟩ := s3.bind
  refine ho F2 H2 x y dx dy _ w2.sub (look_ok E2 (i1.mono e2 p2) ex) (look_ok E2 i2 ey) (s4.bind.mono fun rs s5 => ?_)
  cases rs with
  | new o => obtain ⟨_, q, _⟩ := s5; cases q
  | tup o => obtain ⟨_, q, _⟩ := s5; cases q
  | val d =>
    cases d with
    | bl b =>
      intro v iv
      cases iv
      refine ⟨b, rfl, ?_⟩
      cases b with
      | false =>
        rw [if_neg Bool.false_ne_true]
        obtain ⟨q, eq, k⟩ := s5
        cases eq
        exact k F2 H2 _ ρ2 w2 (e1.trans e2) (p1.trans p2) E2 (.val (.bl false))
      | true =>
        rw [if_pos rfl]
        refine hc B F2 H2 σ ρ2 r2.2 _ w2 l ((p.trans p1).trans p2) E2 (s5.bind.mono fun r3 s6 F3 H3 z ρ3 w3 e3 p3 E3 i3 => ?_)
        obtain ⟨dy', ey', s7⟩ := s6.bind
        obtain ⟨dw, ew, s8⟩ := s7.bind
        refine ho' F3 H3 y z dy' dw Q w3.sub (look_ok E3 (i2.mono e3 p3) ey') (look_ok E3 i3 ew) (s8.bind.mono fun rs s9 => ?_)
        obtain ⟨q, eq, k⟩ := s9
        cases eq
        exact fin_ok w3 E3 fun F' H' v ρ' w' e' p' E' i' => k F' H' v ρ' w' (((e1.trans e2).trans e3).trans e') (((p1.trans p2).trans p3).trans p') E' i'
    | _ => obtain ⟨_, q, _⟩ := s5; cases q
theorem se_chain {op op' : CmpOp} {r r' : R2} {f f' : D → D → Option Rs} (ho : OpR X (compareOp op) r) (hs : Op2 (gX CT X) r f) (ho' : OpR X (compareOp op') r') (hs' : Op2 (gX CT X) r' f') (h1 : SE CT X a da) (h2 : SE CT X b db) (h3 : SE CT X c dc)
    (hm : lastMarks [op, op'] [b, c] = false := by with_unfolding_all rfl) : SE CT X (.Compare a [op, op'] [b, c] pos) (dChain f f' da db dc) := by
  obtain ⟨_, a1, b1⟩ := h1
  obtain ⟨_, a2, b2⟩ := h2
  obtain ⟨_, a3, b3⟩ := h3
  exact ⟨_, pe_chain ho ho' a1 a2 a3 hm, simChain b1 b2 b3 hs hs'⟩
theorem st_chain {op op' : CmpOp} {r r' : R2} {f f' : D → D → Option Rs} (ho : OpR X (compareOp op) r) (hs : Op2 (gX CT X) r f) (ho' : OpR X (compareOp op') r') (hs' : Op2 (gX CT X) r' f') (h1 : SE CT X a da) (h2 : SE CT X b db) (h3 : SE CT X c dc)
    (hm : lastMarks [op, op'] [b, c] = false := by with_unfolding_all rfl) : ST CT X (.Compare a [op, op'] [b, c] pos) (dtB (dChain f f' da db dc)) := by
  obtain ⟨_, a1, b1⟩ := h1
  obtain ⟨_, a2, b2⟩ := h2
  obtain ⟨_, a3, b3⟩ := h3
  exact ⟨_, pt_chain ho ho' a1 a2 a3 hm, simB (simChain b1 b2 b3 hs hs')⟩
end

/-! ### displays: their items are taken for good -/
theorem VsIs.len {g : G} {F : Hp} {ρ : L2.St} {vs : List V} {ls : List Vl} (h : VsIs g F ρ vs ls) : vs.length = ls.length := by
  induction h with
  | nil => rfl
  | cons _ _ k => exact congrArg (· + 1) k
theorem lim_ex : ∃ n : Nat, n = 1000000 := ⟨_, rfl⟩
/-- a bound that no checker unfolds -/
def LIM : Nat := Classical.choose lim_ex
theorem LIM_eq : LIM = 1000000 := Classical.choose_spec lim_ex
theorem lim_le {n : Nat} (h : n ≤ LIM) : n ≤ sizeLine := Nat.le_trans h (by rw [LIM_eq]; decide)
theorem lim_lt {n : Nat} (h : n < LIM) : n < sizeLine := Nat.lt_of_lt_of_le h (by rw [LIM_eq]; decide)
theorem le_LIM {n : Nat} (h : n ≤ 1000000) : n ≤ LIM := by rw [LIM_eq]; exact h
def dTup (da : DA) : DE := fun env => (da env).bind fun r => (forces r.1 r.2).bind fun q => if q.1.length ≤ LIM then some (.val (.tup q.1), q.2) else none
def dLst (da : DA) : DE := fun env => (da env).bind fun r => (forces r.1 r.2).bind fun q => if q.1.length ≤ LIM then some (fin q.2 (.new (.lst q.1))) else none
section
variable {CT : CTab} {X : Cx} {es : List Expr} {da : DA} {pos : Pos}
theorem simTup {g : G} {n : Nat} {ta : TA} (ha : SimA g n ta da) : SimE g n (tTup ta) (dTup da) := fun B F H σ ρ env Q w l p E s => by
  refine ha B F H σ ρ env _ w l p E (s.bind.mono fun r1 s1 F1 H1 vs ρ1 w1 e1 p1 E1 i1 => ?_)
  obtain ⟨q, eq, s2⟩ := s1.bind
  obtain ⟨F2, w2, e2, E2, i2⟩ := forces_ok w1 E1 i1 eq
  obtain ⟨z, ez, k⟩ := s2
  by_cases c : q.1.length ≤ LIM
  · rw [if_pos c] at ez
    cases ez
    refine ⟨by rw [i2.len]; exact lim_le c, fun t ht => ?_⟩
    exact k _ _ _ ρ1 (w2.laidF ht) ((e1.trans e2).trans (Ex.new (w2.nF ht))) p1 (E2.laidF w2 ht) (.val (.tup (.of upd_same) (i2.mono (Ex.new (w2.nF ht)))))
  · rw [if_neg c] at ez
    cases ez
theorem simLst {g : G} {n : Nat} {ta : TA} (ha : SimA g n ta da) : SimE g n (tLst ta) (dLst da) := fun B F H σ ρ env Q w l p E s => by
  refine ha B F H σ ρ env _ w l p E (s.bind.mono fun r1 s1 F1 H1 vs ρ1 w1 e1 p1 E1 i1 => ?_)
  obtain ⟨q, eq, s2⟩ := s1.bind
  obtain ⟨F2, w2, e2, E2, i2⟩ := forces_ok w1 E1 i1 eq
  obtain ⟨z, ez, k⟩ := s2
  by_cases c : q.1.length ≤ LIM
  · rw [if_pos c] at ez
    cases ez
    refine ⟨by rw [i2.len]; exact lim_le c, fun t ht => ?_⟩
    have := fin_ok (Q := Q) (rs := .new (.lst q.1)) w2 E2 (fun F' H' v ρ' w' e' p' E' i' => k F' H' v ρ' w' ((e1.trans e2).trans e') (p1.trans p') E' i')
    exact this t (.lst vs) ht (.lst i2)
  · rw [if_neg c] at ez
    cases ez
theorem se_tup {x1 : Nat} (h : SA CT X es da) : SE CT X (.Tuple es x1 pos) (dTup da) := by
  obtain ⟨_, a, b⟩ := h
  exact ⟨_, pe_tup a, simTup b⟩
theorem se_lst (h : SA CT X es da) : SE CT X (.List es pos) (dLst da) := by
  obtain ⟨_, a, b⟩ := h
  exact ⟨_, pe_lst a, simLst b⟩
end
end Sim
namespace Sim
open PySem PySem.Spec PyProof.Rows L2

/-! ### statements -/
inductive Out where
  | nx (env : Env) | rt (l : Vl) (env : Env) | bk (env : Env) | ct (env : Env)
  /-- an error of the class c, its fields -/
  | xc (c : Nat) (fs : List D) (env : Env)
abbrev DS := Env → Option Out
/-- an error in the air: its class, its dict -/
def XcIs (g : G) (F : Hp) (cls : Value) (d : Option Addr) (c : Nat) (xs : List D) : Prop := ∃ C : Addr, g.mg (g.CT c).1 = some (.ref C) ∧ cls = .ref C ∧ ((d = none ∧ xs = []) ∨ ∃ (dd : Addr) (fs : List (Str × V)) (vs : List V), d = some dd ∧ F dd = some (.xd fs) ∧ IsL g F vs xs ∧ ∀ (i : Nat) (f : Str), (g.CT c).2[i]? = some f → fs.lookup f = vs[i]?)
theorem XcIs.mono {g : G} {F F' : Hp} (e : Ex F F') {cls : Value} {d : Option Addr} {c : Nat} {xs : List D} (h : XcIs g F cls d c xs) : XcIs g F' cls d c xs := by
  obtain ⟨C, m, r, h | ⟨dd, fs, vs, h1, h2, h3, h4⟩⟩ := h
  · exact ⟨C, m, r, .inl h⟩
  · exact ⟨C, m, r, .inr ⟨dd, fs, vs, h1, e _ _ h2, h3.mono e, h4⟩⟩
def OutOk (g : G) (B : Base) (F : Hp) (W : WX) (n : Nat) (T : Ends) : Out → Prop
  | .xc c xs env' => ∀ (F' H' : Hp) (σ' : L2.St) (cls : Value) (d : Option Addr), Wd B F' H' → Ex F F' → σ'.length = n → EnvIs g B F' H' σ' env' → XcIs g F' cls d c xs → W cls d σ' H'
  | .nx env' => ∀ (F' H' : Hp) (σ' : L2.St), Wd B F' H' → Ex F F' → σ'.length = n → EnvIs g B F' H' σ' env' → T.nx σ' H'
  | .bk env' => ∀ (F' H' : Hp) (σ' : L2.St), Wd B F' H' → Ex F F' → σ'.length = n → EnvIs g B F' H' σ' env' → T.bk σ' H'
  | .ct env' => ∀ (F' H' : Hp) (σ' : L2.St), Wd B F' H' → Ex F F' → σ'.length = n → EnvIs g B F' H' σ' env' → T.ct σ' H'
  | .rt l env' => ∀ (F' H' : Hp) (v : V) (ρ' : L2.St), Wd B F' H' → Ex F F' → EnvIs g B F' H' ρ' env' → VIs g F' ρ' v l → T.rt v H'
theorem OutOk.mono {g : G} {B : Base} {F F' : Hp} {W : WX} {n : Nat} {T : Ends} (e : Ex F F') : ∀ {o : Out}, OutOk g B F W n T o → OutOk g B F' W n T o
  | .xc _ _ _, h => fun F2 H2 σ2 c d w e2 => h F2 H2 σ2 c d w (e.trans e2)
  | .nx _, h => fun F2 H2 σ2 w e2 => h F2 H2 σ2 w (e.trans e2)
  | .bk _, h => fun F2 H2 σ2 w e2 => h F2 H2 σ2 w (e.trans e2)
  | .ct _, h => fun F2 H2 σ2 w e2 => h F2 H2 σ2 w (e.trans e2)
  | .rt _ _, h => fun F2 H2 v ρ2 w e2 => h F2 H2 v ρ2 w (e.trans e2)
def SimS (g : G) (W : WX) (n : Nat) (ts : TS) (ds : DS) : Prop := ∀ (B : Base) (F H : Hp) (σ : L2.St) (env : Env) (T : Ends), Wd B F H → σ.length = n → EnvIs g B F H σ env → Sat (ds env) (OutOk g B F W n T) → ts T σ H
/-- what may leave here -/
def wMax (X : Cx) : WX := fun cls d σ H => ∀ u s', XE X (fun c' d' σ' H' => c' = cls ∧ d' = d ∧ σ' = σ ∧ H' = H) u s' → X.xe u s'
theorem takes_max (X : Cx) : Takes X (wMax X) := fun u s' ⟨a, B, sI, pins, σ, H, cls, d, e, I, nb, up, sky, na, os, ag, w⟩ => w u s' ⟨a, B, sI, pins, σ, H, cls, d, e, I, nb, up, sky, na, os, ag, rfl, rfl, rfl, rfl⟩
theorem max_of {X : Cx} {W : WX} (t : Takes X W) {cls : Value} {d : Option Addr} {σ : L2.St} {H : Hp} (h : W cls d σ H) : wMax X cls d σ H := fun u s' ⟨a, B, sI, pins, σ', H', c', d', e, I, nb, up, sky, na, os, ag, h1, h2, h3, h4⟩ => by
  subst h1 h2 h3 h4
  exact t u s' ⟨a, B, sI, pins, σ', H', c', d', e, I, nb, up, sky, na, os, ag, h⟩
structure SS (CT : CTab) (X : Cx) (st : Stmt) (ds : DS) : Prop where
  ex : ∃ ts, PS X st ts ∧ SimS (gX CT X) (wMax X) X.N.length ts ds
structure SSs (CT : CTab) (X : Cx) (sts : List Stmt) (ds : DS) : Prop where
  ex : ∃ ts, PSs X sts ts ∧ SimS (gX CT X) (wMax X) X.N.length ts ds
def dNext : DS := fun env => some (.nx env)
def dSeq (a b : DS) : DS := fun env => (a env).bind fun o => match o with
  | .nx e => b e
  | o => some o
def dIfS (t : DT) (a b : DS) : DS := fun env => (t env).bind fun r => if r.1 = true then a (r.2.take env.length) else b (r.2.take env.length)
def dRet (de : DE) : DS := fun env => (de env).bind fun r => some (.rt r.1 r.2)
def dDrop (de : DE) : DS := fun env => (de env).bind fun r => some (.nx (r.2.take env.length))
section
variable {g : G} {W : WX} {n : Nat} {t u : TS} {a b : DS}
theorem simNext : SimS g W n tNext dNext := fun B F H σ env T w l E s => by
  obtain ⟨o, e, k⟩ := s
  cases e
  exact k F H σ w (Ex.refl F) l E
theorem simSeq (h1 : SimS g W n t a) (h2 : SimS g W n u b) : SimS g W n (tSeq t u) (dSeq a b) := fun B F H σ env T w l E s => by
  refine h1 B F H σ env _ w l E (s.bind.mono fun o q => ?_)
  cases o with
  | nx e1 => exact fun F1 H1 σ1 w1 x1 l1 E1 => h2 B F1 H1 σ1 e1 T w1 l1 E1 (q.mono fun o k => k.mono x1)
  | bk e1 => obtain ⟨_, e, k⟩ := q; cases e; exact k
  | ct e1 => obtain ⟨_, e, k⟩ := q; cases e; exact k
  | rt l e1 => obtain ⟨_, e, k⟩ := q; cases e; exact k
  | xc c xs e1 => obtain ⟨_, e, k⟩ := q; cases e; exact k
theorem simIfS {tt : TT} {dt : DT} (ht : SimT g n tt dt) (h1 : SimS g W n t a) (h2 : SimS g W n u b) : SimS g W n (tIfS tt t u) (dIfS dt a b) := fun B F H σ env T w l E s => by
  refine ht B F H σ σ env (fun c H1 => if c = true then t T σ H1 else u T σ H1) w l List.prefix_rfl E (s.bind.mono fun r sr F1 H1 ρ1 w1 e1 p1 E1 => ?_)
  obtain ⟨c, env1⟩ := r
  have E2 : EnvIs g B F1 H1 σ (env1.take env.length) := by
    rw [← E.len]
    obtain ⟨τ, rfl⟩ := p1
    exact E1.take
  cases c with
  | true =>
    rw [if_pos rfl] at sr ⊢
    exact h1 B F1 H1 σ _ T w1 l E2 (sr.mono fun o k => k.mono e1)
  | false =>
    rw [if_neg Bool.false_ne_true] at sr ⊢
    exact h2 B F1 H1 σ _ T w1 l E2 (sr.mono fun o k => k.mono e1)
theorem simRet {te : TE} {de : DE} (h : SimE g n te de) : SimS g W n (tRet te) (dRet de) := fun B F H σ env T w l E s => by
  refine h B F H σ σ env _ w l List.prefix_rfl E (s.bind.mono fun r sr F1 H1 v ρ1 w1 e1 p1 E1 i => ?_)
  obtain ⟨o, e, k⟩ := sr
  cases e
  exact k F1 H1 v ρ1 w1 e1 E1 i
theorem simDrop {te : TE} {de : DE} (h : SimE g n te de) : SimS g W n (tDrop te) (dDrop de) := fun B F H σ env T w l E s => by
  refine h B F H σ σ env _ w l List.prefix_rfl E (s.bind.mono fun r sr F1 H1 v ρ1 w1 e1 p1 E1 i => ?_)
  obtain ⟨o, e, k⟩ := sr
  cases e
  refine k F1 H1 σ w1 e1 l ?_
  rw [← E.len]
  obtain ⟨τ, rfl⟩ := p1
  exact E1.take
end
section
variable {CT : CTab} {X : Cx} {st : Stmt} {rest : List Stmt} {a b : DS} {e c : Expr} {de : DE} {dt : DT} {pos : Pos} {p q : List Stmt}
theorem sss_nil : SSs CT X [] dNext := ⟨_, pss_nil, simNext⟩
theorem sss_cons (h1 : SS CT X st a) (h2 : SSs CT X rest b) : SSs CT X (st :: rest) (dSeq a b) := by
  obtain ⟨_, x1, y1⟩ := h1
  obtain ⟨_, x2, y2⟩ := h2
  exact ⟨_, pss_cons x1 x2, simSeq y1 y2⟩
theorem sss_one (h1 : SS CT X st a) : SSs CT X [st] a := by
  obtain ⟨_, x1, y1⟩ := h1
  exact ⟨_, pss_one x1, y1⟩
theorem ss_if (h : ST CT X c dt) (h1 : SSs CT X p a) (h2 : SSs CT X q b) : SS CT X (.If c p q pos) (dIfS dt a b) := by
  obtain ⟨_, x0, y0⟩ := h
  obtain ⟨_, x1, y1⟩ := h1
  obtain ⟨_, x2, y2⟩ := h2
  exact ⟨_, ps_if x0 x1 x2, simIfS y0 y1 y2⟩
theorem ss_ret (h : SE CT X e de) : SS CT X (.Return (some e) pos) (dRet de) := by
  obtain ⟨_, x, y⟩ := h
  exact ⟨_, ps_ret x, simRet y⟩
theorem ss_expr (h : SE CT X e de) (hs : swapsWith e none pos.line X.env = pure false := by rfl) : SS CT X (.Expr e pos) (dDrop de) := by
  obtain ⟨_, x, y⟩ := h
  exact ⟨_, ps_expr x hs, simDrop y⟩
end

/-! ### a name gets a value -/
def put (n i : Nat) (l : Vl) (env : Env) : Option Env := match l with
  | .val d => some (env.set i (some (.val d)))
  | .at j => match env[j]? with
    | some (some (.val d)) => some (env.set i (some (.val d)))
    | some (some (.own false o)) => if j < n then some ((env.set j (some (.val o.frz))).set i (some (.val o.frz))) else some ((env.set j none).set i (some (.own false o)))
    | _ => none
section
variable {g : G} {B : Base} {F F' H H' : Hp} {σ ρ : L2.St} {env : Env}
theorem EnvIs.setO (h : EnvIs g B F H ρ env) {a : Addr} {ho : HO} {o : Ob} (i : Nat) (no : ∀ (k : Nat) (p : Bool) (u : Ob), env[k]? = some (some (.own p u)) → ρ[k]? ≠ some (some (.ref a))) (n : F a = none) (m : Mine B false a) (hh : H a = some ho) (r : ObIs g F ho o) :
    EnvIs g B F H (ρ.set i (some (.ref a))) (env.set i (some (.own false o))) := by
  have cs : ∀ (j : Nat) (s : Sl), (env.set i (some (Sl.own false o)))[j]? = some (some s) → (j = i ∧ s = .own false o ∧ i < env.length) ∨ (j ≠ i ∧ env[j]? = some (some s)) := fun j s e => by
    rw [List.getElem?_set] at e
    by_cases c : i = j
    · subst c
      rw [if_pos rfl] at e
      by_cases q : i < env.length
      · rw [if_pos q] at e
        cases e
        exact .inl ⟨rfl, rfl, q⟩
      · rw [if_neg q] at e
        cases e
    · rw [if_neg c] at e
      exact .inr ⟨fun z => c z.symm, e⟩
  have here : i < env.length → (ρ.set i (some (V.ref a)))[i]? = some (some (.ref a)) := fun q => by
    rw [List.getElem?_set, if_pos rfl, if_pos (by rw [h.len]; exact q)]
  have there : ∀ j, j ≠ i → (ρ.set i (some (V.ref a)))[j]? = ρ[j]? := fun j q => by
    rw [List.getElem?_set, if_neg (fun z => q z.symm)]
  refine ⟨by rw [List.length_set, List.length_set]; exact h.len, fun j s e => ?_, fun j k b p q o1 o2 e1 e2 s1 s2 => ?_⟩
  · rcases cs j s e with ⟨rfl, rfl, q⟩ | ⟨ne, e⟩
    · exact ⟨_, here q, .own n m hh r⟩
    · rw [there j ne]
      exact h.sl j s e
  · rcases cs j _ e1 with ⟨rfl, _, q1⟩ | ⟨n1, e1⟩
    · rcases cs k _ e2 with ⟨rfl, _, q2⟩ | ⟨n2, e2⟩
      · rfl
      · rw [here q1] at s1
        cases s1
        rw [there k n2] at s2
        exact absurd s2 (no k _ _ e2)
    · rw [there j n1] at s1
      rcases cs k _ e2 with ⟨ek, _, q2⟩ | ⟨n2, e2⟩
      · rw [ek, here q2] at s2
        cases s2
        exact absurd s1 (no j _ _ e1)
      · rw [there k n2] at s2
        exact h.dis j k b _ _ _ _ e1 e2 s1 s2
theorem put_ok (w : Wd B F H) (E : EnvIs g B F H ρ env) {n i : Nat} {v : V} {l : Vl} {env' : Env} (h : VIs g F ρ v l) (e : put n i l env = some env') : ∃ F', Wd B F' H ∧ Ex F F' ∧ EnvIs g B F' H (ρ.set i (some v)) env' := by
  cases h with
  | val r => cases e; exact ⟨F, w, Ex.refl F, E.setV i r⟩
  | @«at» j q =>
    change (match env[j]? with | some (some (Sl.val d)) => some (env.set i (some (Sl.val d))) | some (some (Sl.own false o)) => if j < n then some ((env.set j (some (Sl.val o.frz))).set i (some (Sl.val o.frz))) else some ((env.set j none).set i (some (Sl.own false o))) | _ => none) = some env' at e
    cases x : env[j]? with
    | none => rw [x] at e; cases e
    | some s =>
      rw [x] at e
      cases s with
      | none => cases e
      | some s =>
        cases s with
        | val d =>
          cases e
          obtain ⟨u, a, b⟩ := E.val x
          rw [q] at a
          cases a
          exact ⟨F, w, Ex.refl F, E.setV i b⟩
        | own p o =>
          cases p with
          | true => cases e
          | false =>
            obtain ⟨a, ho, y, nf, m, hh, r⟩ := E.own x
            rw [q] at y
            cases y
            have m' : B.H a = none := by unfold Mine at m; rw [if_neg Bool.false_ne_true] at m; exact m
            change (if j < n then some ((env.set j (some (Sl.val o.frz))).set i (some (Sl.val o.frz))) else some ((env.set j none).set i (some (Sl.own false o)))) = some env' at e
            by_cases c : j < n
            · rw [if_pos c] at e
              cases e
              exact ⟨upd F a ho, w.freeze nf m' hh, Ex.new nf, (E.freeze x q hh r).setV i (r.frz nf)⟩
            · rw [if_neg c] at e
              cases e
              refine ⟨F, w, Ex.refl F, (E.lose j).setO i (fun k p u e1 s1 => ?_) nf m hh r⟩
              rw [List.getElem?_set] at e1
              by_cases c2 : j = k
              · subst c2
                rw [if_pos rfl] at e1
                split at e1 <;> cases e1
              · rw [if_neg c2] at e1
                exact c2 (E.dis j k a false p o u x e1 q s1)
theorem set_prefix {n i : Nat} {x : Option V} (p : σ <+: ρ) (l : σ.length = n) (hi : i < n) : σ.set i x <+: ρ.set i x := by
  obtain ⟨τ, rfl⟩ := p
  rw [List.set_append_left _ _ (by omega)]
  exact List.prefix_append _ _
end
def dAsg (i : Nat) (de : DE) : DS := fun env => (de env).bind fun r => (put env.length i r.1 r.2).bind fun e => some (.nx (e.take env.length))
theorem EnvIs.takeP {g : G} {B : Base} {F H : Hp} {σ ρ : L2.St} {env : Env} {n : Nat} (E : EnvIs g B F H ρ env) (p : σ <+: ρ) (l : σ.length = n) : EnvIs g B F H σ (env.take n) := by
  obtain ⟨τ, rfl⟩ := p
  rw [← l]
  exact E.take
theorem simAsg {g : G} {W : WX} {n i : Nat} {te : TE} {de : DE} (h : SimE g n te de) (hi : i < n) : SimS g W n (tAsg te (gName i)) (dAsg i de) := fun B F H σ env T w l E s => by
  refine h B F H σ σ env _ w l List.prefix_rfl E (s.bind.mono fun r sr F1 H1 v ρ1 w1 e1 p1 E1 i1 => ?_)
  obtain ⟨e, ee, s2⟩ := sr.bind
  obtain ⟨o, eo, k⟩ := s2
  cases eo
  obtain ⟨F2, w2, e2, E2⟩ := put_ok w1 E1 i1 ee
  refine k F2 H1 _ w2 (e1.trans e2) (by rw [List.length_set]; exact l) (E2.takeP (set_prefix p1 l hi) ?_)
  rw [List.length_set]
  exact E.len
theorem ss_set {CT : CTab} {X : Cx} {i : Nat} {x : Str} {e : Expr} {de : DE} {pos pos' : Pos} (hN : X.N.Nodup) (hi : X.N[i]? = some x) (hx : Loc X.env.scope x) (h : SE CT X e de)
    (hs : swapsWith e (some (.Name x pos')) pos.line X.env = pure false := by rfl) (hf : X.fn x = true ∨ X.env.scope.names.lookup x = some .local := by first | exact .inl rfl | exact .inr rfl) : SS CT X (.Assign [.Name x pos'] e pos) (dAsg i de) := by
  obtain ⟨_, a, b⟩ := h
  exact ⟨_, ps_set hN hi hx a hs hf, simAsg b (List.getElem?_eq_some_iff.mp hi).1⟩

/-! ### targets -/
mutual
inductive Pat where
  | nm (i : Nat) | tup (ps : Pats)
inductive Pats where
  | nil | cons (p : Pat) (ps : Pats)
end
mutual
def bindP : Pat → D → Env → Option Env
  | .nm i, d, env => some (env.set i (some (.val d)))
  | .tup ps, .tup ds, env => bindPs ps ds env
  | .tup _, _, _ => none
def bindPs : Pats → List D → Env → Option Env
  | .nil, [], env => some env
  | .cons p ps, d :: ds, env => (bindP p d env).bind fun e => bindPs ps ds e
  | _, _, _ => none
def Pat.ix : Pat → List Nat
  | .nm i => [i]
  | .tup ps => ps.ix
def Pats.ix : Pats → List Nat
  | .nil => []
  | .cons p ps => p.ix ++ ps.ix
def Pats.len : Pats → Nat
  | .nil => 0
  | .cons _ ps => ps.len + 1
end
def SimG (g : G) (n : Nat) (tg : TG) (bd : D → Env → Option Env) (ix : List Nat) : Prop := ∀ (B : Base) (F H : Hp) (σ ρ : L2.St) (env : Env) (v : V) (d : D) (Q : L2.St → Hp → Prop), Wd B F H → σ.length = n → σ <+: ρ → EnvIs g B F H ρ env → Is g F v d →
  Sat (bd d env) (fun env' => ∀ (σ' ρ' : L2.St), σ'.length = n → σ' <+: ρ' → ρ'.length = ρ.length → (∀ j, j ∉ ix → σ'[j]? = σ[j]?) → (∀ j, j ∉ ix → ρ'[j]? = ρ[j]?) → EnvIs g B F H ρ' env' → Q σ' H) → tg v σ H Q
def SimGs (g : G) (n : Nat) (tg : TGs) (bd : List D → Env → Option Env) (ix : List Nat) : Prop := ∀ (B : Base) (F H : Hp) (σ ρ : L2.St) (env : Env) (vs : List V) (ds : List D) (Q : L2.St → Hp → Prop), Wd B F H → σ.length = n → σ <+: ρ → EnvIs g B F H ρ env → IsL g F vs ds →
  Sat (bd ds env) (fun env' => ∀ (σ' ρ' : L2.St), σ'.length = n → σ' <+: ρ' → ρ'.length = ρ.length → (∀ j, j ∉ ix → σ'[j]? = σ[j]?) → (∀ j, j ∉ ix → ρ'[j]? = ρ[j]?) → EnvIs g B F H ρ' env' → Q σ' H) → tg vs σ H Q
structure SG (CT : CTab) (X : Cx) (tg : Expr) (p : Pat) : Prop where
  ex : ∃ t, PG X tg t ∧ SimG (gX CT X) X.N.length t (bindP p) p.ix
structure SGs (CT : CTab) (X : Cx) (tg : List Expr) (p : Pats) : Prop where
  ex : ∃ t, PGs X tg t ∧ SimGs (gX CT X) X.N.length t (bindPs p) p.ix
theorem simGName {g : G} {n i : Nat} (hi : i < n) : SimG g n (gName i) (bindP (.nm i)) [i] := fun B F H σ ρ env v d Q w l p E h s => by
  obtain ⟨e, ee, k⟩ := s
  cases ee
  refine k _ _ (by rw [List.length_set]; exact l) (set_prefix (x := some v) p l hi) (by rw [List.length_set]) (fun j hj => ?_) (fun j hj => ?_) (E.setV i h)
  · rw [List.getElem?_set, if_neg (fun z => hj (by rw [z]; exact List.mem_singleton_self _))]
  · rw [List.getElem?_set, if_neg (fun z => hj (by rw [z]; exact List.mem_singleton_self _))]
theorem sg_name {CT : CTab} {X : Cx} {i : Nat} {x : Str} {pos : Pos} (hN : X.N.Nodup) (hi : X.N[i]? = some x) (hx : Loc X.env.scope x) (hf : X.fn x = true ∨ X.env.scope.names.lookup x = some .local := by first | exact .inl rfl | exact .inr rfl) : SG CT X (.Name x pos) (.nm i) :=
  ⟨_, pg_name hN hi hx hf, simGName (List.getElem?_eq_some_iff.mp hi).1⟩
theorem sgs_nil {CT : CTab} {X : Cx} : SGs CT X [] .nil := ⟨⟨_, pgs_nil, fun B F H σ ρ env vs ds Q w l p E h s => by
  obtain ⟨e, ee, k⟩ := s
  cases h with
  | nil => cases ee; exact ⟨rfl, k σ ρ l p rfl (fun _ _ => rfl) (fun _ _ => rfl) E⟩
  | cons a b => cases ee⟩⟩
theorem sgs_cons {CT : CTab} {X : Cx} {e : Expr} {es : List Expr} {p : Pat} {ps : Pats} (h1 : SG CT X e p) (h2 : SGs CT X es ps) (hs : (assignEach (e :: es) X.env).map (·.2) = assign e X.env :: (assignEach es X.env).map (·.2) := by rfl) : SGs CT X (e :: es) (.cons p ps) := by
  obtain ⟨t1, x1, y1⟩ := h1.ex
  obtain ⟨t2, x2, y2⟩ := h2.ex
  refine ⟨⟨_, pgs_cons x1 x2 hs, fun B F H σ ρ env vs ds Q w l p E h s => ?_⟩⟩
  cases h with
  | nil => obtain ⟨_, ee, _⟩ := s; cases ee
  | @cons v vs d ds a b =>
    refine ⟨v, vs, rfl, ?_⟩
    refine y1 B F H σ ρ env v d _ w l p E a ((s : Sat ((bindP _ d env).bind fun e => bindPs ps ds e) _).bind.mono fun e1 q σ1 ρ1 l1 p1 lr1 f1 h1 E1 => ?_)
    refine y2 B F H σ1 ρ1 e1 vs ds Q w l1 p1 E1 b (q.mono fun e2 k σ2 ρ2 l2 p2 lr2 f2 h2 E2 => k σ2 ρ2 l2 p2 (lr2.trans lr1) (fun j hj => ?_) (fun j hj => ?_) E2)
    · have hj' : j ∉ Pat.ix _ ++ ps.ix := hj
      rw [List.mem_append] at hj'
      exact (f2 j fun z => hj' (.inr z)).trans (f1 j fun z => hj' (.inl z))
    · have hj' : j ∉ Pat.ix _ ++ ps.ix := hj
      rw [List.mem_append] at hj'
      exact (h2 j fun z => hj' (.inr z)).trans (h1 j fun z => hj' (.inl z))
theorem Sub.tup {F H : Hp} (s : Sub F H) {a : Addr} {xs : List V} (e : F a = some (.tup xs)) : H a = some (.tup xs) := by
  rcases s a _ e with z | ⟨z, _⟩
  · exact z
  · cases z
theorem Sub.ins {F H : Hp} (s : Sub F H) {a C dx : Addr} {fs : List (Str × V)} (e : F a = some (.ins C dx fs)) : H a = some (.ins C dx fs) := by
  rcases s a _ e with z | ⟨z, _⟩
  · exact z
  · cases z
theorem Sub.rd {F H : Hp} (s : Sub F H) {a : Addr} {o : HO} (e : F a = some o) : Rd H a o := by
  rcases s a _ e with z | ⟨_, z⟩
  · exact .inl z
  · exact .inr z
theorem sg_tup {CT : CTab} {X : Cx} {es : List Expr} {k : Nat} {pos : Pos} {ps : Pats} (hc : X.calm = true) (h : SGs CT X es ps)
    (hn : (assignEach es X.env).length = ps.len := by rfl) (hst : (assignEach es X.env).findIdx? (·.1) = none := by rfl) : SG CT X (.Tuple es k pos) (.tup ps) := by
  obtain ⟨t, x, y⟩ := h.ex
  refine ⟨_, pg_tup hc x hn hst, fun B F H σ ρ env v d Q w l p E h' s => ?_⟩
  cases h' with
  | @tup a vs ds e il =>
    have hl : vs.length = ps.len := by
      rw [il.len]
      obtain ⟨e', ee, _⟩ := s
      have : ∀ (ps : Pats) (ds : List D) (env e' : Env), bindPs ps ds env = some e' → ds.length = ps.len := by
        intro ps
        induction ps using Pats.rec (motive_1 := fun _ => True) with
        | nm => trivial
        | tup => trivial
        | nil =>
          intro ds env e' h
          cases ds with
          | nil => rfl
          | cons _ _ => cases h
        | cons p ps _ ih =>
          intro ds env e' h
          cases ds with
          | nil => cases h
          | cons d ds =>
            change (bindP p d env).bind (fun e => bindPs ps ds e) = some e' at h
            cases q : bindP p d env with
            | none => rw [q] at h; cases h
            | some e1 =>
              rw [q] at h
              show ds.length + 1 = ps.len + 1
              rw [ih ds e1 e' h]
      exact this ps ds env e' ee
    exact ⟨a, vs, rfl, sqT_sub w.sub e, hl, y B F H σ ρ env vs ds Q w l p E il s⟩
  | _ => obtain ⟨_, ee, _⟩ := s; cases ee
end Sim
namespace Sim
open PySem PySem.Spec PyProof.Rows L2

/-! ### x, (y, z) = e -/
def dAsgP (p : Pat) (de : DE) : DS := fun env => (dd de env).bind fun r => (bindP p r.1 r.2).bind fun e => some (.nx (e.take env.length))
theorem simAsgP {g : G} {W : WX} {n : Nat} {te : TE} {de : DE} {tg : TG} {p : Pat} (h : SimE g n te de) (hg : SimG g n tg (bindP p) p.ix) : SimS g W n (tAsg te tg) (dAsgP p de) := fun B F H σ env T w l E s => by
  refine h.d B F H σ σ env _ w l List.prefix_rfl E (s.bind.mono fun r sr F1 H1 v ρ1 w1 e1 p1 E1 i1 => ?_)
  refine hg B F1 H1 σ ρ1 r.2 v r.1 _ w1 l p1 E1 i1 (sr.bind.mono fun e s2 σ' ρ' l' p' lr f _ E' => ?_)
  obtain ⟨o, eo, k⟩ := s2
  cases eo
  exact k F1 H1 σ' w1 e1 l' (E'.takeP p' (l'.trans (l.symm.trans E.len)))
theorem ss_asgP {CT : CTab} {X : Cx} {tg e : Expr} {de : DE} {pos : Pos} {p : Pat} (h : SE CT X e de) (hg : SG CT X tg p) (hs : swapsWithSole [tg] e pos.line X.env = pure false := by rfl) (hw : swappedStores [tg] e X.env = pure none := by rfl) (h1 : (assignEach [tg] X.env).map (·.2) = [assign tg X.env] := by rfl) : SS CT X (.Assign [tg] e pos) (dAsgP p de) := by
  obtain ⟨_, a, b⟩ := h
  obtain ⟨_, c, d⟩ := hg
  exact ⟨_, ps_asg a c hs hw h1, simAsgP b d⟩

/-! ### a, b, c = e, f, g -/
def pin (n : Nat) : List Vl → Env → Option (List Vl × Env)
  | [], env => some ([], env)
  | .val d :: ls, env => (pin n ls env).bind fun r => some (.val d :: r.1, r.2)
  | .at j :: ls, env => if j < n then (force (.at j) env).bind fun r => (pin n ls r.2).bind fun q => some (.val r.1 :: q.1, q.2) else (pin n ls env).bind fun r => some (.at j :: r.1, r.2)
def puts (n : Nat) : List Nat → List Vl → Env → Option Env
  | [], [], env => some env
  | i :: is, l :: ls, env => (put n i l env).bind fun e => puts n is ls e
  | _, _, _ => none
def dMulti (is : List Nat) (da : DA) : DS := fun env => (da env).bind fun r => (pin env.length r.1 r.2).bind fun q => (puts env.length is q.1 q.2).bind fun e => some (.nx (e.take env.length))
def far (n : Nat) (ls : List Vl) : Prop := ∀ j, Vl.at j ∈ ls → n ≤ j
section
variable {g : G} {B : Base} {F F' H H' : Hp} {σ ρ : L2.St} {env : Env}
theorem pin_ok {n : Nat} : ∀ {ls : List Vl} {F : Hp} {env : Env} {vs : List V} {r : List Vl × Env}, Wd B F H → EnvIs g B F H ρ env → VsIs g F ρ vs ls → pin n ls env = some r → ∃ F', Wd B F' H ∧ Ex F F' ∧ EnvIs g B F' H ρ r.2 ∧ VsIs g F' ρ vs r.1 ∧ far n r.1
  | [], F, env, vs, r, w, E, h, e => by
    cases h
    cases e
    exact ⟨F, w, Ex.refl F, E, .nil, fun j z => nomatch z⟩
  | .val d :: ls, F, env, vs, r, w, E, h, e => by
    cases h with
    | cons a b =>
      obtain ⟨q, eq, e2⟩ := Option.bind_eq_some_iff.mp e
      cases e2
      obtain ⟨F1, w1, x1, E1, i1, f1⟩ := pin_ok w E b eq
      refine ⟨F1, w1, x1, E1, .cons (a.mono x1 List.prefix_rfl) i1, fun j z => ?_⟩
      cases z with
      | tail _ z => exact f1 j z
  | .at j :: ls, F, env, vs, r, w, E, h, e => by
    cases h with
    | cons a b =>
      change (if j < n then _ else _) = _ at e
      by_cases c : j < n
      · rw [if_pos c] at e
        obtain ⟨q, eq, e2⟩ := Option.bind_eq_some_iff.mp e
        obtain ⟨q2, eq2, e3⟩ := Option.bind_eq_some_iff.mp e2
        cases e3
        obtain ⟨F1, w1, x1, E1, i1⟩ := force_ok w E a eq
        obtain ⟨F2, w2, x2, E2, i2, f2⟩ := pin_ok w1 E1 (b.mono x1 List.prefix_rfl) eq2
        refine ⟨F2, w2, x1.trans x2, E2, .cons (.val (i1.mono x2)) i2, fun k z => ?_⟩
        cases z with
        | tail _ z => exact f2 k z
      · rw [if_neg c] at e
        obtain ⟨q, eq, e2⟩ := Option.bind_eq_some_iff.mp e
        cases e2
        obtain ⟨F1, w1, x1, E1, i1, f1⟩ := pin_ok w E b eq
        refine ⟨F1, w1, x1, E1, .cons (a.mono x1 List.prefix_rfl) i1, fun k z => ?_⟩
        cases z with
        | head _ => omega
        | tail _ z => exact f1 k z
def setsS : List Nat → List V → L2.St → L2.St
  | i :: is, v :: vs, σ => setsS is vs (σ.set i (some v))
  | _, _, σ => σ
theorem VsIs.setF {n i : Nat} {x : Option V} {vs : List V} {ls : List Vl} (h : VsIs g F ρ vs ls) (f : far n ls) (hi : i < n) : VsIs g F (ρ.set i x) vs ls := by
  induction h with
  | nil => exact .nil
  | @cons v vs l ls a b k =>
    refine .cons ?_ (k fun j z => f j (.tail _ z))
    cases a with
    | val a => exact .val a
    | @«at» j a =>
      have := f j (.head _)
      exact .at (by rw [List.getElem?_set, if_neg (by omega)]; exact a)
theorem puts_ok {n : Nat} : ∀ {is : List Nat} {ls : List Vl} {F : Hp} {σ ρ : L2.St} {env : Env} {vs : List V} {e : Env}, Wd B F H → σ.length = n → σ <+: ρ → EnvIs g B F H ρ env → VsIs g F ρ vs ls → far n ls → (∀ i ∈ is, i < n) → puts n is ls env = some e →
    is.length = vs.length ∧ ∃ F' ρ', Wd B F' H ∧ Ex F F' ∧ (setsS is vs σ).length = n ∧ setsS is vs σ <+: ρ' ∧ EnvIs g B F' H ρ' e
  | [], [], F, σ, ρ, env, vs, e, w, l, p, E, h, f, hi, q => by
    cases h
    cases q
    exact ⟨rfl, F, ρ, w, Ex.refl F, l, p, E⟩
  | i :: is, l0 :: ls, F, σ, ρ, env, vs, e, w, l, p, E, h, f, hi, q => by
    cases h with
    | @cons v vs _ _ a b =>
      obtain ⟨e1, eq, e2⟩ := Option.bind_eq_some_iff.mp q
      obtain ⟨F1, w1, x1, E1⟩ := put_ok w E a eq
      have hi0 : i < n := hi i (.head _)
      obtain ⟨z1, F2, ρ2, w2, x2, l2, p2, E2⟩ := puts_ok w1 (by rw [List.length_set]; exact l) (set_prefix (x := some v) p l hi0) E1 ((b.mono x1 List.prefix_rfl).setF (fun j z => f j (.tail _ z)) hi0) (fun j z => f j (.tail _ z)) (fun j z => hi j (.tail _ z)) e2
      exact ⟨congrArg (· + 1) z1, F2, ρ2, w2, x1.trans x2, l2, p2, E2⟩
  | [], _ :: _, _, _, _, _, _, _, _, _, _, _, _, _, _, q => by cases q
  | _ :: _, [], _, _, _, _, _, _, _, _, _, _, _, _, _, q => by cases q
end
def gNames : List Nat → TGs
  | [] => gNil
  | i :: is => gCons (gName i) (gNames is)
theorem gNames_run {H : Hp} {Q : L2.St → Hp → Prop} : ∀ {is : List Nat} {vs : List V} {σ : L2.St}, is.length = vs.length → Q (setsS is vs σ) H → gNames is vs σ H Q
  | [], [], σ, _, q => ⟨rfl, q⟩
  | i :: is, v :: vs, σ, l, q => ⟨v, vs, rfl, gNames_run (Nat.succ.inj l) q⟩
theorem simMulti {g : G} {W : WX} {n : Nat} {ta : TA} {da : DA} {is : List Nat} {K : PySem.W.Frag} (h : SimA g n ta da) (hi : ∀ i ∈ is, i < n) (hs : is.length ≤ 30) : SimS g W n (tAsg (tTup ta) (gTup K is.length (gNames is))) (dMulti is da) := fun B F H σ env T w l E s => by
  have le : env.length = n := E.len.symm.trans l
  refine h B F H σ σ env _ w l List.prefix_rfl E (s.bind.mono fun r sr F1 H1 vs ρ1 w1 e1 p1 E1 i1 => ?_)
  obtain ⟨q, eq, s2⟩ := sr.bind
  obtain ⟨e, ee, s3⟩ := s2.bind
  obtain ⟨o, eo, k⟩ := s3
  cases eo
  rw [le] at eq ee k
  obtain ⟨F2, w2, x2, E2, i2, f2⟩ := pin_ok w1 E1 i1 eq
  obtain ⟨z, F3, ρ3, w3, x3, l3, p3, E3⟩ := puts_ok w2 l p1 E2 i2 f2 hi ee
  refine ⟨Nat.le_trans (by rw [← z]; exact hs) (by decide : 30 ≤ sizeLine), fun t ht => ?_⟩
  refine ⟨t, vs, rfl, .inl (.inl upd_same), z.symm, gNames_run z ?_⟩
  exact k F3 _ _ (w3.laid ht) ((e1.trans x2).trans x3) l3 ((E3.takeP p3 l3).laid ht)
theorem simPar {g : G} {W : WX} {n i j : Nat} {ta : TA} {da : DA} (h : SimA g n ta da) (hi : i < n) (hj : j < n) : SimS g W n (tPar i j ta) (dMulti [i, j] da) := fun B F H σ env T w l E s => by
  have le : env.length = n := E.len.symm.trans l
  refine h B F H σ σ env _ w l List.prefix_rfl E (s.bind.mono fun r sr F1 H1 vs ρ1 w1 e1 p1 E1 i1 => ?_)
  obtain ⟨q, eq, s2⟩ := sr.bind
  obtain ⟨e, ee, s3⟩ := s2.bind
  obtain ⟨o, eo, k⟩ := s3
  cases eo
  rw [le] at eq ee k
  obtain ⟨F2, w2, x2, E2, i2, f2⟩ := pin_ok w1 E1 i1 eq
  obtain ⟨z, F3, ρ3, w3, x3, l3, p3, E3⟩ := puts_ok w2 l p1 E2 i2 f2 (fun k hk => by
    cases hk with
    | head => exact hi
    | tail _ hk => cases hk with
      | head => exact hj
      | tail _ hk => cases hk) ee
  match vs, z with
  | [v, u], _ => exact ⟨v, u, rfl, k F3 _ _ w3 ((e1.trans x2).trans x3) l3 (E3.takeP p3 l3)⟩
structure SNs (X : Cx) (tg : List Expr) (is : List Nat) : Prop where
  pg : PGs X tg (gNames is)
  lt : ∀ i ∈ is, i < X.N.length
theorem sns_nil {X : Cx} : SNs X [] [] := ⟨pgs_nil, fun _ z => nomatch z⟩
theorem sns_cons {X : Cx} {i : Nat} {x : Str} {pos : Pos} {es : List Expr} {is : List Nat} (hN : X.N.Nodup) (hi : X.N[i]? = some x) (hx : Loc X.env.scope x) (h : SNs X es is) (hf : X.fn x = true ∨ X.env.scope.names.lookup x = some .local := by first | exact .inl rfl | exact .inr rfl)
    (hs : (assignEach (.Name x pos :: es) X.env).map (·.2) = assign (.Name x pos) X.env :: (assignEach es X.env).map (·.2) := by rfl) : SNs X (.Name x pos :: es) (i :: is) :=
  ⟨pgs_cons (pg_name hN hi hx hf) h.pg hs, fun j z => by
    cases z with
    | head => exact (List.getElem?_eq_some_iff.mp hi).1
    | tail _ z => exact h.lt j z⟩
theorem ss_multi {CT : CTab} {X : Cx} {tgs es : List Expr} {is : List Nat} {da : DA} {k k2 : Nat} {pt pt2 pos : Pos} (hc : X.calm = true) (h : SA CT X es da) (hg : SNs X tgs is) (hn : (assignEach tgs X.env).length = is.length := by rfl) (hst : (assignEach tgs X.env).findIdx? (·.1) = none := by rfl) (hl : is.length ≤ 30 := by decide)
    (hs : swapsWithSole [.Tuple tgs k pt] (.Tuple es k2 pt2) pos.line X.env = pure false := by rfl) (hw : swappedStores [.Tuple tgs k pt] (.Tuple es k2 pt2) X.env = pure none := by rfl) (h1 : (assignEach [.Tuple tgs k pt] X.env).map (·.2) = [assign (.Tuple tgs k pt) X.env] := by rfl) :
    SS CT X (.Assign [.Tuple tgs k pt] (.Tuple es k2 pt2) pos) (dMulti is da) := by
  obtain ⟨_, a, b⟩ := h
  exact ⟨_, ps_asg (pe_tup a) (pg_tup hc hg.pg hn hst) hs hw h1, simMulti b hg.lt hl⟩
theorem ss_par {CT : CTab} {X : Cx} {i j : Nat} {x y : Str} {a b : Expr} {da : DA} {px py pt : Pos} {kt k2 : Nat} {pt2 pos : Pos} (hc : X.calm = true) (hN : X.N.Nodup) (hi : X.N[i]? = some x) (hj : X.N[j]? = some y) (hij : i ≠ j) (hx : X.env.scope.names.lookup x = some .local) (hy : X.env.scope.names.lookup y = some .local)
    (h : SA CT X [a, b] da) (hw : swappedStores [.Tuple [.Name x px, .Name y py] kt pt] (.Tuple [a, b] k2 pt2) X.env = pure (some [x, y]) := by rfl)
    (hs : swapsWithSole [.Tuple [.Name x px, .Name y py] kt pt] (.Tuple [a, b] k2 pt2) pos.line X.env = pure false := by rfl) : SS CT X (.Assign [.Tuple [.Name x px, .Name y py] kt pt] (.Tuple [a, b] k2 pt2) pos) (dMulti [i, j] da) := by
  obtain ⟨_, p, q⟩ := h
  exact ⟨_, ps_par hc hN hi hj hij hx hy p hw hs, simPar q (List.getElem?_eq_some_iff.mp hi).1 (List.getElem?_eq_some_iff.mp hj).1⟩

/-! ### walks -/
structure Wk (g : G) (L : List (Addr × HO)) (J : It) (F : Hp) (items : List D) : Prop where
  ex : ∃ Y, Walk J items.length (fun H => ∃ F', Ex F F' ∧ Sub F' H ∧ ∀ p ∈ L, H p.1 = some p.2) Y ∧ ∀ i H x H', Y i H x H' → ∃ d, items[i]? = some d ∧ ((H' = H ∧ Is g F x d) ∨ ∃ (T : Addr) (vs : List V) (ds : List D), x = .ref T ∧ H T = none ∧ H' = upd H T (.tup vs) ∧ d = .tup ds ∧ IsL g F vs ds)
abbrev DI := Env → Option (List D × Env)
def SimI (g : G) (n : Nat) (wi : TI) (di : DI) : Prop := ∀ (B : Base) (F H : Hp) (σ ρ : L2.St) (env : Env) (R : It → Hp → Prop), Wd B F H → σ.length = n → σ <+: ρ → EnvIs g B F H ρ env →
  Sat (di env) (fun r => ∀ (F' H' : Hp) (ρ' : L2.St) (J : It), Wd B F' H' → Ex F F' → ρ <+: ρ' → EnvIs g B F' H' ρ' r.2 → Wk g B.L J F' r.1 → R J H') → wi σ H R
structure SI (CT : CTab) (X : Cx) (tg e : Expr) (di : DI) : Prop where
  ex : ∃ wi, PI X tg e wi ∧ SimI (gX CT X) X.N.length wi di
def dLoop (bind : D → Env → Option Env) (body : DS) : List D → Env → Option Out
  | [], env => some (.nx env)
  | x :: xs, env => (bind x env).bind fun e => (body e).bind fun o => match o with
    | .nx e2 => dLoop bind body xs e2
    | .ct e2 => dLoop bind body xs e2
    | .bk e2 => some (.nx e2)
    | .rt l e2 => some (.rt l e2)
    | .xc c xs e2 => some (.xc c xs e2)
def dFor (p : Pat) (di : DI) (body : DS) : DS := fun env => (di env).bind fun r => dLoop (bindP p) body r.1 (r.2.take env.length)
theorem simFor {g : G} {W : WX} {n : Nat} {wi : TI} {tg : TG} {tb : TS} {di : DI} {p : Pat} {body : DS} (hi : SimI g n wi di) (hg : SimG g n tg (bindP p) p.ix) (hb : SimS g W n tb body) : SimS g W n (tFor wi tg tb) (dFor p di body) := fun B F H σ env T w l E s => by
  refine hi B F H σ σ env _ w l List.prefix_rfl E (s.bind.mono fun r sr F1 H1 ρ1 J w1 e1 p1 E1 k => ?_)
  obtain ⟨Y, wk, hy⟩ := k.ex
  have le : env.length = n := E.len.symm.trans l
  rw [le] at sr
  refine for_it (n := r.1.length) wk (Pv := fun i σ' H' => ∃ F2 e2, Wd B F2 H' ∧ Ex F1 F2 ∧ σ'.length = n ∧ EnvIs g B F2 H' σ' e2 ∧ Sat (dLoop (bindP p) body (r.1.drop i) e2) (OutOk g B F W n T)) ?_ ?_ ?_ ?_
  · exact ⟨F1, _, w1, Ex.refl F1, l, E1.takeP p1 l, by rw [List.drop_zero]; exact sr⟩
  · rintro i σ' H' hi' ⟨F2, e2, w2, x2, _⟩
    exact ⟨F2, x2, w2.sub, fun p hp => (w2.lk p hp).1⟩
  · rintro i x σ' H' H2 hlt ⟨F2, e2, w2, x2, l2, E2, s2⟩ y
    obtain ⟨d, hd, yy⟩ := hy i H' x H2 y
    rw [List.drop_eq_getElem_cons hlt] at s2
    obtain rfl : r.1[i] = d := by rw [List.getElem?_eq_getElem hlt] at hd; exact Option.some.inj hd
    have go : ∀ F3, Wd B F3 H2 → Ex F2 F3 → EnvIs g B F3 H2 σ' e2 → Is g F3 x r.1[i] → tg x σ' H2 fun σ2 H3 => tb { T with nx := fun σ' H' => ∃ F2 e2, Wd B F2 H' ∧ Ex F1 F2 ∧ σ'.length = n ∧ EnvIs g B F2 H' σ' e2 ∧ Sat (dLoop (bindP p) body (r.1.drop (i + 1)) e2) (OutOk g B F W n T), ct := fun σ' H' => ∃ F2 e2, Wd B F2 H' ∧ Ex F1 F2 ∧ σ'.length = n ∧ EnvIs g B F2 H' σ' e2 ∧ Sat (dLoop (bindP p) body (r.1.drop (i + 1)) e2) (OutOk g B F W n T), bk := T.nx } σ2 H3 := fun F3 w3 x3 E3 ix => by
      refine hg B F3 H2 σ' σ' e2 x r.1[i] _ w3 l2 List.prefix_rfl E3 ix ((s2 : Sat ((bindP p r.1[i] e2).bind _) _).bind.mono fun e3 q σ3 ρ3 l3 p3 lr f _ E4 => ?_)
      have E5 : EnvIs g B F3 H2 σ3 e3 := by
        have : σ3 = ρ3 := List.IsPrefix.eq_of_length p3 (l3.trans (l2.symm.trans lr.symm))
        rw [this]
        exact E4
      refine hb B F3 H2 σ3 e3 _ w3 l3 E5 (q.bind.mono fun o so => ?_)
      cases o with
      | nx e4 => exact fun F4 H4 σ4 w4 x4 l4 E4 => ⟨F4, e4, w4, (x2.trans x3).trans x4, l4, E4, so⟩
      | ct e4 => exact fun F4 H4 σ4 w4 x4 l4 E4 => ⟨F4, e4, w4, (x2.trans x3).trans x4, l4, E4, so⟩
      | bk e4 =>
        obtain ⟨_, e, kk⟩ := so
        cases e
        exact fun F4 H4 σ4 w4 x4 l4 E4 => kk F4 H4 σ4 w4 (((e1.trans x2).trans x3).trans x4) l4 E4
      | rt lv e4 =>
        obtain ⟨_, e, kk⟩ := so
        cases e
        exact fun F4 H4 v ρ4 w4 x4 E4 i4 => kk F4 H4 v ρ4 w4 (((e1.trans x2).trans x3).trans x4) E4 i4
      | xc c xs e4 =>
        obtain ⟨_, e, kk⟩ := so
        cases e
        exact fun F4 H4 σ4 cl d w4 x4 => kk F4 H4 σ4 cl d w4 (((e1.trans x2).trans x3).trans x4)
    rcases yy with ⟨rfl, ix⟩ | ⟨T', vs, ds, rfl, nT, rfl, ed, il⟩
    · exact go F2 w2 (Ex.refl F2) E2 (ix.mono x2)
    · refine go _ (w2.laidF nT) (Ex.new (w2.nF nT)) (E2.laidF w2 nT) ?_
      rw [ed]
      exact .tup (.of upd_same) (il.mono (x2.trans (Ex.new (w2.nF nT))))
  · rintro σ' H' ⟨F2, e2, w2, x2, l2, E2, s2⟩
    rw [List.drop_length] at s2
    obtain ⟨_, e, kk⟩ := s2
    cases e
    exact kk F2 H' σ' w2 (e1.trans x2) l2 E2
theorem ss_for {CT : CTab} {X : Cx} {tg iter : Expr} {body : List Stmt} {pos : Pos} {di : DI} {p : Pat} {db : DS} (hp : PassesOwn (model X.prog X.w) X.A X.env X.xe) (hc : X.calm = true) (hi : SI CT X tg iter di) (hg : SG CT X tg p) (hb : SSs CT X body db) (hs : ∀ x, foldedSetIterable iter X.env x = pure x := by intro _; rfl) : SS CT X (.For tg iter body [] pos) (dFor p di db) := by
  obtain ⟨_, a, b⟩ := hi
  obtain ⟨_, c, d⟩ := hg
  obtain ⟨_, e, f⟩ := hb
  exact ⟨_, ps_for hp hc a c e hs, simFor b d f⟩
end Sim
namespace Sim
open PySem PySem.Spec PyProof.Rows L2

/-! ### an object that nobody else may touch -/
def Base.pin (B : Base) (D : Addr) (o : HO) : Base := { B with H := fun b => if b = D then some o else B.H b }
theorem pin_at {B : Base} {D : Addr} {o : HO} : (B.pin D o).H D = some o := by
  show (if D = D then some o else B.H D) = some o
  rw [if_pos rfl]
theorem pin_ne {B : Base} {D b : Addr} {o : HO} (h : b ≠ D) : (B.pin D o).H b = B.H b := by
  show (if b = D then some o else B.H b) = B.H b
  rw [if_neg h]
def NoOwn (ρ : L2.St) (env : Env) (D : Addr) : Prop := ∀ (k : Nat) (p : Bool) (u : Ob), env[k]? = some (some (.own p u)) → ρ[k]? ≠ some (some (.ref D))
section
variable {g : G} {B : Base} {F F' H H' : Hp} {σ ρ : L2.St} {env : Env} {D : Addr} {o : HO}
theorem Wd.pin (w : Wd B F H) (h : H D = some o) (n : F D = none) (a : B.A ≠ some D) : Wd (B.pin D o) F H := by
  refine ⟨w.sub, w.ex0, fun b u e x y => ?_, fun b e => ?_, fun b e => ?_, w.lk, fun b e => ?_⟩
  · by_cases c : b = D
    · subst c
      rw [pin_at] at e
      cases e
      exact h
    · rw [pin_ne c] at e
      exact w.keep b u e x y
  · by_cases c : b = D
    · subst c
      rw [h]
      exact fun z => nomatch z
    · rw [pin_ne c] at e
      exact w.dom b e
  · by_cases c : b = D
    · subst c
      rw [n]
      cases q : B.F b with
      | none => exact q.symm
      | some u => rw [w.ex0 b u q] at n; cases n
    · rw [pin_ne c] at e
      exact w.fr b e
  · rw [pin_ne (fun z => a (by rw [← z]; exact e))]
    exact w.bor b e
theorem Wd.unpin (w : Wd (B.pin D o) F H) (nb : B.H D = none) (nF : B.F D = none) (a : B.A ≠ some D) : Wd B F H ∧ H D = some o ∧ F D = none := by
  have ne : ∀ b, B.H b ≠ none → b ≠ D := fun b e z => by rw [z] at e; exact e nb
  refine ⟨⟨w.sub, w.ex0, fun b u e x y => ?_, fun b e => ?_, fun b e => ?_, w.lk, fun b e => ?_⟩, w.keep D o pin_at a nF, ?_⟩
  · exact w.keep b u (by rw [pin_ne (ne b (by rw [e]; exact fun z => nomatch z))]; exact e) x y
  · exact w.dom b (by rw [pin_ne (ne b e)]; exact e)
  · exact w.fr b (by rw [pin_ne (ne b e)]; exact e)
  · have := w.bor b e
    rw [pin_ne (fun z => a (by rw [← z]; exact e))] at this
    exact this
  · rw [w.fr D (by rw [pin_at]; exact fun z => nomatch z)]
    exact nF
theorem EnvIs.pin (E : EnvIs g B F H ρ env) (no : NoOwn ρ env D) : EnvIs g (B.pin D o) F H ρ env := by
  refine ⟨E.len, fun i s e => ?_, E.dis⟩
  obtain ⟨v, x, y⟩ := E.sl i s e
  refine ⟨v, x, ?_⟩
  cases y with
  | val y => exact .val y
  | @own a p u ho n m h r =>
    refine .own n ?_ h r
    unfold Mine at m ⊢
    cases p with
    | true => rw [if_pos rfl] at m ⊢; exact m
    | false =>
      rw [if_neg Bool.false_ne_true] at m ⊢
      rw [pin_ne (fun z => no i false u e (by rw [x, z]))]
      exact m
theorem EnvIs.unpin (E : EnvIs g (B.pin D o) F H ρ env) (nb : B.H D = none) (a : B.A ≠ some D) : EnvIs g B F H ρ env ∧ NoOwn ρ env D := by
  have mine : ∀ (b : Addr) (p : Bool), Mine (B.pin D o) p b → Mine B p b ∧ b ≠ D := fun b p m => by
    unfold Mine at m ⊢
    cases p with
    | true =>
      rw [if_pos rfl] at m ⊢
      exact ⟨m, fun z => a (by rw [← z]; exact m)⟩
    | false =>
      rw [if_neg Bool.false_ne_true] at m ⊢
      have ne : b ≠ D := fun z => by rw [z, pin_at] at m; cases m
      rw [pin_ne ne] at m
      exact ⟨m, ne⟩
  refine ⟨⟨E.len, fun i s e => ?_, E.dis⟩, fun k p u e z => ?_⟩
  · obtain ⟨v, x, y⟩ := E.sl i s e
    refine ⟨v, x, ?_⟩
    cases y with
    | val y => exact .val y
    | own n m h r => exact .own n (mine _ _ m).1 h r
  · obtain ⟨b, ho, x, _, m, _⟩ := E.own e
    rw [z] at x
    cases x
    exact (mine _ _ m).2 rfl
theorem EnvIs.pushO (h : EnvIs g B F H ρ env) {a : Addr} {ho : HO} {u : Ob} (n : F a = none) (m : B.H a = none) (ha : H a = some ho) (no : NoOwn ρ env a) (r : ObIs g F ho u) : EnvIs g B F H (ρ ++ [some (.ref a)]) (env ++ [some (.own false u)]) := by
  have ix : ∀ (j : Nat) (s : Sl), (env ++ [some (Sl.own false u)])[j]? = some (some s) → (j < env.length ∧ env[j]? = some (some s)) ∨ (j = env.length ∧ s = .own false u) := fun j s q => by
    rw [List.getElem?_append] at q
    by_cases c : j < env.length
    · rw [if_pos c] at q
      exact .inl ⟨c, q⟩
    · rw [if_neg c] at q
      have : j - env.length = 0 := by
        cases z : j - env.length with
        | zero => rfl
        | succ k => rw [z] at q; simp at q
      rw [this] at q
      simp at q
      exact .inr ⟨by omega, q.symm⟩
  have old : ∀ (j : Nat), j < env.length → (ρ ++ [some (V.ref a)])[j]? = ρ[j]? := fun j c => List.getElem?_append_left (by rw [h.len]; exact c)
  have last : (ρ ++ [some (V.ref a)])[env.length]? = some (some (.ref a)) := by
    rw [← h.len]
    simp
  refine ⟨by rw [List.length_append, List.length_append, h.len]; rfl, fun j s q => ?_, fun j k b p1 p2 o1 o2 e1 e2 s1 s2 => ?_⟩
  · rcases ix j s q with ⟨c, q⟩ | ⟨rfl, rfl⟩
    · rw [old j c]
      exact h.sl j s q
    · exact ⟨_, last, .own n (by unfold Mine; rw [if_neg Bool.false_ne_true]; exact m) ha r⟩
  · rcases ix j _ e1 with ⟨c1, e1⟩ | ⟨q1, _⟩
    · rw [old j c1] at s1
      rcases ix k _ e2 with ⟨c2, e2⟩ | ⟨q2, _⟩
      · rw [old k c2] at s2
        exact h.dis j k b p1 p2 o1 o2 e1 e2 s1 s2
      · rw [q2, last] at s2
        cases s2
        exact absurd s1 (no j _ _ e1)
    · rw [q1, last] at s1
      cases s1
      rcases ix k _ e2 with ⟨c2, e2⟩ | ⟨q2, _⟩
      · rw [old k c2] at s2
        exact absurd s2 (no k _ _ e2)
      · rw [q1, q2]
end

/-! ### comprehensions -/
def wipesE (env : Env) : List Nat → Env
  | [] => env
  | v :: vs => (wipesE env vs).set v none
def restore (e0 : Env) : List Nat → Env → Env
  | [], e => e
  | v :: vs, e => (restore e0 vs e).set v (match e0[v]? with | some (some (.val d)) => some (.val d) | _ => none)
def lcLoop (own : List Nat) (m : Nat) (p : Pat) (dt : DT) (de : DE) : List D → List D → Env → Option (List D × Env)
  | [], acc, env => some (acc, env)
  | x :: xs, acc, env => (bindP p x env).bind fun e1 => (dt e1).bind fun t =>
      if t.1 = true then (dd de t.2).bind fun y => if acc.length < LIM then lcLoop own m p dt de xs (acc ++ [y.1]) (wipesE (y.2.take m) own) else none
      else lcLoop own m p dt de xs acc (wipesE (t.2.take m) own)
def dLc (own : List Nat) (di : DI) (p : Pat) (dt : DT) (de : DE) : DE := fun env => (di env).bind fun r =>
  (lcLoop own r.2.length p dt de r.1 [] (wipesE r.2 own)).bind fun q => some (fin (restore r.2 own q.2) (.new (.lst q.1)))
def dtYes : DT := fun env => some (true, env)
structure STs (CT : CTab) (X : Cx) (ifs : List Expr) (dt : DT) : Prop where
  ex : ∃ tt, PTs X ifs tt ∧ SimT (gX CT X) X.N.length tt dt
theorem sts_nil {CT : CTab} {X : Cx} : STs CT X [] dtYes := ⟨_, pts_nil, fun B F H σ ρ env Q w l p E s => by
  obtain ⟨r, e, k⟩ := s
  cases e
  exact k F H ρ w (Ex.refl F) List.prefix_rfl E⟩
theorem sts_one {CT : CTab} {X : Cx} {c : Expr} {dt : DT} (h : ST CT X c dt) : STs CT X [c] dt := by
  obtain ⟨_, a, b⟩ := h
  exact ⟨_, pts_one a, b⟩
theorem wipe_get : ∀ (vs : List Nat) (σ : L2.St) (j : Nat), (wipe σ vs)[j]? = if j ∈ vs then (if j < σ.length then some none else none) else σ[j]?
  | [], σ, j => by rw [if_neg (fun z => nomatch z)]; rfl
  | v :: vs, σ, j => by
    show ((wipe σ vs).set v none)[j]? = _
    rw [List.getElem?_set, wipe_length, wipe_get vs σ j]
    by_cases c : v = j
    · subst c
      rw [if_pos rfl, if_pos (List.mem_cons_self)]
    · rw [if_neg c]
      by_cases c2 : j ∈ vs
      · rw [if_pos c2, if_pos (List.mem_cons_of_mem _ c2)]
      · rw [if_neg c2, if_neg]
        intro z
        cases z with
        | head => exact c rfl
        | tail _ z => exact c2 z
theorem wipe_same {σ σ2 : L2.St} {vs : List Nat} (l : σ2.length = σ.length) (f : ∀ j, j ∉ vs → σ2[j]? = σ[j]?) : wipe σ2 vs = wipe σ vs := by
  apply List.ext_getElem?
  intro j
  rw [wipe_get, wipe_get, l]
  by_cases c : j ∈ vs
  · rw [if_pos c, if_pos c]
  · rw [if_neg c, if_neg c, f j c]
theorem wipe_prefix {σ ρ : L2.St} {n : Nat} (p : σ <+: ρ) (l : σ.length = n) : ∀ {vs : List Nat}, (∀ i ∈ vs, i < n) → wipe σ vs <+: wipe ρ vs
  | [], _ => p
  | v :: vs, h => set_prefix (wipe_prefix p l fun i z => h i (.tail _ z)) (by rw [wipe_length]; exact l) (h v (.head _))
theorem wipesE_length (env : Env) : ∀ vs : List Nat, (wipesE env vs).length = env.length
  | [] => rfl
  | v :: vs => by unfold wipesE; rw [List.length_set, wipesE_length env vs]
theorem EnvIs.wipes {g : G} {B : Base} {F H : Hp} {ρ : L2.St} {env : Env} (E : EnvIs g B F H ρ env) : ∀ vs : List Nat, EnvIs g B F H (wipe ρ vs) (wipesE env vs)
  | [] => E
  | v :: vs => (E.wipes vs).forget v none
theorem EnvIs.restores {g : G} {B : Base} {F F0 H H0 : Hp} {ρ : L2.St} {env e0 : Env} (E0 : EnvIs g B F0 H0 ρ e0) (x : Ex F0 F) : ∀ {vs : List Nat}, EnvIs g B F H (wipe ρ vs) env → EnvIs g B F H ρ (restore e0 vs env)
  | [], E => E
  | v :: vs, E => by
    -- what is wiped further in is put back first; the rest of the slots stand as they stood
    have len : (restore e0 (v :: vs) env).length = env.length := by
      have : ∀ vs : List Nat, (restore e0 vs env).length = env.length := by
        intro vs
        induction vs with
        | nil => rfl
        | cons v vs k => unfold restore; rw [List.length_set, k]
      exact this _
    have get : ∀ (vs : List Nat) (j : Nat), j < env.length → (restore e0 vs env)[j]? = if j ∈ vs then some (match e0[j]? with | some (some (.val d)) => some (.val d) | _ => none) else env[j]? := by
      intro vs
      induction vs with
      | nil => intro j _; rw [if_neg (fun z => nomatch z)]; rfl
      | cons v vs k =>
        intro j hj
        have ll : (restore e0 vs env).length = env.length := by
          have : ∀ vs : List Nat, (restore e0 vs env).length = env.length := by
            intro vs
            induction vs with
            | nil => rfl
            | cons v vs k => unfold restore; rw [List.length_set, k]
          exact this _
        show ((restore e0 vs env).set v _)[j]? = _
        rw [List.getElem?_set, ll]
        by_cases c : v = j
        · subst c
          rw [if_pos rfl, if_pos hj, if_pos List.mem_cons_self]
        · rw [if_neg c, k j hj]
          by_cases c2 : j ∈ vs
          · rw [if_pos c2, if_pos (List.mem_cons_of_mem _ c2)]
          · rw [if_neg c2, if_neg]
            intro z
            cases z with
            | head => exact c rfl
            | tail _ z => exact c2 z
    have hl : ρ.length = env.length := by rw [← E.len, wipe_length]
    have sl : ∀ (j : Nat) (s : Sl), (restore e0 (v :: vs) env)[j]? = some (some s) → (j ∈ (v :: vs) ∧ ∃ d, s = .val d ∧ e0[j]? = some (some (.val d))) ∨ (j ∉ (v :: vs) ∧ env[j]? = some (some s)) := fun j s e => by
      have hj : j < env.length := by rw [← len]; exact (List.getElem?_eq_some_iff.mp e).1
      rw [get _ j hj] at e
      by_cases c : j ∈ (v :: vs)
      · rw [if_pos c] at e
        refine .inl ⟨c, ?_⟩
        split at e
        · rename_i d q
          cases e
          exact ⟨d, rfl, q⟩
        · cases e
      · rw [if_neg c] at e
        exact .inr ⟨c, e⟩
    have same : ∀ j, j ∉ (v :: vs) → (wipe ρ (v :: vs))[j]? = ρ[j]? := fun j c => by rw [wipe_get, if_neg c]
    refine ⟨by rw [len]; exact hl, fun j s e => ?_, fun j k b p1 p2 o1 o2 e1 e2 s1 s2 => ?_⟩
    · rcases sl j s e with ⟨_, d, rfl, q⟩ | ⟨c, q⟩
      · obtain ⟨u, a, b⟩ := E0.val q
        exact ⟨u, a, .val (b.mono x)⟩
      · obtain ⟨u, a, b⟩ := E.sl j s q
        rw [same j c] at a
        exact ⟨u, a, b⟩
    · rcases sl j _ e1 with ⟨_, d, z, _⟩ | ⟨c1, q1⟩
      · cases z
      · rcases sl k _ e2 with ⟨_, d, z, _⟩ | ⟨c2, q2⟩
        · cases z
        · exact E.dis j k b _ _ _ _ q1 q2 (by rw [same j c1]; exact s1) (by rw [same k c2]; exact s2)
theorem EnvIs.keepO {g : G} {B : Base} {F H : Hp} {ρ : L2.St} {env : Env} {P : Addr} {o : HO} (E : EnvIs g B F H ρ env) (no : NoOwn ρ env P) : EnvIs g B F (upd H P o) ρ env := by
  refine ⟨E.len, fun i s e => ?_, E.dis⟩
  obtain ⟨v, x, y⟩ := E.sl i s e
  refine ⟨v, x, ?_⟩
  cases y with
  | val y => exact .val y
  | own n m h r => exact .own n m (by rw [upd_ne (fun z => no i _ _ e (by rw [x, z]))]; exact h) r
theorem noOwn_restore {P : Addr} {ρ : L2.St} {e0 env : Env} : ∀ {vs : List Nat}, NoOwn (wipe ρ vs) env P → NoOwn ρ (restore e0 vs env) P
  | vs, no => fun i p u e z => by
    have : ∀ (vs : List Nat), (restore e0 vs env)[i]? = some (some (.own p u)) → i ∉ vs ∧ env[i]? = some (some (.own p u)) := by
      intro vs
      induction vs with
      | nil => exact fun e => ⟨(fun z => nomatch z), e⟩
      | cons v vs k =>
        intro e
        have e' : ((restore e0 vs env).set v (match e0[v]? with | some (some (.val d)) => some (.val d) | _ => none))[i]? = some (some (.own p u)) := e
        rw [List.getElem?_set] at e'
        by_cases c : v = i
        · rw [if_pos c] at e'
          split at e'
          · split at e' <;> cases e'
          · cases e'
        · rw [if_neg c] at e'
          obtain ⟨h1, h2⟩ := k e'
          refine ⟨fun z => ?_, h2⟩
          cases z with
          | head => exact c rfl
          | tail _ z => exact h1 z
    obtain ⟨h1, h2⟩ := this vs e
    exact no i p u h2 (by rw [wipe_get, if_neg h1]; exact z)
def LcPv (g : G) (B : Base) (F1 : Hp) (ρw : L2.St) (P : Addr) (K : List D → Env → Nat → Prop) (i : Nat) (H' : Hp) : Prop :=
  ∃ (F2 : Hp) (e2 : Env) (acc : List D) (va : List V), Wd B F2 H' ∧ Ex F1 F2 ∧ EnvIs g B F2 H' ρw e2 ∧ NoOwn ρw e2 P ∧ F2 P = none ∧ H' P = some (.lst va) ∧ IsL g F2 va acc ∧ K acc e2 i
theorem noOwn_wipes {P : Addr} {ρ : L2.St} {env : Env} (no : NoOwn ρ env P) : ∀ vs : List Nat, NoOwn (wipe ρ vs) (wipesE env vs) P
  | [] => no
  | v :: vs => fun i p u e z => by
    have e' : ((wipesE env vs).set v none)[i]? = some (some (.own p u)) := e
    have z' : ((wipe ρ vs).set v none)[i]? = some (some (.ref P)) := z
    rw [List.getElem?_set] at e' z'
    by_cases c : v = i
    · rw [if_pos c] at e'
      split at e' <;> cases e'
    · rw [if_neg c] at e' z'
      exact noOwn_wipes no vs i p u e' z'
theorem noOwn_take {P : Addr} {ρ ρ' : L2.St} {env : Env} {n : Nat} (no : NoOwn ρ' env P) (p : ρ <+: ρ') (l : ρ.length = n) : NoOwn ρ (env.take n) P := fun j q u e z => by
  rw [List.getElem?_take] at e
  by_cases c : j < n
  · rw [if_pos c] at e
    obtain ⟨τ, rfl⟩ := p
    exact no j q u e (by rw [List.getElem?_append_left (by omega)]; exact z)
  · rw [if_neg c] at e
    cases e
theorem wipe_wipe (σ : L2.St) (vs : List Nat) : wipe (wipe σ vs) vs = wipe σ vs := wipe_same (wipe_length σ vs) fun j hj => by rw [wipe_get, if_neg hj]
theorem simLcAt {g : G} {n : Nat} {wi : TI} {tg : TG} {tt : TT} {te : TE} {di : DI} {p : Pat} {dt : DT} {de : DE} {vs : List Nat} {B : Base} {F H : Hp} {σ ρ : L2.St} {env : Env} {Q : VK}
    (hi : ∀ R : It → Hp → Prop, Sat (di env) (fun r => ∀ (F' H' : Hp) (ρ' : L2.St) (J : It), Wd B F' H' → Ex F F' → ρ <+: ρ' → EnvIs g B F' H' ρ' r.2 → Wk g B.L J F' r.1 → R J H') → wi σ H R) (hg : SimG g n tg (bindP p) p.ix) (ht : SimT g n tt dt) (he : SimE g n te de) (hv : ∀ i ∈ vs, i < n) (hp : ∀ i ∈ p.ix, i ∈ vs)
    (w : Wd B F H) (l : σ.length = n) (pf : σ <+: ρ) (E : EnvIs g B F H ρ env) (s : Sat (dLc vs di p dt de env) (fun r => ∀ (F' H' : Hp) (v : V) (ρ' : L2.St), Wd B F' H' → Ex F F' → ρ <+: ρ' → EnvIs g B F' H' ρ' r.2 → VIs g F' ρ' v r.1 → Q v H')) : tLc wi tg tt te vs σ H Q := by
  refine hi _ (s.bind.mono fun r sr F1 H1 ρ1 J w1 e1 p1 E1 k => ?_)
  obtain ⟨Y, wk, hy⟩ := k.ex
  intro P nD
  have pf1 : σ <+: ρ1 := pf.trans p1
  have nF1 := w1.nF nD
  have nB := w1.nB nD
  have nBF : B.F P = none := by
    cases q : B.F P with
    | none => rfl
    | some u => rw [w1.ex0 P u q] at nF1; cases nF1
  have aD : B.A ≠ some P := w1.nA nD
  have wl : (wipe σ vs).length = n := by rw [wipe_length]; exact l
  have wp : wipe σ vs <+: wipe ρ1 vs := wipe_prefix pf1 l hv
  have lm : (wipe ρ1 vs).length = r.2.length := by rw [wipe_length]; exact E1.len
  have no0 : NoOwn ρ1 r.2 P := fun k p u e z => by
    obtain ⟨a, ho, x, _, _, y, _⟩ := E1.own e
    rw [z] at x
    cases x
    rw [nD] at y
    cases y
  let K : List D → Env → Nat → Prop := fun acc e2 i => Sat ((lcLoop vs r.2.length p dt de (r.1.drop i) acc e2).bind fun q => some (fin (restore r.2 vs q.2) (.new (.lst q.1)))) (fun r => ∀ (F' H' : Hp) (v : V) (ρ' : L2.St), Wd B F' H' → Ex F F' → ρ <+: ρ' → EnvIs g B F' H' ρ' r.2 → VIs g F' ρ' v r.1 → Q v H')
  refine lc_it (n := r.1.length) (D := P) wk (Pv := LcPv g B F1 (wipe ρ1 vs) P K) ?_ ?_ ?_ ?_
  · refine ⟨F1, _, [], [], w1.laid nD, Ex.refl F1, (E1.laid nD).wipes vs, noOwn_wipes no0 vs, nF1, upd_same, .nil, ?_⟩
    show Sat ((lcLoop vs r.2.length p dt de (r.1.drop 0) [] _).bind _) _
    rw [List.drop_zero]
    exact sr
  · rintro i H' hi' ⟨F2, e2, acc, va, w2, x2, _⟩
    exact ⟨F2, x2, w2.sub, fun p hp => (w2.lk p hp).1⟩
  · rintro i x H' H2 hlt ⟨F2, e2, acc, va, w2, x2, E2, no2, nF2, hD, il, s2⟩ y
    obtain ⟨d, hd, yy⟩ := hy i H' x H2 y
    obtain rfl : r.1[i] = d := by rw [List.getElem?_eq_getElem hlt] at hd; exact Option.some.inj hd
    -- the turn, with the new list pinned
    have go : ∀ F3, Wd B F3 H2 → Ex F2 F3 → EnvIs g B F3 H2 (wipe ρ1 vs) e2 → F3 P = none → H2 P = some (.lst va) → Is g F3 x r.1[i] → tg x (wipe σ vs) H2 fun σ2 H3 => wipe σ2 vs = wipe σ vs ∧ tt σ2 H3 fun b H4 =>
        if b = true then te σ2 H4 fun y H5 => ∃ acc, H5 P = some (.lst acc) ∧ acc.length < sizeLine ∧ LcPv g B F1 (wipe ρ1 vs) P K (i + 1) (upd H5 P (.lst (acc ++ [y]))) else LcPv g B F1 (wipe ρ1 vs) P K (i + 1) H4 := fun F3 w3 x3 E3 n3 h3 ix => by
      have s2' : Sat ((bindP p r.1[i] e2).bind fun e1 => (dt e1).bind fun t => (if t.1 = true then (dd de t.2).bind fun y => if acc.length < LIM then lcLoop vs r.2.length p dt de (r.1.drop (i + 1)) (acc ++ [y.1]) (wipesE (y.2.take r.2.length) vs) else none else lcLoop vs r.2.length p dt de (r.1.drop (i + 1)) acc (wipesE (t.2.take r.2.length) vs)).bind fun q => some (fin (restore r.2 vs q.2) (.new (.lst q.1))))
          (fun r => ∀ (F' H' : Hp) (v : V) (ρ' : L2.St), Wd B F' H' → Ex F F' → ρ <+: ρ' → EnvIs g B F' H' ρ' r.2 → VIs g F' ρ' v r.1 → Q v H') := by
        have q : Sat ((lcLoop vs r.2.length p dt de (r.1.drop i) acc e2).bind _) _ := s2
        rw [List.drop_eq_getElem_cons hlt] at q
        change Sat (((bindP p r.1[i] e2).bind fun e1 => (dt e1).bind fun t => if t.1 = true then (dd de t.2).bind fun y => if acc.length < LIM then lcLoop vs r.2.length p dt de (r.1.drop (i + 1)) (acc ++ [y.1]) (wipesE (y.2.take r.2.length) vs) else none else lcLoop vs r.2.length p dt de (r.1.drop (i + 1)) acc (wipesE (t.2.take r.2.length) vs)).bind _) _ at q
        simp only [Option.bind_assoc] at q ⊢
        exact q
      have wP := w3.pin h3 n3 aD
      have EP := E3.pin (o := .lst va) no2
      refine hg (B.pin P (.lst va)) F3 H2 (wipe σ vs) (wipe ρ1 vs) e2 x r.1[i] _ wP wl wp EP ix (s2'.bind.mono fun e3 q σ3 ρ3 l3 p3 lr f fr E4 => ⟨(wipe_same (l3.trans wl.symm) (fun j hj => f j fun z => hj (hp j z))).trans (wipe_wipe σ vs), ?_⟩)
      refine ht (B.pin P (.lst va)) F3 H2 σ3 ρ3 e3 _ wP l3 p3 E4 (q.bind.mono fun t st F4 H4 ρ4 w4 x4 p4 E5 => ?_)
      obtain ⟨b, e4⟩ := t
      -- behind the turn: the slots are wiped again, the list is unpinned
      have back : ∀ (F5 H5 : Hp) (ρ5 : L2.St) (e5 : Env), ρ3 <+: ρ5 → EnvIs g (B.pin P (.lst va)) F5 H5 ρ5 e5 → EnvIs g B F5 H5 (wipe ρ1 vs) (wipesE (e5.take r.2.length) vs) ∧ NoOwn (wipe ρ1 vs) (wipesE (e5.take r.2.length) vs) P := fun F5 H5 ρ5 e5 pp EE => by
        obtain ⟨EU, noU⟩ := EE.unpin nB aD
        have l5 : ρ3.length = r.2.length := lr.trans lm
        have eqw : wipe ρ3 vs = wipe ρ1 vs := (wipe_same lr fun j hj => fr j fun z => hj (hp j z)).trans (wipe_wipe ρ1 vs)
        rw [← eqw]
        exact ⟨(EU.takeP pp l5).wipes vs, noOwn_wipes (noOwn_take noU pp l5) vs⟩
      cases b with
      | true =>
        rw [if_pos rfl] at st ⊢
        rw [Option.bind_assoc] at st
        refine he.d (B.pin P (.lst va)) F4 H4 σ3 ρ4 e4 _ w4 l3 (p3.trans p4) E5 (st.bind.mono fun y sy F5 H5 v ρ5 w5 x5 p5 E6 iv => ?_)
        obtain ⟨w6, h6, n6⟩ := w5.unpin nB nBF aD
        obtain ⟨E7, no7⟩ := back F5 H5 ρ5 y.2 (p4.trans p5) E6
        by_cases c : acc.length < LIM
        · rw [if_pos c] at sy
          have il' := il.mono ((x3.trans x4).trans x5)
          refine ⟨va, h6, by rw [il.len]; exact lim_lt c, F5, _, acc ++ [y.1], va ++ [v], w6.write (p := false) n6 (by unfold Mine; rw [if_neg Bool.false_ne_true]; exact nB) h6, (x2.trans x3).trans (x4.trans x5), ?_, no7, n6, upd_same, il'.append (.cons iv .nil), sy⟩
          refine E7.keepO ?_
          exact no7
        · rw [if_neg c] at sy
          obtain ⟨_, z, _⟩ := sy
          cases z
      | false =>
        rw [if_neg Bool.false_ne_true] at st ⊢
        obtain ⟨w5, h5, n5⟩ := w4.unpin nB nBF aD
        obtain ⟨E6, no6⟩ := back F4 H4 ρ4 e4 p4 E5
        exact ⟨F4, _, acc, va, w5, (x2.trans x3).trans x4, E6, no6, n5, h5, il.mono (x3.trans x4), st⟩
    rcases yy with ⟨rfl, ix⟩ | ⟨T', us, ds, rfl, nT, rfl, ed, il2⟩
    · exact go F2 w2 (Ex.refl F2) E2 nF2 hD (ix.mono x2)
    · have neT : P ≠ T' := fun z => by rw [z, nT] at hD; cases hD
      refine go _ (w2.laidF nT) (Ex.new (w2.nF nT)) (E2.laidF w2 nT) (by rw [upd_ne neT]; exact nF2) (by rw [upd_ne neT]; exact hD) ?_
      rw [ed]
      exact .tup (.of upd_same) (il2.mono (x2.trans (Ex.new (w2.nF nT))))
  · rintro H' ⟨F2, e2, acc, va, w2, x2, E2, no2, nF2, hD, il, s2⟩
    have q : Sat ((lcLoop vs r.2.length p dt de (r.1.drop r.1.length) acc e2).bind _) _ := s2
    rw [List.drop_length] at q
    obtain ⟨_, e, kk⟩ := q
    cases e
    have E3 := E1.restores x2 E2
    have noR : NoOwn ρ1 (restore r.2 vs e2) P := noOwn_restore no2
    have hl : (restore r.2 vs e2).length = ρ1.length := E3.len.symm
    refine kk F2 H' _ (ρ1 ++ [some (.ref P)]) w2 (e1.trans x2) (p1.trans (List.prefix_append _ _)) (E3.pushO nF2 nB hD noR (.lst il)) (.at ?_)
    rw [hl]
    simp
theorem simLc {g : G} {n : Nat} {wi : TI} {tg : TG} {tt : TT} {te : TE} {di : DI} {p : Pat} {dt : DT} {de : DE} {vs : List Nat} (hi : SimI g n wi di) (hg : SimG g n tg (bindP p) p.ix) (ht : SimT g n tt dt) (he : SimE g n te de) (hv : ∀ i ∈ vs, i < n) (hp : ∀ i ∈ p.ix, i ∈ vs) :
    SimE g n (tLc wi tg tt te vs) (dLc vs di p dt de) := fun B F H σ ρ env Q w l pf E s => simLcAt (fun R h => hi B F H σ ρ env R w l pf E h) hg ht he hv hp w l pf E s
end Sim
namespace Sim
open PySem PySem.Spec PyProof.Rows L2

/-! ### one reading for every block -/
def tOf (g : G) (n : Nat) (de : DE) : TE := fun σ H Q => ∃ (B : Base) (F : Hp) (ρ : L2.St) (env : Env), Wd B F H ∧ σ.length = n ∧ σ <+: ρ ∧ EnvIs g B F H ρ env ∧
  Sat (de env) (fun r => ∀ (F' H' : Hp) (v : V) (ρ' : L2.St), Wd B F' H' → Ex F F' → ρ <+: ρ' → EnvIs g B F' H' ρ' r.2 → VIs g F' ρ' v r.1 → Q v H')
def ttOf (g : G) (n : Nat) (dt : DT) : TT := fun σ H Q => ∃ (B : Base) (F : Hp) (ρ : L2.St) (env : Env), Wd B F H ∧ σ.length = n ∧ σ <+: ρ ∧ EnvIs g B F H ρ env ∧
  Sat (dt env) (fun r => ∀ (F' H' : Hp) (ρ' : L2.St), Wd B F' H' → Ex F F' → ρ <+: ρ' → EnvIs g B F' H' ρ' r.2 → Q r.1 H')
def tgOf (g : G) (n : Nat) (p : Pat) : TG := fun v σ H Q => ∃ (B : Base) (F : Hp) (ρ : L2.St) (env : Env) (d : D), Wd B F H ∧ σ.length = n ∧ σ <+: ρ ∧ EnvIs g B F H ρ env ∧ Is g F v d ∧
  Sat (bindP p d env) (fun env' => ∀ (σ' ρ' : L2.St), σ'.length = n → σ' <+: ρ' → ρ'.length = ρ.length → (∀ j, j ∉ p.ix → σ'[j]? = σ[j]?) → (∀ j, j ∉ p.ix → ρ'[j]? = ρ[j]?) → EnvIs g B F H ρ' env' → Q σ' H)
theorem SE.canon {CT : CTab} {X : Cx} {e : Expr} {de : DE} (h : SE CT X e de) : PE X e (tOf (gX CT X) X.N.length de) := by
  obtain ⟨te, a, b⟩ := h
  exact ⟨fun pins s σ H Q I ⟨B, F, ρ, env, w, l, p, E, k⟩ => a.run pins s σ H Q I (b B F H σ ρ env Q w l p E k)⟩
theorem STs.canon {CT : CTab} {X : Cx} {e : List Expr} {dt : DT} (h : STs CT X e dt) : PTs X e (ttOf (gX CT X) X.N.length dt) := by
  obtain ⟨te, a, b⟩ := h
  exact ⟨fun pins s σ H Q I ⟨B, F, ρ, env, w, l, p, E, k⟩ => a.run pins s σ H Q I (b B F H σ ρ env Q w l p E k)⟩
theorem SG.canon {CT : CTab} {X : Cx} {e : Expr} {p : Pat} (h : SG CT X e p) : PG X e (tgOf (gX CT X) X.N.length p) := by
  obtain ⟨te, a, b⟩ := h
  exact ⟨fun pins s σ H v u Q I r ⟨B, F, ρ, env, d, w, l, p, E, i, k⟩ => a.run pins s σ H v u Q I r (b B F H σ ρ env v d Q w l p E i k)⟩
theorem se_lc {CT : CTab} {X : Cx} {elt tg iter : Expr} {ifs : List Expr} {scope : Scope} {own : List (Str × Nat)} {pos : Pos} {di : DI} {p : Pat} {dt : DT} {de : DE} (hc : X.calm = true) (hN : X.N.Nodup) (hi : SI CT X tg iter di) (ok : BlkOk X.N X.env.scope scope own)
    (hg : ∀ (s : Shared) (H : Hp) (C : Addr) (cl : List (Str × Addr)) (fp : List Addr), SG CT (X.blk s H scope (compEnvC scope cl C X.env) fp) tg p)
    (ht : ∀ (s : Shared) (H : Hp) (C : Addr) (cl : List (Str × Addr)) (fp : List Addr), STs CT (X.blk s H scope (compEnvC scope cl C X.env) fp) ifs dt)
    (he : ∀ (s : Shared) (H : Hp) (C : Addr) (cl : List (Str × Addr)) (fp : List Addr), SE CT (X.blk s H scope (compEnvC scope cl C X.env) fp) elt de)
    (hp : ∀ i ∈ p.ix, i ∈ own.map (·.2) := by decide) (hs : ∀ x, foldedSetIterable iter X.env x = pure x := by intro _; rfl) : SE CT X (.ListComp elt [⟨tg, iter, ifs, 0⟩] scope pos) (dLc (own.map (·.2)) di p dt de) := by
  obtain ⟨_, a1, b1⟩ := hi
  refine ⟨_, pe_lc (g := tgOf (gX CT X) X.N.length p) (tt := ttOf (gX CT X) X.N.length dt) (te := tOf (gX CT X) X.N.length de) hc hN a1 ok (fun s H C cl fp => (hg s H C cl fp).canon) (fun s H C cl fp => (ht s H C cl fp).canon) (fun s H C cl fp => (he s H C cl fp).canon) hs, simLc b1 (fun B F H σ ρ env v d Q w l p E i k => ?_) (fun B F H σ ρ env Q w l p E k => ?_) (fun B F H σ ρ env Q w l p E k => ?_) (fun i hi => ?_) hp⟩
  · exact ⟨B, F, ρ, env, d, w, l, p, E, i, k⟩
  · exact ⟨B, F, ρ, env, w, l, p, E, k⟩
  · exact ⟨B, F, ρ, env, w, l, p, E, k⟩
  · obtain ⟨q, hq, rfl⟩ := List.mem_map.mp hi
    exact (List.getElem?_eq_some_iff.mp (ok.ix q hq)).1
theorem ss_setLc {CT : CTab} {X : Cx} {i : Nat} {y : Str} {py : Pos} {elt tg iter : Expr} {ifs : List Expr} {scope : Scope} {own : List (Str × Nat)} {pos spos : Pos} {di : DI} {p : Pat} {dt : DT} {de : DE} (hc : X.calm = true) (hN : X.N.Nodup) (hy : X.N[i]? = some y) (hyl : X.env.scope.names.lookup y = some .local)
    (hsw : swapsWith (.ListComp elt [⟨tg, iter, ifs, 0⟩] scope pos) (some (.Name y py)) spos.line X.env = pure true) (hi : SI CT X tg iter di) (ok : BlkOk X.N X.env.scope scope own)
    (hg : ∀ (s : Shared) (H : Hp) (C : Addr) (cl : List (Str × Addr)) (fp : List Addr), SG CT (X.blk s H scope (compEnvC scope cl C X.env) fp) tg p)
    (ht : ∀ (s : Shared) (H : Hp) (C : Addr) (cl : List (Str × Addr)) (fp : List Addr), STs CT (X.blk s H scope (compEnvC scope cl C X.env) fp) ifs dt)
    (he : ∀ (s : Shared) (H : Hp) (C : Addr) (cl : List (Str × Addr)) (fp : List Addr), SE CT (X.blk s H scope (compEnvC scope cl C X.env) fp) elt de)
    (hp : ∀ i ∈ p.ix, i ∈ own.map (·.2) := by decide) (hs : ∀ x, foldedSetIterable iter X.env x = pure x := by intro _; rfl) : SS CT X (.Assign [.Name y py] (.ListComp elt [⟨tg, iter, ifs, 0⟩] scope pos) spos) (dAsg i (dLc (own.map (·.2)) di p dt de)) := by
  obtain ⟨_, a1, b1⟩ := hi
  refine ⟨_, ps_setLc (g := tgOf (gX CT X) X.N.length p) (tt := ttOf (gX CT X) X.N.length dt) (te := tOf (gX CT X) X.N.length de) hc hN hy hyl hsw a1 ok (fun s H C cl fp => (hg s H C cl fp).canon) (fun s H C cl fp => (ht s H C cl fp).canon) (fun s H C cl fp => (he s H C cl fp).canon) hs, simAsg (simLc b1 (fun B F H σ ρ env v d Q w l p E i k => ?_) (fun B F H σ ρ env Q w l p E k => ?_) (fun B F H σ ρ env Q w l p E k => ?_) (fun i hi => ?_) hp) (List.getElem?_eq_some_iff.mp hy).1⟩
  · exact ⟨B, F, ρ, env, d, w, l, p, E, i, k⟩
  · exact ⟨B, F, ρ, env, w, l, p, E, k⟩
  · exact ⟨B, F, ρ, env, w, l, p, E, k⟩
  · obtain ⟨q, hq, rfl⟩ := List.mem_map.mp hi
    exact (List.getElem?_eq_some_iff.mp (ok.ix q hq)).1

/-! ### what is walked -/
theorem PI.or {X : Cx} {tg e : Expr} {w1 w2 : TI} (h1 : PI X tg e w1) (h2 : PI X tg e w2) : PI X tg e (fun σ H R => w1 σ H R ∨ w2 σ H R) := ⟨fun pins s σ H R I h => by
  rcases h with h | h
  · exact h1.run pins s σ H R I h
  · exact h2.run pins s σ H R I h⟩
theorem PE.or {X : Cx} {e : Expr} {w1 w2 : TE} (h1 : PE X e w1) (h2 : PE X e w2) : PE X e (fun σ H R => w1 σ H R ∨ w2 σ H R) := ⟨fun pins s σ H R I h => by
  rcases h with h | h
  · exact h1.run pins s σ H R I h
  · exact h2.run pins s σ H R I h⟩
theorem wk_at {g : G} {L : List (Addr × HO)} {F : Hp} {J : It} {vs : List V} {ds : List D} {P : Hp → Prop} (il : IsL g F vs ds) (wk : Walk J vs.length P (YAt vs)) (hP : ∀ F' H, Ex F F' → Sub F' H → P H) : Wk g L J F ds := by
  refine ⟨⟨YAt vs, ?_, fun i H x H' y => ?_⟩⟩
  · rw [← il.len]
    exact wk.mono (fun H ⟨F', x, s, _⟩ => hP F' H x s) fun i H x H' hi q y => y
  · obtain ⟨rfl, e⟩ := y
    obtain ⟨d, ed, i⟩ := il.getV e
    exact ⟨d, ed, .inl ⟨rfl, i⟩⟩
/-- range(a), range(a, b) -/
def rngD (lo hi : Int) : List D := (List.range (hi - lo).toNat).map fun (i : Nat) => D.int (lo + (i : Int))
def okR (i : Int) : Bool := @decide (-(2 ^ 62) ≤ i ∧ i < 2 ^ 62) (Classical.propDecidable _)
theorem okR_of {i : Int} (h1 : -4611686018427387904 ≤ i) (h2 : i < 4611686018427387904) : okR i = true := @decide_eq_true _ (Classical.propDecidable _) ⟨h1, h2⟩
def diR1 (de : DE) : DI := fun env => (de env).bind fun r => match r.1 with
  | .val (.int j) => if okR j = true then some (rngD 0 j, r.2) else none
  | _ => none
theorem wk_rng {g : G} {L : List (Addr × HO)} {F : Hp} {lo hi : Int} : Wk g L (Itr lo (hi - lo).toNat) F (rngD lo hi) := by
  have ll : (rngD lo hi).length = (hi - lo).toNat := by unfold rngD; rw [List.length_map, List.length_range]
  refine ⟨⟨fun i H x H' => i < (hi - lo).toNat ∧ YFn (fun i => .int (lo + i)) i H x H', ?_, fun i H x H' y => ?_⟩⟩
  · rw [ll]
    exact walk_range.mono (fun _ _ => trivial) fun i H x H' hi _ y => ⟨hi, y⟩
  · obtain ⟨hi', rfl, rfl⟩ := y
    refine ⟨.int (lo + i), ?_, .inl ⟨rfl, .int _⟩⟩
    unfold rngD
    rw [List.getElem?_map, List.getElem?_range hi']
    rfl
theorem okR_iff {i : Int} (h : okR i = true) : -(2 ^ 62) ≤ i ∧ i < 2 ^ 62 := @of_decide_eq_true _ (Classical.propDecidable _) h
theorem si_range1 {CT : CTab} {X : Cx} {tg a : Expr} {da : DE} {p pos : Pos} (hg : Gl X "range") (hm : X.mg "range" = none) (h : SE CT X a da) (hs : starEach [a] X.env = [(false, eval a X.env)] := by rfl) : SI CT X tg (.Call (.Name "range" p) [a] [] pos) (diR1 da) := by
  obtain ⟨ta, x, y⟩ := h
  refine ⟨_, pi_range1 hg hm (pa_cons x pa_nil hs) hs, fun B F H σ ρ env R w l p E s => ?_⟩
  refine y B F H σ ρ env _ w l p E (s.bind.mono fun r sr F' H' v ρ' w' x' p' E' i => ?_)
  obtain ⟨vl, e1⟩ := r
  obtain ⟨q, eq, k⟩ := sr
  cases vl with
  | «at» z => cases eq
  | val d =>
    cases d with
    | int j =>
      change (if okR j = true then some (rngD 0 j, e1) else none) = some q at eq
      by_cases c : okR j = true
      · rw [if_pos c] at eq
        cases eq
        obtain ⟨h1, h2⟩ := okR_iff c
        cases i with
        | val i =>
          cases i
          refine ⟨j, rfl, h1, h2, k F' H' ρ' _ w' x' p' E' ?_⟩
          have := wk_rng (g := gX CT X) (L := B.L) (F := F') (lo := 0) (hi := j)
          rw [Int.sub_zero] at this
          exact this
      · rw [if_neg c] at eq
        cases eq
    | _ => cases eq
/-- a, b in enumerate(xs); in zip(xs, ys) -/
def enumD : Nat → List D → List D
  | _, [] => []
  | n, d :: ds => .tup [.int (n : Int), d] :: enumD (n + 1) ds
theorem enumD_get : ∀ (ds : List D) (n i : Nat), (enumD n ds)[i]? = (ds[i]?).map fun d => .tup [.int ((n + i : Nat) : Int), d]
  | [], _, _ => by simp [enumD]
  | d :: ds, n, 0 => rfl
  | d :: ds, n, i + 1 => by
    show (enumD (n + 1) ds)[i]? = _
    rw [enumD_get ds (n + 1) i, show n + 1 + i = n + (i + 1) by omega]
    rfl
theorem enumD_len : ∀ (ds : List D) (n : Nat), (enumD n ds).length = ds.length
  | [], _ => rfl
  | d :: ds, n => congrArg (· + 1) (enumD_len ds (n + 1))
theorem wk_pair {g : G} {L : List (Addr × HO)} {F : Hp} {J : It} {n : Nat} {P : Hp → Prop} {xs ys : Nat → Option V} {ds : List D} (hn : ds.length = n) (wk : Walk J n P (YPair xs ys)) (hP : ∀ F' H, Ex F F' → Sub F' H → P H)
    (hd : ∀ i x y, xs i = some x → ys i = some y → ∃ d e, ds[i]? = some (.tup [d, e]) ∧ Is g F x d ∧ Is g F y e) : Wk g L J F ds := by
  refine ⟨⟨YPair xs ys, ?_, fun i H x H' y => ?_⟩⟩
  · rw [hn]
    exact wk.mono (fun H ⟨F', x, s, _⟩ => hP F' H x s) fun i H x H' hi q y => y
  · obtain ⟨T, x1, x2, rfl, nT, rfl, h1, h2⟩ := y
    obtain ⟨d, e, h3, i1, i2⟩ := hd i x1 x2 h1 h2
    exact ⟨_, h3, .inr ⟨T, _, _, rfl, nT, rfl, rfl, .cons i1 (.cons i2 .nil)⟩⟩
end Sim
namespace Sim
open PySem PySem.Spec PyProof.Rows L2

/-! ### defs: pure ones, and those that change their first argument -/
inductive Rv where
  | val (d : D) | new (o : Ob)
def RvIs (g : G) (F H F' H' : Hp) (v : V) : Rv → Prop
  | .val d => Is g F' v d
  | .new o => ∃ (a : Addr) (ho : HO), v = .ref a ∧ H a = none ∧ F' a = none ∧ H' a = some ho ∧ ObIs g F' ho o
abbrev DFp := List D → Option Rv
abbrev DFm := Ob → List D → Option (Rv × Ob)
def spP (g : G) (df : DFp) : Sp := fun vs H Q _ => ∃ (F : Hp) (ds : List D) (L : List (Addr × HO)), Sub F H ∧ (∀ p ∈ L, H p.1 = some p.2 ∧ F p.1 ≠ none) ∧ IsL g F vs ds ∧
  Sat (df ds) (fun r => ∀ (F' H' : Hp) (v : V), Wd ⟨H, F, none, L⟩ F' H' → RvIs g F H F' H' v r → Q v H')
def spM (g : G) (df : DFm) : Sp := fun vs H Q _ => ∃ (F : Hp) (a : Addr) (ho : HO) (o : Ob) (us : List V) (ds : List D) (L : List (Addr × HO)), vs = .ref a :: us ∧ Sub F H ∧ (∀ p ∈ L, H p.1 = some p.2 ∧ F p.1 ≠ none) ∧ F a = none ∧ H a = some ho ∧ ObIs g F ho o ∧ IsL g F us ds ∧
  Sat (df o ds) (fun r => ∀ (F' H' : Hp) (v : V) (h1 : HO), Wd ⟨H, F, some a, L⟩ F' H' → H' a = some h1 → ObIs g F' h1 r.2 → RvIs g F H F' H' v r.1 → Q v H')
def finR (env : Env) : Rv → Vl × Env
  | .val d => (.val d, env)
  | .new o => (.at env.length, env ++ [some (.own false o)])
def dCallP (df : DFp) (da : DA) : DE := fun env => (da env).bind fun r => (forces r.1 r.2).bind fun q => (df q.1).bind fun rv => some (finR q.2 rv)
def ownAt (env : Env) (j : Nat) : Option (Bool × Ob) := match env[j]? with
  | some (some (.own p o)) => some (p, o)
  | _ => none
theorem ownAt_eq {env : Env} {j : Nat} {p : Bool} {o : Ob} (h : ownAt env j = some (p, o)) : env[j]? = some (some (.own p o)) := by
  unfold ownAt at h
  split at h
  · cases h; assumption
  · cases h
def atOf : Vl → Option Nat
  | .at j => some j
  | _ => none
def dCallM (df : DFm) (d0 : DE) (da : DA) : DE := fun env => (d0 env).bind fun r0 => (atOf r0.1).bind fun j => (da r0.2).bind fun r => (forces r.1 r.2).bind fun q => (ownAt q.2 j).bind fun po => (df po.2 q.1).bind fun rv => some (finR (q.2.set j (some (.own po.1 rv.2))) rv.1)
section
variable {g : G} {B : Base} {F F' H H' : Hp} {σ ρ : L2.St} {env : Env}
theorem EnvIs.lent (E : EnvIs g B F H ρ env) {j : Nat} {p : Bool} {o o' : Ob} {a : Addr} {h1 : HO} (e : env[j]? = some (some (.own p o))) (ea : ρ[j]? = some (some (.ref a))) (x : Ex F F') (k : ∀ b ho, b ≠ a → F b = none → H b = some ho → F' b = none ∧ H' b = some ho)
    (n : F' a = none) (h : H' a = some h1) (r : ObIs g F' h1 o') : EnvIs g B F' H' ρ (env.set j (some (.own p o'))) := by
  obtain ⟨a', h0, ea', _, m, _, _⟩ := E.own e
  obtain rfl : a' = a := by rw [ea] at ea'; cases ea'; rfl
  have hj : j < env.length := (List.getElem?_eq_some_iff.mp e).1
  have bk : ∀ (i : Nat) (p1 : Bool) (o1 : Ob), (env.set j (some (Sl.own p o')))[i]? = some (some (.own p1 o1)) → ∃ p2 o2, env[i]? = some (some (.own p2 o2)) := fun i p1 o1 q => by
    rw [List.getElem?_set] at q
    by_cases c : j = i
    · subst c
      exact ⟨_, _, e⟩
    · rw [if_neg c] at q
      exact ⟨_, _, q⟩
  refine ⟨by rw [List.length_set]; exact E.len, fun i s q => ?_, fun i k b p1 p2 o1 o2 e1 e2 s1 s2 => ?_⟩
  · rw [List.getElem?_set] at q
    by_cases c : j = i
    · subst c
      rw [if_pos rfl, if_pos hj] at q
      cases q
      exact ⟨_, ea, .own n m h r⟩
    · rw [if_neg c] at q
      obtain ⟨v, y, z⟩ := E.sl i s q
      refine ⟨v, y, ?_⟩
      cases z with
      | val z => exact .val (z.mono x)
      | @own b p2 o2 ho2 n2 m2 h2 r2 =>
        have ne : b ≠ a' := fun z => by
          subst z
          exact c (E.dis j i _ p p2 o o2 e q ea y)
        exact .own (k b ho2 ne n2 h2).1 m2 (k b ho2 ne n2 h2).2 (r2.mono x)
  · obtain ⟨_, _, e1⟩ := bk i p1 o1 e1
    obtain ⟨_, _, e2⟩ := bk k p2 o2 e2
    exact E.dis i k b _ _ _ _ e1 e2 s1 s2
/-- a callee's result comes home -/
theorem finR_ok {Q : VK} {H0 F0 : Hp} (w : Wd B F' H') (E : EnvIs g B F' H' ρ env) {v : V} {rv : Rv} (nB : ∀ a, H a = none → B.H a = none) (no : ∀ a, H a = none → NoOwn ρ env a) (r : RvIs g F H F' H' v rv)
    (k : ∀ (ρ' : L2.St), ρ <+: ρ' → EnvIs g B F' H' ρ' (finR env rv).2 → VIs g F' ρ' v (finR env rv).1 → Q v H') : Q v H' := by
  cases rv with
  | val d => exact k ρ List.prefix_rfl E (.val r)
  | new o =>
    obtain ⟨a, ho, rfl, n, nf, h, i⟩ := r
    refine k _ (List.prefix_append _ _) (E.pushO nf (nB a n) h (no a n) i) (.at ?_)
    rw [← E.len]
    simp
theorem simCallP {n : Nat} {df : DFp} {ta : TA} {da : DA} {X : XK} (h : SimA g n ta da) : SimE g n (tCall (spP g df) [] X ta) (dCallP df da) := fun B F H σ ρ env Q w l p E s => by
  refine h B F H σ ρ env _ w l p E (s.bind.mono fun r sr F1 H1 vs ρ1 w1 x1 p1 E1 i1 => ?_)
  obtain ⟨q, eq, s2⟩ := sr.bind
  obtain ⟨F2, w2, x2, E2, i2⟩ := forces_ok w1 E1 i1 eq
  show spP g df (vs ++ []) H1 Q X
  rw [List.append_nil]
  refine ⟨F2, q.1, B.L, w2.sub, w2.lk, i2, s2.bind.mono fun rv sv F3 H3 v w3 iv => ?_⟩
  obtain ⟨z, ez, k⟩ := sv
  cases ez
  have w4 : Wd B F3 H3 := w2.after (A' := none) (fun a e => nomatch e) w3
  have E4 : EnvIs g B F3 H3 ρ1 q.2 := E2.step w3.ex0 fun a ho nf hh => ⟨(w3.fr a (by show H1 a ≠ none; rw [hh]; exact fun z => nomatch z)).trans nf, w3.keep a ho hh (fun z => nomatch z) nf⟩
  refine finR_ok (H0 := H1) (F0 := F2) w4 E4 (fun a n => w2.nB n) (fun a n j pp u e z => ?_) iv fun ρ' p' E' i' => k F3 H3 v ρ' w4 ((x1.trans x2).trans w3.ex0) (p1.trans p') E' i'
  obtain ⟨b, hb, y, _, _, yy, _⟩ := E2.own e
  rw [z] at y
  cases y
  rw [n] at yy
  cases yy
theorem simCallM {n : Nat} {df : DFm} {t0 : TE} {d0 : DE} {ta : TA} {da : DA} {X : XK} (h0 : SimE g n t0 d0) (h : SimA g n ta da) : SimE g n (tCall (spM g df) [] X (tCons t0 ta)) (dCallM df d0 da) := fun B F H σ ρ env Q w l p E s => by
  refine h0 B F H σ ρ env _ w l p E (s.bind.mono fun r0 s0 F0 H0 v0 ρ0 w0 x0 p0 E0 i0 => ?_)
  obtain ⟨j, ej, s1⟩ := s0.bind
  refine h B F0 H0 σ ρ0 r0.2 _ w0 l (p.trans p0) E0 (s1.bind.mono fun r sr F1 H1 vs ρ1 w1 x1 p1 E1 i1 => ?_)
  obtain ⟨q, eq, s2⟩ := sr.bind
  obtain ⟨F2, w2, x2, E2, i2⟩ := forces_ok w1 E1 i1 eq
  obtain ⟨po, eo, s3⟩ := s2.bind
  obtain ⟨pp, o⟩ := po
  have eo' := ownAt_eq eo
  obtain ⟨a, ho, ea, nf, mm, hh, ro⟩ := E2.own eo'
  have ev : v0 = .ref a := by
    obtain ⟨vl, e0⟩ := r0
    cases vl with
    | val d => cases ej
    | «at» j' =>
      cases ej
      have i0' := i0.mono (x1.trans x2) p1
      cases i0' with
      | «at» i0' => rw [ea] at i0'; cases i0'; rfl
  subst ev
  show spM g df ((V.ref a :: vs) ++ []) H1 Q X
  rw [List.append_nil]
  refine ⟨F2, a, ho, o, vs, q.1, B.L, rfl, w2.sub, w2.lk, nf, hh, ro, i2, s3.bind.mono fun rv sv F3 H3 v h1 w3 e3 r3 iv => ?_⟩
  obtain ⟨z, ez, k⟩ := sv
  cases ez
  have w4 : Wd B F3 H3 := w2.after (A' := some a) (fun b e => by cases e; exact ⟨nf, pp, mm⟩) w3
  have nf3 : F3 a = none := (w3.fr a (by show H1 a ≠ none; rw [hh]; exact fun z => nomatch z)).trans nf
  have E4 : EnvIs g B F3 H3 ρ1 (q.2.set j (some (.own pp rv.2))) := E2.lent eo' ea w3.ex0 (fun b ho ne nb hb => ⟨(w3.fr b (by show H1 b ≠ none; rw [hb]; exact fun z => nomatch z)).trans nb, w3.keep b ho hb (fun z => by cases z; exact ne rfl) nb⟩) nf3 e3 r3
  refine finR_ok (H0 := H1) (F0 := F2) w4 E4 (fun a n => w2.nB n) (fun b n i p1 u e z => ?_) iv fun ρ' p' E' i' => k F3 H3 v ρ' w4 (((x0.trans x1).trans x2).trans w3.ex0) ((p0.trans p1).trans p') E' i'
  rw [List.getElem?_set] at e
  by_cases c : j = i
  · subst c
    rw [ea] at z
    cases z
    rw [n] at hh
    cases hh
  · rw [if_neg c] at e
    obtain ⟨b', hb, y, _, _, yy, _⟩ := E2.own e
    rw [z] at y
    cases y
    rw [n] at yy
    cases yy
end

/-! ### calls by name -/
structure CalP (CT : CTab) (P : Program) (w : World) (K : PySem.W.Frag) (mg : Str → Option Value) (base : Heap) (k : Nat) (x : Str) (df : DFp) : Prop where
  ex : ∃ (f : Addr) (fd : FuncData) (ps : List Str), FnOk P w K mg base CX0 k f fd ps (spP ⟨K, mg, CT⟩ df) ∧ mg x = some (.ref f) ∧ PySem.W.keepIn K (.ref f) = true ∧ Binds K fd ps []
structure CalM (CT : CTab) (P : Program) (w : World) (K : PySem.W.Frag) (mg : Str → Option Value) (base : Heap) (k : Nat) (x : Str) (df : DFm) : Prop where
  ex : ∃ (f : Addr) (fd : FuncData) (ps : List Str), FnOk P w K mg base CX0 k f fd ps (spM ⟨K, mg, CT⟩ df) ∧ mg x = some (.ref f) ∧ PySem.W.keepIn K (.ref f) = true ∧ Binds K fd ps []
structure MakM (CT : CTab) (P : Program) (w : World) (K : PySem.W.Frag) (mg : Str → Option Value) (base : Heap) (k : Nat) (x : Str) (c : Nat) (df : DFm) : Prop where
  ex : ∃ (C f : Addr) (fd : FuncData) (ps : List Str), Mk K C f ∧ FnOk P w K mg base CX0 k f fd ps (spM ⟨K, mg, CT⟩ df) ∧ mg x = some (.ref C) ∧ (CT c).1 = x ∧ Binds K fd ps []
section
variable {CT : CTab} {X : Cx} {k j : Nat} {x : Str} {e : Expr} {es : List Expr} {p pos : Pos} {da : DA} {d0 : DE}
theorem se_callP {df : DFp} (c : CalP CT X.prog X.w X.K X.mg X.base k x df) (hr : Room j X.A) (hk : k ≤ j) (hg : Gl X x) (ha : SA CT X (e :: es) da) (hdb : (x == ("__debug__" : Str)) = false := by decide)
    (he : starEach (e :: es) X.env = (false, eval e X.env) :: starEach es X.env := by rfl) (hpl : (backTo pos (starEach es X.env)).any (·.1) = false := by rfl) : SE CT X (.Call (.Name x p) (e :: es) [] pos) (dCallP df da) := by
  obtain ⟨f, fd, ps, F, hm, kp, b⟩ := c.ex
  obtain ⟨_, a1, b1⟩ := ha
  exact ⟨_, pe_call F (hr.mono hk) hg hm kp b .nil pass0 a1 hdb he hpl, simCallP b1⟩
theorem se_callM {df : DFm} (c : CalM CT X.prog X.w X.K X.mg X.base k x df) (hr : Room j X.A) (hk : k ≤ j) (hg : Gl X x) (h0 : SE CT X e d0) (ha : SA CT X es da) (hdb : (x == ("__debug__" : Str)) = false := by decide)
    (he : starEach (e :: es) X.env = (false, eval e X.env) :: starEach es X.env := by rfl) (hpl : (backTo pos (starEach es X.env)).any (·.1) = false := by rfl) : SE CT X (.Call (.Name x p) (e :: es) [] pos) (dCallM df d0 da) := by
  obtain ⟨f, fd, ps, F, hm, kp, b⟩ := c.ex
  obtain ⟨_, a0, b0⟩ := h0
  obtain ⟨_, a1, b1⟩ := ha
  exact ⟨_, pe_call F (hr.mono hk) hg hm kp b .nil pass0 (pa_cons a0 a1 he) hdb he hpl, simCallM b0 b1⟩
end

/-! ### a def by its body -/
def rvOf (l : Vl) (env : Env) : Option Rv := match l with
  | .val d => some (.val d)
  | .at j => match env[j]? with
    | some (some (.val d)) => some (.val d)
    | some (some (.own false o)) => some (.new o)
    | _ => none
def defP (np nn : Nat) (body : DS) : DFp := fun ds => if ds.length = np then (body (ds.map (fun d => some (.val d)) ++ List.replicate (nn - np) none)).bind fun o => match o with
  | .nx _ => some (.val .non)
  | .rt l e => rvOf l e
  | _ => none
  else none
def own0 (env : Env) : Option Ob := match env[0]? with
  | some (some (Sl.own true o)) => some o
  | _ => none
def defM (np nn : Nat) (body : DS) : DFm := fun o ds => if ds.length + 1 = np then (body (some (.own true o) :: ds.map (fun d => some (.val d)) ++ List.replicate (nn - np) none)).bind fun r => match r with
  | .nx e => (own0 e).bind fun o => some (.val .non, o)
  | .rt l e => (rvOf l e).bind fun v => (own0 e).bind fun o => some (v, o)
  | _ => none
  else none
theorem sat_if {α : Type} {c : Prop} [Decidable c] {x : Option α} {p : α → Prop} (h : Sat (if c then x else none) p) : c ∧ Sat x p := by
  by_cases q : c
  · rw [if_pos q] at h; exact ⟨q, h⟩
  · rw [if_neg q] at h; obtain ⟨_, z, _⟩ := h; cases z
theorem env_start {g : G} {B : Base} {F H : Hp} {n : Nat} : ∀ {vs : List V} {ds : List D}, IsL g F vs ds → EnvIs g B F H (vs.map some ++ List.replicate n none) (ds.map (fun d => some (Sl.val d)) ++ List.replicate n none) := by
  intro vs ds il
  have vals : ∀ (i : Nat) (s : Sl), (ds.map (fun d => some (Sl.val d)) ++ List.replicate n none)[i]? = some (some s) → ∃ d, ds[i]? = some d ∧ s = .val d := fun i s e => by
    rw [List.getElem?_append] at e
    by_cases c : i < (ds.map (fun d => some (Sl.val d))).length
    · rw [if_pos c, List.getElem?_map] at e
      cases q : ds[i]? with
      | none => rw [q] at e; cases e
      | some d => rw [q] at e; cases e; exact ⟨d, rfl, rfl⟩
    · rw [if_neg c, List.getElem?_replicate] at e
      split at e <;> cases e
  refine ⟨by simp [il.len], fun i s e => ?_, fun i j a p q o u e1 => ?_⟩
  · obtain ⟨d, h1, rfl⟩ := vals i s e
    obtain ⟨v, h2, i2⟩ := il.get h1
    refine ⟨v, ?_, .val i2⟩
    rw [List.getElem?_append_left (by rw [List.length_map]; exact (List.getElem?_eq_some_iff.mp h2).1), List.getElem?_map, h2]
    rfl
  · obtain ⟨_, _, z⟩ := vals i _ e1
    cases z
theorem rvOf_ok {g : G} {H F : Hp} {A : Option Addr} {L : List (Addr × HO)} {F' H' : Hp} {ρ : L2.St} {env : Env} {v : V} {l : Vl} {rv : Rv} (E : EnvIs g ⟨H, F, A, L⟩ F' H' ρ env) (i : VIs g F' ρ v l) (e : rvOf l env = some rv) : RvIs g F H F' H' v rv := by
  cases i with
  | val i => cases e; exact i
  | @«at» j q =>
    change (match env[j]? with | some (some (Sl.val d)) => some (Rv.val d) | some (some (Sl.own false o)) => some (Rv.new o) | _ => none) = some rv at e
    cases x : env[j]? with
    | none => rw [x] at e; cases e
    | some s =>
      rw [x] at e
      cases s with
      | none => cases e
      | some s =>
        cases s with
        | val d =>
          cases e
          obtain ⟨u, a, b⟩ := E.val x
          rw [q] at a
          cases a
          exact b
        | own p o =>
          cases p with
          | true => cases e
          | false =>
            cases e
            obtain ⟨a, ho, y, n, m, h, r⟩ := E.own x
            rw [q] at y
            cases y
            unfold Mine at m
            rw [if_neg Bool.false_ne_true] at m
            exact ⟨a, ho, rfl, m, n, h, r⟩
section
variable {CT : CTab} {P : Program} {w : World} {K : PySem.W.Frag} {mg : Str → Option Value} {base : Heap}
/-- every body of this def -/
def Body (CT : CTab) (P : Program) (w : World) (K : PySem.W.Frag) (mg : Str → Option Value) (base : Heap) (N : List Str) (qual : Str) (st : Stmt) (f : Addr) (k : Nat) (body : DS) : Prop :=
  ∀ (cdv : Value) (A : Around) (outer : List PySem.Env) (s : Shared) (H : Hp) (E : XK), Room k (A.deeper (envOfC qual (defScope st) s.heap.objs.size f cdv)) →
    SSs CT (cxOf CX0 P w K mg base N qual (defScope st) f cdv A outer s H E).nox (defBody st) body
theorem start_eq {N : List Str} {vs : List V} {np : Nat} (h : vs.length = np) : L2.start N vs = vs.map some ++ List.replicate (N.length - np) none := by
  unfold L2.start
  rw [h]
theorem fnP {x qual : Str} {st : Stmt} {f : Addr} {fd : FuncData} {N ps : List Str} {k : Nat} {body : DS} (Fn : Fun K x qual st f fd) (S : FnScope N ps (defScope st)) (hn : ps.length ≤ N.length)
    (hb : Body CT P w K mg base N qual st f k body) : FnOk P w K mg base CX0 (k + 1) f fd ps (spP ⟨K, mg, CT⟩ (defP ps.length N.length body)) := by
  refine Fn.ok S (fun vs H Q E h => ?_) (fun cdv A outer s H vs Q E hr h => ?_)
  · obtain ⟨F, ds, L, _, _, il, sa⟩ := h
    rw [il.len]
    exact (sat_if sa).1
  · obtain ⟨F, ds, L, hs, hl, il, sa⟩ := h
    obtain ⟨hlen, sa⟩ := sat_if sa
    obtain ⟨ts, a, b⟩ := hb cdv A outer s H E hr
    refine ⟨ts, a, ?_⟩
    rw [start_eq (il.len.trans hlen)]
    have w0 : Wd ⟨H, F, none, L⟩ F H := Wd.start hs hl (fun a e => nomatch e)
    refine b ⟨H, F, none, L⟩ F H _ _ _ w0 ?_ (env_start il) (sa.bind.mono fun o so => ?_)
    · rw [List.length_append, List.length_map, List.length_replicate, il.len, hlen]
      show ps.length + (N.length - ps.length) = N.length
      omega
    · cases o with
      | nx e =>
        obtain ⟨_, z, k⟩ := so
        cases z
        exact fun F' H' σ' w' x' l' E' => k F' H' .non w' .non
      | rt l e =>
        obtain ⟨rv, z, k⟩ := so
        exact fun F' H' v ρ' w' x' E' i' => k F' H' v w' (rvOf_ok E' i' z)
      | bk e => obtain ⟨_, z, _⟩ := so; cases z
      | ct e => obtain ⟨_, z, _⟩ := so; cases z
      | xc c xs e => obtain ⟨_, z, _⟩ := so; cases z
theorem own0_ok {g : G} {H F : Hp} {a : Addr} {L : List (Addr × HO)} {F' H' : Hp} {ρ : L2.St} {env : Env} {o : Ob} (E : EnvIs g ⟨H, F, some a, L⟩ F' H' ρ env) (e : own0 env = some o) : ∃ ho, H' a = some ho ∧ ObIs g F' ho o := by
  unfold own0 at e
  split at e
  · rename_i o' q
    cases e
    obtain ⟨b, ho, y, n, m, h, r⟩ := E.own q
    unfold Mine at m
    rw [if_pos rfl] at m
    cases m
    exact ⟨ho, h, r⟩
  · cases e
theorem env_startM {g : G} {F H : Hp} {a : Addr} {ho : HO} {o : Ob} {L : List (Addr × HO)} {n : Nat} {vs : List V} {ds : List D} (il : IsL g F vs ds) (nf : F a = none) (hh : H a = some ho) (ro : ObIs g F ho o) :
    EnvIs g ⟨H, F, some a, L⟩ F H (some (.ref a) :: vs.map some ++ List.replicate n none) (some (.own true o) :: ds.map (fun d => some (Sl.val d)) ++ List.replicate n none) := by
  have E := env_start (g := g) (B := ⟨H, F, some a, L⟩) (F := F) (H := H) (n := n) il
  refine ⟨by simp [il.len], fun i s e => ?_, fun i j b p q o1 u e1 e2 s1 s2 => ?_⟩
  · cases i with
    | zero =>
      cases e
      exact ⟨_, rfl, .own nf (by unfold Mine; rw [if_pos rfl]) hh ro⟩
    | succ i => exact E.sl i s e
  · cases i with
    | zero =>
      cases j with
      | zero => rfl
      | succ j =>
        exfalso
        obtain ⟨v, y, z⟩ := E.sl j _ e2
        cases z with
        | own n2 m2 h2 r2 =>
          have e3 : (ds.map (fun d => some (Sl.val d)) ++ List.replicate n none)[j]? = some (some (.own q u)) := e2
          rw [List.getElem?_append] at e3
          split at e3
          · rw [List.getElem?_map] at e3
            cases qq : ds[j]? with
            | none => rw [qq] at e3; cases e3
            | some d => rw [qq] at e3; cases e3
          · rw [List.getElem?_replicate] at e3
            split at e3 <;> cases e3
    | succ i =>
      exfalso
      have e3 : (ds.map (fun d => some (Sl.val d)) ++ List.replicate n none)[i]? = some (some (.own p o1)) := e1
      rw [List.getElem?_append] at e3
      split at e3
      · rw [List.getElem?_map] at e3
        cases qq : ds[i]? with
        | none => rw [qq] at e3; cases e3
        | some d => rw [qq] at e3; cases e3
      · rw [List.getElem?_replicate] at e3
        split at e3 <;> cases e3
theorem fnM {x qual : Str} {st : Stmt} {f : Addr} {fd : FuncData} {N ps : List Str} {k : Nat} {body : DS} (Fn : Fun K x qual st f fd) (S : FnScope N ps (defScope st)) (hn : ps.length ≤ N.length)
    (hb : Body CT P w K mg base N qual st f k body) : FnOk P w K mg base CX0 (k + 1) f fd ps (spM ⟨K, mg, CT⟩ (defM ps.length N.length body)) := by
  refine Fn.ok S (fun vs H Q E h => ?_) (fun cdv A outer s H vs Q E hr h => ?_)
  · obtain ⟨F, a, ho, o, us, ds, L, rfl, _, _, _, _, _, il, sa⟩ := h
    rw [List.length_cons, il.len]
    exact (sat_if sa).1
  · obtain ⟨F, a, ho, o, us, ds, L, rfl, hs, hl, nf, hh, ro, il, sa⟩ := h
    obtain ⟨hlen, sa⟩ := sat_if sa
    obtain ⟨ts, x1, b⟩ := hb cdv A outer s H E hr
    refine ⟨ts, x1, ?_⟩
    rw [start_eq (np := ps.length) (by rw [List.length_cons, il.len]; exact hlen)]
    have w0 : Wd ⟨H, F, some a, L⟩ F H := Wd.start hs hl (fun b e => by cases e; rw [hh]; exact fun z => nomatch z)
    refine b ⟨H, F, some a, L⟩ F H _ _ _ w0 ?_ (env_startM il nf hh ro) (sa.bind.mono fun o so => ?_)
    · show (some (V.ref a) :: us.map some ++ _).length = N.length
      rw [List.length_append, List.length_cons, List.length_map, List.length_replicate, il.len]
      omega
    · cases o with
      | nx e =>
        obtain ⟨o1, q1, q2⟩ := so.bind
        obtain ⟨_, z, k⟩ := q2
        cases z
        exact fun F' H' σ' w' x' l' E' => by
          obtain ⟨h1, e1, r1⟩ := own0_ok E' q1
          exact k F' H' .non h1 w' e1 r1 .non
      | rt l e =>
        obtain ⟨rv, q1, q2⟩ := so.bind
        obtain ⟨o1, q3, q4⟩ := q2.bind
        obtain ⟨_, z, k⟩ := q4
        cases z
        exact fun F' H' v ρ' w' x' E' i' => by
          obtain ⟨h1, e1, r1⟩ := own0_ok E' q3
          exact k F' H' v h1 w' e1 r1 (rvOf_ok E' i' q1)
      | bk e => obtain ⟨_, z, _⟩ := so; cases z
      | ct e => obtain ⟨_, z, _⟩ := so; cases z
      | xc c xs e => obtain ⟨_, z, _⟩ := so; cases z
end
end Sim
namespace Sim
open PySem PySem.Spec PyProof.Rows L2

/-! ### views -/
section
variable {g : G} {F H : Hp} {v : V}
theorem viewN (h : View g F H v .non) : v = .non := by
  generalize e : D.non = d at h
  cases h with
  | is q => subst e; cases q; rfl
  | own n hh r => cases r <;> cases e
theorem viewB {b : Bool} (h : View g F H v (.bl b)) : v = .bl b := by
  generalize e : D.bl b = d at h
  cases h with
  | is q => subst e; cases q; rfl
  | own n hh r => cases r <;> cases e
theorem viewI {i : Int} (h : View g F H v (.int i)) : v = .int i := by
  generalize e : D.int i = d at h
  cases h with
  | is q => subst e; cases q; rfl
  | own n hh r => cases r <;> cases e
theorem viewS {x : Str} (h : View g F H v (.str x)) : v = .str x := by
  generalize e : D.str x = d at h
  cases h with
  | is q => subst e; cases q; rfl
  | own n hh r => cases r <;> cases e
theorem viewL (s : Sub F H) {ds : List D} (h : View g F H v (.lst ds)) : ∃ a vs, v = .ref a ∧ SqL g.K H a vs ∧ IsL g F vs ds := by
  generalize e : D.lst ds = d at h
  cases h with
  | is i => subst e; cases i with
    | lst h l => exact ⟨_, _, rfl, sqL_sub s h, l⟩
  | own n hh r => cases r with
    | lst l => cases e; exact ⟨_, _, rfl, .of hh, l⟩
    | dic l => cases e
    | obj m l z => cases e
theorem viewT (s : Sub F H) {ds : List D} (h : View g F H v (.tup ds)) : ∃ a vs, v = .ref a ∧ SqT g.K H a vs ∧ IsL g F vs ds := by
  generalize e : D.tup ds = d at h
  cases h with
  | is i => subst e; cases i with
    | tup h l => exact ⟨_, _, rfl, sqT_sub s h, l⟩
  | own n hh r => cases r <;> cases e
theorem viewD (s : Sub F H) {ds : List (Key × D)} (h : View g F H v (.dic ds)) : ∃ a vs, v = .ref a ∧ Rd H a (.dK vs) ∧ IsK g F vs ds := by
  generalize e : D.dic ds = d at h
  cases h with
  | is i => subst e; cases i with
    | dic h l => exact ⟨_, _, rfl, s.rd h, l⟩
  | own n hh r => cases r with
    | dic l => cases e; exact ⟨_, _, rfl, .inl hh, l⟩
    | lst l => cases e
    | obj m l z => cases e
theorem viewO (s : Sub F H) {c : Nat} {ds : List D} (h : View g F H v (.ins c ds)) : ∃ a C dx vs, v = .ref a ∧ g.mg (g.CT c).1 = some (.ref C) ∧ H a = some (.ins C dx (zipF (g.CT c).2 vs)) ∧ IsL g F vs ds ∧ vs.length ≤ (g.CT c).2.length := by
  generalize e : D.ins c ds = d at h
  cases h with
  | is i => subst e; cases i with
    | ins m h l z => exact ⟨_, _, _, _, rfl, m, s.ins h, l, z⟩
  | own n hh r => cases r with
    | obj m l z => cases e; exact ⟨_, _, _, _, rfl, m, hh, l, z⟩
    | lst l => cases e
    | dic l => cases e
end
theorem sat_some {α : Type} {a : α} {p : α → Prop} (h : Sat (some a) p) : p a := by
  obtain ⟨_, e, k⟩ := h
  cases e
  exact k
theorem sat_none {α : Type} {p : α → Prop} (h : Sat (none : Option α) p) : False := by
  obtain ⟨_, e, _⟩ := h
  cases e

/-! ### + -/
def rCatW (K : PySem.W.Frag) : R2 := fun x y H Q => ∃ l b xs zs, x = .ref l ∧ y = .ref b ∧ SqL K H l xs ∧ SqL K H b zs ∧ xs.length + zs.length ≤ sizeLine ∧ ∀ p, H p = none → Q (.ref p) (upd H p (.lst (xs ++ zs)))
theorem op_catW {X : Cx} : OpR X (binaryOp .Add) (rCatW X.K) := by
  intro pins s σ H x y v u Q I rx ry h
  obtain ⟨l, b, xs, zs, rfl, rfl, hH, hB, hz, q⟩ := h
  cases rx
  cases ry
  obtain ⟨its, r, p1, _⟩ := I.list hH
  obtain ⟨its2, r2, p2, _⟩ := I.list hB
  obtain ⟨⟨cls, dd, data, sl⟩, n, ho, hc, hdn, hd⟩ := p1
  obtain ⟨⟨cls2, dd2, data2, sl2⟩, n2, ho2, hc2, hdn2, hd2⟩ := p2
  simp only at hc hd hc2 hd2
  subst hc hd hc2 hd2
  have l1 := r.length
  have l2 := r2.length
  have e : its.toArray ++ its2.toArray = (its ++ its2).toArray := by simp
  refine concat_meets ⟨_, ho, rfl⟩ ⟨_, ho2, rfl⟩ noFill_list_add seq_list_add PySem.F.slot_list_add PySem.F.entry_list_add (PySem.F.args_list_add_2 _ _) (list_addW l b its.toArray its2.toArray n n2 dd dd2 sl sl2 (by simp; omega)) ⟨ho, ho2, ?_⟩
  rw [e]
  exact ⟨.ref _, _, I.lnew (t' := s.toks) (r.append r2) (by rw [List.length_append]; omega), rfl, q _ I.fresh⟩
def dAdd : D → D → Option Rs
  | .int i, .int j => some (.val (.int (i + j)))
  | .str x, .str y => if x.length + y.length ≤ LIM then some (.val (.str (x ++ y))) else none
  | .lst x, .lst y => if x.length + y.length ≤ LIM then some (.new (.lst (x ++ y))) else none
  | _, _ => none
def rAddD (K : PySem.W.Frag) : R2 := fun x y H Q => (rI0 fun i j => .int (i + j)) x y H Q ∨ (∃ i j, x = .str i ∧ y = .str j ∧ i.length + j.length ≤ sizeLine ∧ Q (.str (i ++ j)) H) ∨ rCatW K x y H Q
theorem op_addD {X : Cx} : OpR X (binaryOp .Add) (rAddD X.K) := op_add.or (op_add_str.or op_catW)
theorem sem_add {g : G} : Op2 g (rAddD g.K) dAdd := fun F H x y dx dy Q s hx hy sa => by
  cases dx <;> cases dy <;> first
    | exact (sat_none sa).elim
    | skip
  · rename_i i j
    rw [viewI hx, viewI hy]
    exact .inl ⟨i, j, rfl, rfl, sat_some sa _ (.int _)⟩
  · rename_i i j
    rw [viewS hx, viewS hy]
    obtain ⟨c, sa⟩ := sat_if sa
    exact .inr (.inl ⟨i, j, rfl, rfl, lim_le c, sat_some sa _ (.str _)⟩)
  · obtain ⟨a, vs, rfl, h1, l1⟩ := viewL s hx
    obtain ⟨b, ws, rfl, h2, l2⟩ := viewL s hy
    obtain ⟨c, sa⟩ := sat_if sa
    exact .inr (.inr ⟨a, b, vs, ws, rfl, rfl, h1, h2, by rw [l1.len, l2.len]; exact lim_le c, fun p n => sat_some sa p _ n (.lst (l1.append l2))⟩)

/-! ### -, *, //, %, ** -/
def dSub : D → D → Option Rs
  | .int i, .int j => some (.val (.int (i - j)))
  | _, _ => none
theorem sem_sub {g : G} : Op2 g (rI0 fun i j => .int (i - j)) dSub := fun F H x y dx dy Q s hx hy sa => by
  cases dx <;> cases dy <;> first
    | exact (sat_none sa).elim
    | skip
  rename_i i j
  rw [viewI hx, viewI hy]
  exact ⟨i, j, rfl, rfl, sat_some sa _ (.int _)⟩
theorem sat_ifC {α : Type} {c : Prop} {x : Option α} {p : α → Prop} (h : Sat (@ite _ c (Classical.propDecidable c) x none) p) : c ∧ Sat x p := @sat_if _ c (Classical.propDecidable c) x p h
def small64 (i : Int) : Bool := @decide (-(2 ^ 64) < i ∧ i < 2 ^ 64) (Classical.propDecidable _)
theorem small64_iff {i : Int} (h : small64 i = true) : -(2 ^ 64) < i ∧ i < 2 ^ 64 := @of_decide_eq_true _ (Classical.propDecidable _) h
def repS (x : Str) (n : Int) : Str := Txt.mul x n
def rMulS : R2 := fun x y H Q => ∃ z n, x = .str z ∧ y = .int n ∧ MulOk z n ∧ Q (.str (repS z n)) H
theorem op_mulS {X : Cx} : OpR X (binaryOp .Mult) rMulS := by
  intro pins s σ H x y v u Q I rx ry h
  obtain ⟨z, n, rfl, rfl, ok, q⟩ := h
  obtain ⟨t, rfl⟩ := rx
  obtain ⟨t', rfl⟩ := ry
  exact SB.mul ok fun t k => ⟨.str (repS z n), H, I.tok k, ⟨t, rfl⟩, q⟩
instance (z : Str) (n : Int) : Decidable (MulOk z n) := Classical.propDecidable _
def dMul : D → D → Option Rs
  | .int i, .int j => if (small64 i || small64 j) = true then some (.val (.int (i * j))) else none
  | .str x, .int n => if MulOk x n then some (.val (.str (repS x n))) else none
  | _, _ => none
def rMulD : R2 := fun x y H Q => (rI CMul fun i j => .int (i * j)) x y H Q ∨ rMulS x y H Q
theorem op_mulD {X : Cx} : OpR X (binaryOp .Mult) rMulD := op_mul.or op_mulS
theorem sem_mul {g : G} : Op2 g rMulD dMul := fun F H x y dx dy Q s hx hy sa => by
  cases dx <;> cases dy <;> first
    | exact (sat_none sa).elim
    | skip
  · rename_i i j
    rw [viewI hx, viewI hy]
    obtain ⟨c, sa⟩ := sat_if sa
    refine .inl ⟨i, j, rfl, rfl, ?_, sat_some sa _ (.int _)⟩
    rcases Bool.or_eq_true_iff.mp c with c | c
    · exact .inl (small64_iff c)
    · exact .inr (small64_iff c)
  · rename_i z n
    rw [viewS hx, viewI hy]
    obtain ⟨c, sa⟩ := sat_if sa
    exact .inr ⟨z, n, rfl, rfl, c, sat_some sa _ (.str _)⟩
def dDiv : D → D → Option Rs
  | .int i, .int j => @ite _ (j ≠ 0 ∧ j.natAbs < 1073741824) (Classical.propDecidable _) (some (.val (.int (i.fdiv j)))) none
  | _, _ => none
def dMod : D → D → Option Rs
  | .int i, .int j => if j ≠ 0 then some (.val (.int (i.fmod j))) else none
  | _, _ => none
theorem sem_mod {g : G} : Op2 g (rI (fun _ j => j ≠ 0) fun i j => .int (i.fmod j)) dMod := fun F H x y dx dy Q s hx hy sa => by
  cases dx <;> cases dy <;> first
    | exact (sat_none sa).elim
    | skip
  rename_i i j
  rw [viewI hx, viewI hy]
  obtain ⟨c, sa⟩ := sat_if sa
  exact ⟨i, j, rfl, rfl, c, sat_some sa _ (.int _)⟩
def dPow : D → D → Option Rs
  | .int i, .int j => @ite _ (0 ≤ j ∧ j ≤ 1000000 ∧ i.natAbs < 2 ^ 64) (Classical.propDecidable _) (some (.val (.int (i ^ j.toNat)))) none
  | _, _ => none
theorem sem_pow {g : G} : Op2 g (rI CPow fun i j => .int (i ^ j.toNat)) dPow := fun F H x y dx dy Q s hx hy sa => by
  cases dx <;> cases dy <;> first
    | exact (sat_none sa).elim
    | skip
  rename_i i j
  rw [viewI hx, viewI hy]
  obtain ⟨c, sa⟩ := sat_ifC sa
  exact ⟨i, j, rfl, rfl, c, sat_some sa _ (.int _)⟩
def dNeg : D → Option Rs
  | .int i => some (.val (.int (-i)))
  | _ => none
/-! ### order -/
def dOrd (f : Int → Int → Bool) (h : List Nat → List Nat → Bool) : D → D → Option Rs
  | .int i, .int j => some (.val (.bl (f i j)))
  | .str x, .str y => some (.val (.bl (h x.cps.toList y.cps.toList)))
  | _, _ => none
def rOrd (f : Int → Int → Bool) (h : List Nat → List Nat → Bool) : R2 := fun x y H Q => (rI0 fun i j => .bl (f i j)) x y H Q ∨ ∃ i j, x = .str i ∧ y = .str j ∧ Q (.bl (h i.cps.toList j.cps.toList)) H
theorem sem_ord {g : G} {f : Int → Int → Bool} {h : List Nat → List Nat → Bool} : Op2 g (rOrd f h) (dOrd f h) := fun F H x y dx dy Q s hx hy sa => by
  cases dx <;> cases dy <;> first
    | exact (sat_none sa).elim
    | skip
  · rename_i i j
    rw [viewI hx, viewI hy]
    exact .inl ⟨i, j, rfl, rfl, sat_some sa _ (.bl _)⟩
  · rename_i i j
    rw [viewS hx, viewS hy]
    exact .inr ⟨i, j, rfl, rfl, sat_some sa _ (.bl _)⟩
def fLt (i j : Int) : Bool := decide (i < j)
def fLe (i j : Int) : Bool := decide (i ≤ j)
def fGt (i j : Int) : Bool := decide (j < i)
def fGe (i j : Int) : Bool := decide (j ≤ i)
def hLe (a b : List Nat) : Bool := !decide (b < a)
def hGt (a b : List Nat) : Bool := decide (b < a)
def hGe (a b : List Nat) : Bool := !decide (a < b)
abbrev dLe := dOrd fLe hLe
abbrev dGt := dOrd fGt hGt
abbrev dGe := dOrd fGe hGe
theorem op_leD {X : Cx} : OpR X (compareOp .LtE) (rOrd fLe hLe) := op_le.or op_le_str
theorem op_gtD {X : Cx} : OpR X (compareOp .Gt) (rOrd fGt hGt) := op_gt.or op_gt_str
theorem op_geD {X : Cx} : OpR X (compareOp .GtE) (rOrd fGe hGe) := op_ge.or op_ge_str

/-! ### == -/
mutual
def toP : D → Option PyData
  | .non => some .none
  | .bl b => some (.bool b)
  | .int i => some (.int i)
  | .str x => some (.str x)
  | .lst xs => (toPs xs).map .list
  | .tup xs => (toPs xs).map .tuple
  | .dic _ => none
  | .ins _ _ => none
  | .exc _ _ => none
def toPs : List D → Option (List PyData)
  | [] => some []
  | d :: ds => (toP d).bind fun p => (toPs ds).map fun ps => p :: ps
end
mutual
theorem Is.dp {g : G} {F H : Hp} (s : Sub F H) : ∀ {d : D} {v : V} {p : PyData}, Is g F v d → toP d = some p → Dp g.K H v p
  | .non, _, _, .non, e => by cases e; exact .non
  | .bl b, _, _, .bl _, e => by cases e; exact .bl b
  | .int i, _, _, .int _, e => by cases e; exact .int i
  | .str x, _, _, .str _, e => by cases e; exact .str x
  | .lst xs, _, _, .lst h l, e => by
    change (toPs xs).map PyData.list = some _ at e
    cases q : toPs xs with
    | none => rw [q] at e; cases e
    | some ps => rw [q] at e; cases e; exact .lst (sqL_sub s h) (IsL.dp s l q)
  | .tup xs, _, _, .tup h l, e => by
    change (toPs xs).map PyData.tuple = some _ at e
    cases q : toPs xs with
    | none => rw [q] at e; cases e
    | some ps => rw [q] at e; cases e; exact .tup (sqT_sub s h) (IsL.dp s l q)
  | .exc _ _, _, _, .exc0 _ _, e => nomatch e
  | .exc _ _, _, _, .exc _ _ _ _ _, e => nomatch e
theorem IsL.dp {g : G} {F H : Hp} (s : Sub F H) : ∀ {d : List D} {v : List V} {p : List PyData}, IsL g F v d → toPs d = some p → DpAll g.K H v p
  | [], _, _, .nil, e => by cases e; exact .nil
  | d :: ds, _, _, .cons h l, e => by
    change (toP d).bind (fun p => (toPs ds).map fun ps => p :: ps) = some _ at e
    cases q : toP d with
    | none => rw [q] at e; cases e
    | some p =>
      rw [q, Option.bind_some] at e
      cases q2 : toPs ds with
      | none => rw [q2] at e; cases e
      | some ps => rw [q2] at e; cases e; exact .cons (Is.dp s h q) (IsL.dp s l q2)
end
theorem View.dp {g : G} {F H : Hp} (s : Sub F H) {v : V} {d : D} {p : PyData} (h : View g F H v d) (e : toP d = some p) : Dp g.K H v p := by
  cases h with
  | is i => exact i.dp s e
  | own n hh r => cases r with
    | lst l =>
      rename_i vs ds
      change (toPs ds).map PyData.list = some _ at e
      cases q : toPs ds with
      | none => rw [q] at e; cases e
      | some ps => rw [q] at e; cases e; exact .lst (.of hh) (l.dp s q)
    | dic l => cases e
    | obj m l z => cases e
def eqD (x y : D) : Option Bool := (toP x).bind fun p => (toP y).bind fun q => if (SeqAt.shaped p && SeqAt.shaped q) = true then some (PyData.eqv p q) else none
/-- of two plain values -/
def scD : D → D → Option Bool
  | .non, .non => some true
  | .non, .int _ => some false
  | .non, .bl _ => some false
  | .non, .str _ => some false
  | .int _, .non => some false
  | .bl _, .non => some false
  | .str _, .non => some false
  | .int i, .int j => some (decide (i = j))
  | .bl i, .bl j => some (decide (i = j))
  | .str i, .str j => some (decide (i = j))
  | .int _, .str _ => some false
  | .str _, .int _ => some false
  | .bl _, .str _ => some false
  | .str _, .bl _ => some false
  | _, _ => none
def scV : D → Option V
  | .non => some .non
  | .bl b => some (.bl b)
  | .int i => some (.int i)
  | .str x => some (.str x)
  | _ => none
theorem view_sc {g : G} {F H : Hp} {v u : V} {d : D} (h : View g F H v d) (e : scV d = some u) : v = u := by
  cases h with
  | is i => cases i <;> cases e <;> rfl
  | own n hh r => cases r <;> cases e
theorem scD_ok {g : G} {F H : Hp} {x y : V} {dx dy : D} {b : Bool} (hx : View g F H x dx) (hy : View g F H y dy) (e : scD dx dy = some b) : scal x y = true ∧ decide (x = y) = b := by
  cases dx <;> cases dy <;> first
    | (cases e; done)
    | skip
  all_goals
    have e1 := view_sc hx rfl
    have e2 := view_sc hy rfl
    subst e1 e2
    cases e
    exact ⟨rfl, by simp⟩
def eqA (x y : D) : Option Bool := match scD x y with
  | some b => some b
  | none => eqD x y
def dEq (x y : D) : Option Rs := (eqA x y).map fun b => .val (.bl b)
def dNe (x y : D) : Option Rs := (eqA x y).map fun b => .val (.bl (!b))
def rEqA (K : PySem.W.Frag) : R2 := fun x y H Q => rEq x y H Q ∨ rEqD K x y H Q
def rNeA (K : PySem.W.Frag) : R2 := fun x y H Q => rNe x y H Q ∨ rNeD K x y H Q
theorem op_eqA {X : Cx} (hu : X.A.units + 64 < cLine) : OpR X (compareOp .Eq) (rEqA X.K) := op_eq.or (op_eqD hu)
theorem op_neA {X : Cx} (hu : X.A.units + 64 < cLine) : OpR X (compareOp .NotEq) (rNeA X.K) := op_ne.or (op_neD hu)
theorem eqD_ok {g : G} {F H : Hp} (s : Sub F H) {x y : V} {dx dy : D} {b : Bool} (hx : View g F H x dx) (hy : View g F H y dy) (e : eqD dx dy = some b) : ∃ p q, Dp g.K H x p ∧ Dp g.K H y q ∧ SeqAt.shaped p = true ∧ SeqAt.shaped q = true ∧ b = PyData.eqv p q := by
  unfold eqD at e
  obtain ⟨p, e1, e⟩ := Option.bind_eq_some_iff.mp e
  obtain ⟨q, e2, e⟩ := Option.bind_eq_some_iff.mp e
  by_cases c : (SeqAt.shaped p && SeqAt.shaped q) = true
  · rw [if_pos c] at e
    cases e
    obtain ⟨c1, c2⟩ := Bool.and_eq_true_iff.mp c
    exact ⟨p, q, hx.dp s e1, hy.dp s e2, c1, c2, rfl⟩
  · rw [if_neg c] at e
    cases e
theorem sem_eq {g : G} : Op2 g (rEqA g.K) dEq := fun F H x y dx dy Q s hx hy sa => by
  obtain ⟨r, e, k⟩ := sa
  obtain ⟨b, e1, e2⟩ := Option.map_eq_some_iff.mp e
  subst e2
  unfold eqA at e1
  cases q : scD dx dy with
  | some c =>
    rw [q] at e1
    cases e1
    obtain ⟨h1, h2⟩ := scD_ok hx hy q
    exact .inl ⟨h1, by rw [h2]; exact k _ (.bl _)⟩
  | none =>
    rw [q] at e1
    obtain ⟨p, q, h1, h2, h3, h4, rfl⟩ := eqD_ok s hx hy e1
    exact .inr ⟨p, q, h1, h2, h3, h4, k _ (.bl _)⟩
theorem sem_ne {g : G} : Op2 g (rNeA g.K) dNe := fun F H x y dx dy Q s hx hy sa => by
  obtain ⟨r, e, k⟩ := sa
  obtain ⟨b, e1, e2⟩ := Option.map_eq_some_iff.mp e
  subst e2
  unfold eqA at e1
  cases q : scD dx dy with
  | some c =>
    rw [q] at e1
    cases e1
    obtain ⟨h1, h2⟩ := scD_ok hx hy q
    exact .inl ⟨h1, by rw [h2]; exact k _ (.bl _)⟩
  | none =>
    rw [q] at e1
    obtain ⟨p, q, h1, h2, h3, h4, rfl⟩ := eqD_ok s hx hy e1
    exact .inr ⟨p, q, h1, h2, h3, h4, k _ (.bl _)⟩

/-! ### is None -/
def isNon : D → Bool
  | .non => true
  | _ => false
theorem isNon_ok {g : G} {F H : Hp} {v : V} {d : D} (h : View g F H v d) : decide (v = .non) = isNon d := by
  cases h with
  | is i => cases i <;> rfl
  | own n hh r => cases r <;> rfl
def dIsN : D → D → Option Rs
  | x, .non => some (.val (.bl (isNon x)))
  | _, _ => none
def dNotN : D → D → Option Rs
  | x, .non => some (.val (.bl (!isNon x)))
  | _, _ => none
theorem sem_isN {g : G} : Op2 g (fun x y H Q => y = .non ∧ Q (.bl (decide (x = .non))) H) dIsN := fun F H x y dx dy Q s hx hy sa => by
  cases dy <;> first
    | (cases dx <;> exact (sat_none sa).elim)
    | skip
  refine ⟨viewN hy, ?_⟩
  rw [isNon_ok hx]
  cases dx <;> exact sat_some sa _ (.bl _)
/-! ### subscripts -/
def dIx : D → D → Option Rs
  | .lst xs, .int i => (atI xs i).map .val
  | .tup xs, .int i => (atI xs i).map .val
  | .str z, .int i => if z.length ≤ LIM then (atI z.cps.toList i).map fun c => .val (.str ⟨#[c]⟩) else none
  | _, _ => none
theorem atI_is {g : G} {F : Hp} {vs : List V} {ds : List D} {i : Int} {d : D} (l : IsL g F vs ds) (e : atI ds i = some d) : ∃ v, atI vs i = some v ∧ Is g F v d := by
  unfold atI at e ⊢
  rw [l.len]
  cases q : ixN ds.length i with
  | none => rw [q] at e; cases e
  | some j =>
    rw [q] at e
    obtain ⟨v, h1, h2⟩ := l.get e
    exact ⟨v, h1, h2⟩
theorem sem_ix {g : G} : Op2 g (rIx g.K) dIx := fun F H x y dx dy Q s hx hy sa => by
  cases dx <;> cases dy <;> first
    | exact (sat_none sa).elim
    | skip
  · rename_i z i
    rw [viewS hx, viewI hy]
    obtain ⟨c, sa⟩ := sat_if sa
    obtain ⟨r, e, k⟩ := sa
    obtain ⟨w, e1, e2⟩ := Option.map_eq_some_iff.mp e
    subst e2
    exact .inr (.inr ⟨z, i, w, rfl, rfl, lim_le c, e1, k _ (.str _)⟩)
  · rename_i xs i
    obtain ⟨a, vs, rfl, h1, l1⟩ := viewT s hx
    rw [viewI hy]
    obtain ⟨r, e, k⟩ := sa
    obtain ⟨w, e1, e2⟩ := Option.map_eq_some_iff.mp e
    subst e2
    obtain ⟨u, h2, h3⟩ := atI_is l1 e1
    exact .inr (.inl ⟨a, vs, i, u, rfl, rfl, h1, h2, k _ h3⟩)
  · rename_i xs i
    obtain ⟨a, vs, rfl, h1, l1⟩ := viewL s hx
    rw [viewI hy]
    obtain ⟨r, e, k⟩ := sa
    obtain ⟨w, e1, e2⟩ := Option.map_eq_some_iff.mp e
    subst e2
    obtain ⟨u, h2, h3⟩ := atI_is l1 e1
    exact .inl ⟨a, vs, i, u, rfl, rfl, h1, h2, k _ h3⟩
end Sim
namespace Sim
open PySem PySem.Spec PyProof.Rows L2

/-! ### slices -/
abbrev DO := Env → Option (Option Int × Env)
def SimO (g : G) (n : Nat) (t : TO) (dz : DO) : Prop := ∀ (B : Base) (F H : Hp) (σ ρ : L2.St) (env : Env) (Q : Option Int → Hp → Prop), Wd B F H → σ.length = n → σ <+: ρ → EnvIs g B F H ρ env →
  Sat (dz env) (fun r => ∀ (F' H' : Hp) (ρ' : L2.St), Wd B F' H' → Ex F F' → ρ <+: ρ' → EnvIs g B F' H' ρ' r.2 → Q r.1 H') → t σ H Q
structure SO (CT : CTab) (X : Cx) (o : Option Expr) (dz : DO) : Prop where
  ex : ∃ t, PO X o t ∧ SimO (gX CT X) X.N.length t dz
def doNone : DO := fun env => some (none, env)
def doSome (de : DE) : DO := fun env => (de env).bind fun r => match r.1 with
  | .val (.int i) => some (some i, r.2)
  | _ => none
theorem so_none {CT : CTab} {X : Cx} : SO CT X none doNone := ⟨_, po_none, fun B F H σ ρ env Q w l p E s => by
  obtain ⟨r, e, k⟩ := s
  cases e
  exact k F H ρ w (Ex.refl F) List.prefix_rfl E⟩
theorem so_some {CT : CTab} {X : Cx} {e : Expr} {de : DE} (h : SE CT X e de) : SO CT X (some e) (doSome de) := by
  obtain ⟨t, a, b⟩ := h
  refine ⟨_, po_some a, fun B F H σ ρ env Q w l p E s => ?_⟩
  refine b B F H σ ρ env _ w l p E (s.bind.mono fun r sr F' H' v ρ' w' x' p' E' i => ?_)
  obtain ⟨vl, e1⟩ := r
  obtain ⟨q, eq, k⟩ := sr
  cases vl with
  | «at» j => cases eq
  | val d =>
    cases d with
    | int z =>
      cases eq
      cases i with
      | val i => cases i; exact ⟨z, rfl, k F' H' ρ' w' x' p' E'⟩
    | _ => cases eq
def Op3 (g : G) (r : V → Option Int → Option Int → Hp → VK → Prop) (f : D → Option Int → Option Int → Option Rs) : Prop := ∀ (F H : Hp) (x : V) (dx : D) (lo hi : Option Int) (Q : VK), Sub F H → View g F H x dx → Sat (f dx lo hi) (RsOk g F H Q) → r x lo hi H Q
def dSl (f : D → Option Int → Option Int → Option Rs) (de : DE) (dlo dhi : DO) : DE := fun env => (de env).bind fun r => (dlo r.2).bind fun q => (dhi q.2).bind fun s => (look s.2 r.1).bind fun x => (f x q.1 s.1).bind fun z => some (fin s.2 z)
theorem se_slice {CT : CTab} {X : Cx} {e : Expr} {lo hi : Option Expr} {de : DE} {dlo dhi : DO} {p2 pos : Pos} {r : V → Option Int → Option Int → Hp → VK → Prop} {f : D → Option Int → Option Int → Option Rs} (hr : SlR X r) (hs : Op3 (gX CT X) r f) (h : SE CT X e de) (h1 : SO CT X lo dlo) (h2 : SO CT X hi dhi) :
    SE CT X (.Subscript e (.Slice lo hi none p2) pos) (dSl f de dlo dhi) := by
  obtain ⟨_, a, b⟩ := h
  obtain ⟨_, a1, b1⟩ := h1
  obtain ⟨_, a2, b2⟩ := h2
  refine ⟨_, pe_slice hr a a1 a2, fun B F H σ ρ env Q w l p E s => ?_⟩
  refine b B F H σ ρ env _ w l p E (s.bind.mono fun r1 s1 F1 H1 x ρ1 w1 x1 p1 E1 i1 => ?_)
  refine b1 B F1 H1 σ ρ1 r1.2 _ w1 l (p.trans p1) E1 (s1.bind.mono fun r2 s2 F2 H2 ρ2 w2 x2 p2 E2 => ?_)
  refine b2 B F2 H2 σ ρ2 r2.2 _ w2 l ((p.trans p1).trans p2) E2 (s2.bind.mono fun r3 s3 F3 H3 ρ3 w3 x3 p3 E3 => ?_)
  obtain ⟨dx, ex, s4⟩ := s3.bind
  refine hs F3 H3 x dx r2.1 r3.1 Q w3.sub (look_ok E3 (i1.mono (x2.trans x3) (p2.trans p3)) ex) (s4.bind.mono fun rs s5 => ?_)
  obtain ⟨q, eq, k⟩ := s5
  cases eq
  exact fin_ok w3 E3 fun F' H' v ρ' w' e' p' E' i' => k F' H' v ρ' w' (((x1.trans x2).trans x3).trans e') (((p1.trans p2).trans p3).trans p') E' i'
def cutD {α : Type} (xs : List α) (lo hi : Option Int) : List α := (xs.drop (HT.sIx xs.length 0 lo)).take (HT.sIx xs.length xs.length hi - HT.sIx xs.length 0 lo)
theorem cut_is {g : G} {F : Hp} {vs : List V} {ds : List D} (l : IsL g F vs ds) (lo hi : Option Int) : IsL g F (cutV vs lo hi) (cutD ds lo hi) := by
  unfold cutV cutD
  rw [l.len]
  exact (l.drop _).take _
def dSlice : D → Option Int → Option Int → Option Rs
  | .lst xs, lo, hi => some (.new (.lst (cutD xs lo hi)))
  | .str z, lo, hi => if z.length ≤ LIM then some (.val (.str (cutS z lo hi))) else none
  | .tup xs, lo, hi => if HT.sIx xs.length 0 lo = 0 ∧ HT.sIx xs.length xs.length hi = xs.length then none else some (.tup (cutD xs lo hi))
  | _, _, _ => none
def rSlD (K : PySem.W.Frag) : V → Option Int → Option Int → Hp → VK → Prop := fun x lo hi H Q => rSlL K x lo hi H Q ∨ rSlS x lo hi H Q ∨ rSlT K x lo hi H Q
theorem sl_D {X : Cx} : SlR X (rSlD X.K) := sl_list.or (sl_str.or sl_tup)
theorem sem_slice {g : G} : Op3 g (rSlD g.K) dSlice := fun F H x dx lo hi Q s hx sa => by
  cases dx <;> first
    | exact (sat_none sa).elim
    | skip
  · rename_i z
    rw [viewS hx]
    obtain ⟨c, sa⟩ := sat_if sa
    exact .inr (.inl ⟨z, rfl, lim_le c, sat_some sa _ (.str _)⟩)
  · rename_i xs
    obtain ⟨a, vs, rfl, h1, l1⟩ := viewT s hx
    change Sat (if _ then none else some _) _ at sa
    split at sa
    · exact (sat_none sa).elim
    · rename_i c
      refine .inr (.inr ⟨a, vs, rfl, h1, by rw [l1.len]; exact c, fun p n => sat_some sa p _ n (cut_is l1 lo hi)⟩)
  · obtain ⟨a, vs, rfl, h1, l1⟩ := viewL s hx
    exact .inl ⟨a, vs, rfl, h1, fun p n => sat_some sa p _ n (.lst (cut_is l1 lo hi))⟩

/-! ### in -/
def flatD : D → Bool
  | .non => true
  | .bl _ => true
  | .int _ => true
  | .str _ => true
  | _ => false
def eqF : D → D → Bool
  | .non, .non => true
  | .bl a, .bl b => a == b
  | .bl a, .int b => (if a then 1 else 0) == b
  | .int a, .bl b => a == (if b then 1 else 0)
  | .int a, .int b => a == b
  | .str a, .str b => a == b
  | _, _ => false
def inStr (x z : Str) : Bool := match x.cps.toList with
  | [c] => decide (c ∈ z.cps.toList)
  | _ => !(Builtin.Str.occurrences z x 0 z.length 1).isEmpty
def inD (neg : Bool) : D → D → Option Rs
  | x, .lst ys => if (flatD x && ys.all flatD) = true then some (.val (.bl (if neg then !(ys.any fun y => eqF y x) else ys.any fun y => eqF y x))) else none
  | x, .tup ys => if (flatD x && ys.all flatD) = true then some (.val (.bl (if neg then !(ys.any fun y => eqF y x) else ys.any fun y => eqF y x))) else none
  | .str x, .str z => some (.val (.bl (if neg then !(inStr x z) else inStr x z)))
  | _, _ => none
/-! ### len, min, max, int, str, list, tuple, all -/
def dLen : List D → Option Rs
  | [.lst xs] => some (.val (.int xs.length))
  | [.tup xs] => some (.val (.int xs.length))
  | [.str z] => if z.length ≤ LIM then some (.val (.int z.length)) else none
  | [.dic kvs] => some (.val (.int kvs.length))
  | _ => none
def rLenD (K : PySem.W.Frag) : List V → Hp → VK → Prop := fun xs H Q => (∃ x n, xs = [x] ∧ LenV K x H n ∧ Q (.int n) H) ∨ ∃ a kvs, xs = [.ref a] ∧ Rd H a (.dK kvs) ∧ Q (.int kvs.length) H
theorem CallR.or {X : Cx} {f : Value} {r r' : List V → Hp → VK → Prop} (h : CallR X f r) (h' : CallR X f r') : CallR X f (fun xs H Q => r xs H Q ∨ r' xs H Q) := by
  intro pins s σ H xs us Q I rx q
  rcases q with q | q
  · exact h pins s σ H xs us Q I rx q
  · exact h' pins s σ H xs us Q I rx q
theorem call_lenR {X : Cx} : CallR X (.builtin "len") (fun xs H Q => ∃ a kvs, xs = [.ref a] ∧ Rd H a (.dK kvs) ∧ Q (.int kvs.length) H) := by
  intro pins s σ H xs us Q I r h
  obtain ⟨a, kvs, rfl, e, q⟩ := h
  cases r with
  | cons r1 r2 =>
    cases r2
    cases r1
    exact d_len I e fun t s' I' => ⟨.int _, H, I', ⟨t, rfl⟩, q⟩
theorem call_lenD {X : Cx} : CallR X (.builtin "len") (rLenD X.K) := call_len.or call_lenR
theorem IsK.len {g : G} {F : Hp} : ∀ {v : List (Key × V)} {d : List (Key × D)}, IsK g F v d → v.length = d.length
  | _, _, .nil => rfl
  | _, _, .cons _ l => congrArg (· + 1) (IsK.len l)
theorem view1 {g : G} {F H : Hp} {xs : List V} {d : D} (h : ViewL g F H xs [d]) : ∃ x, xs = [x] ∧ View g F H x d := by
  cases h with
  | cons a b => cases b; exact ⟨_, rfl, a⟩
theorem view2 {g : G} {F H : Hp} {xs : List V} {d e : D} (h : ViewL g F H xs [d, e]) : ∃ x y, xs = [x, y] ∧ View g F H x d ∧ View g F H y e := by
  cases h with
  | cons a b => cases b with
    | cons b c => cases c; exact ⟨_, _, rfl, a, b⟩
theorem sem_len {g : G} : OpL g (rLenD g.K) dLen := fun F H xs ds Q s h sa => by
  match ds, h, sa with
  | [], h, sa => exact (sat_none sa).elim
  | [d], h, sa =>
    obtain ⟨x, rfl, hx⟩ := view1 h
    cases d <;> first
      | exact (sat_none sa).elim
      | skip
    · rename_i z
      rw [viewS hx]
      obtain ⟨c, sa⟩ := sat_if sa
      exact .inl ⟨_, _, rfl, ⟨lim_le c, rfl⟩, sat_some sa _ (.int _)⟩
    · obtain ⟨a, vs, rfl, h1, l1⟩ := viewT s hx
      exact .inl ⟨_, _, rfl, .inr ⟨vs, h1, rfl⟩, by rw [l1.len]; exact sat_some sa _ (.int _)⟩
    · obtain ⟨a, vs, rfl, h1, l1⟩ := viewL s hx
      exact .inl ⟨_, _, rfl, .inl ⟨vs, h1, rfl⟩, by rw [l1.len]; exact sat_some sa _ (.int _)⟩
    · obtain ⟨a, vs, rfl, h1, l1⟩ := viewD s hx
      exact .inr ⟨a, vs, rfl, h1, by rw [l1.len]; exact sat_some sa _ (.int _)⟩
  | d :: e :: r, h, sa => cases d <;> exact (sat_none sa).elim
def dMin : List D → Option Rs
  | [.int i, .int j] => some (.val (.int (if j < i then j else i)))
  | _ => none
def dMax : List D → Option Rs
  | [.int i, .int j] => some (.val (.int (if j > i then j else i)))
  | _ => none
theorem sem_min {g : G} : OpL g (fun xs H Q => ∃ i j, xs = [.int i, .int j] ∧ Q (.int (if j < i then j else i)) H) dMin := fun F H xs ds Q s h sa => by
  unfold dMin at sa
  split at sa
  · rename_i i j
    obtain ⟨x, y, rfl, hx, hy⟩ := view2 h
    rw [viewI hx, viewI hy]
    exact ⟨i, j, rfl, sat_some sa _ (.int _)⟩
  · exact (sat_none sa).elim
theorem sem_max {g : G} : OpL g (fun xs H Q => ∃ i j, xs = [.int i, .int j] ∧ Q (.int (if j > i then j else i)) H) dMax := fun F H xs ds Q s h sa => by
  unfold dMax at sa
  split at sa
  · rename_i i j
    obtain ⟨x, y, rfl, hx, hy⟩ := view2 h
    rw [viewI hx, viewI hy]
    exact ⟨i, j, rfl, sat_some sa _ (.int _)⟩
  · exact (sat_none sa).elim
def dTuple : List D → Option Rs
  | [.lst xs] => some (.tup xs)
  | _ => none
theorem sem_tuple {g : G} : OpL g (fun xs H Q => ∃ p ys, xs = [.ref p] ∧ ((SqL g.K H p ys ∧ ∀ l, H l = none → Q (.ref l) (upd H l (.tup ys))) ∨ (SqT g.K H p ys ∧ Q (.ref p) H))) dTuple := fun F H xs ds Q s h sa => by
  unfold dTuple at sa
  split at sa
  · obtain ⟨x, rfl, hx⟩ := view1 h
    obtain ⟨a, vs, rfl, h1, l1⟩ := viewL s hx
    exact ⟨a, vs, rfl, .inl ⟨h1, fun l n => sat_some sa l _ n l1⟩⟩
  · exact (sat_none sa).elim
/-- all(xs), any(xs), truths -/
def bools : List D → Option (List Bool)
  | [] => some []
  | .bl b :: ds => (bools ds).map fun bs => b :: bs
  | _ => none
def dAll : List D → Option Rs
  | [.lst xs] => (bools xs).map fun bs => .val (.bl (bs.all id))
  | _ => none
theorem bools_is {g : G} {F : Hp} : ∀ {ds : List D} {vs : List V} {bs : List Bool}, IsL g F vs ds → bools ds = some bs → vs = bs.map V.bl
  | [], _, _, .nil, e => by cases e; rfl
  | d :: ds, _, bs, .cons h l, e => by
    cases d <;> first
      | cases e
      | skip
    rename_i b
    obtain ⟨q, e1, e2⟩ := Option.map_eq_some_iff.mp (show (bools ds).map (fun bs => b :: bs) = some bs from e)
    subst e2
    cases h
    rw [bools_is l e1]
    rfl
theorem reads_bools {h : Heap} : ∀ {us : List Value} {bs : List Bool}, Vals (bs.map V.bl) us → ∃ as, ReadsAll h us (bs.map PyData.bool) as
  | _, [], r => by cases r; exact ⟨_, .nil⟩
  | _, b :: bs, r => by
    cases r with
    | cons r1 r2 =>
      cases r1
      obtain ⟨as, q⟩ := reads_bools r2
      exact ⟨_, .cons (.bool b) q⟩
theorem plain_bools : ∀ bs : List Bool, PyData.plainAll (bs.map PyData.bool) = true
  | [] => rfl
  | b :: bs => by
    show (PyData.plain (PyData.bool b) && PyData.plainAll (bs.map PyData.bool)) = true
    rw [plain_bools bs]
    rfl
theorem all_bools : ∀ bs : List Bool, (bs.map PyData.bool).all PyData.truthy = bs.all id
  | [] => rfl
  | b :: bs => by rw [List.map_cons, List.all_cons, List.all_cons, all_bools bs]; rfl
def rAllB (K : PySem.W.Frag) (f : List Bool → Bool) : List V → Hp → VK → Prop := fun xs H Q => ∃ (a : Addr) (bs : List Bool), xs = [.ref a] ∧ SqL K H a (bs.map V.bl) ∧ Q (.bl (f bs)) H
theorem call_allB {X : Cx} (hc : X.calm = true) : CallR X (.builtin "all") (rAllB X.K fun bs => bs.all id) := by
  intro pins s σ H xs us Q I r h
  obtain ⟨a, bs, rfl, hq, q⟩ := h
  cases r with
  | cons r1 r2 =>
    cases r2
    cases r1
    obtain ⟨its, rv, pl, _⟩ := I.list hq
    obtain ⟨as, rd⟩ := reads_bools (h := s.heap) rv
    refine PySem.W.all_list_data (I.ok.hd hc) pl.isList (by simpa using rd) (plain_bools bs) (fun x hx => ?_) fun h' tk hk => ?_
    · obtain ⟨b, _, rfl⟩ := List.mem_map.mp hx
      trivial
    · rw [all_bools]
      exact ⟨.bl _, H, I.kept (t' := tk) hk, rfl, q⟩
theorem sem_all {g : G} : OpL g (rAllB g.K fun bs => bs.all id) dAll := fun F H xs ds Q s h sa => by
  unfold dAll at sa
  split at sa
  · obtain ⟨x, rfl, hx⟩ := view1 h
    obtain ⟨a, vs, rfl, h1, l1⟩ := viewL s hx
    obtain ⟨r, e, k⟩ := sa
    obtain ⟨n, e1, e2⟩ := Option.map_eq_some_iff.mp e
    subst e2
    exact ⟨a, n, rfl, by rw [← bools_is l1 e1]; exact h1, k _ (.bl _)⟩
  · exact (sat_none sa).elim
end Sim
namespace Sim
open PySem PySem.Spec PyProof.Rows L2

/-! ### isinstance -/
inductive Ty where
  | str | int | bool | tup | lst | dic
def Ty.name : Ty → String
  | .str => "str" | .int => "int" | .bool => "bool" | .tup => "tuple" | .lst => "list" | .dic => "dict"
def kindD : D → String
  | .non => "NoneType" | .bl _ => "bool" | .int _ => "int" | .str _ => "str" | .tup _ => "tuple" | .lst _ => "list" | .dic _ => "dict" | .ins _ _ => "" | .exc _ _ => ""
def isTy : Ty → D → Bool
  | .str, .str _ => true
  | .int, .int _ => true
  | .int, .bl _ => true
  | .bool, .bl _ => true
  | .tup, .tup _ => true
  | .lst, .lst _ => true
  | .dic, .dic _ => true
  | _, _ => false
def isIns : D → Option Nat
  | .ins c _ => some c
  | _ => none
def isExc : D → Bool
  | .exc _ _ => true
  | _ => false
theorem kit_isTy (T : Ty) (d : D) (h : isIns d = none) (h2 : isExc d = false) : kitB (kindD d) T.name = some (isTy T d) := by
  cases T <;> cases d <;> first
    | (cases h; done)
    | (cases h2; done)
    | (show kitB _ _ = some _; simp only [kindD, Ty.name, isTy]; decide +kernel)
theorem tyx_of {g : G} {F H : Hp} (s : Sub F H) {v : V} {d : D} (h : View g F H v d) (n : isIns d = none) (n2 : isExc d = false) : TyX g.K H v (.type (kindD d)) := by
  have L : ∀ {a : Addr} {vs : List V}, SqL g.K H a vs → TyX g.K H (.ref a) (.type "list") := fun h => by
    rcases h with (h | ⟨o, h⟩) | ⟨o, its, n, h1, h2, _⟩
    · exact .base (.lst h)
    · exact .base (.frz h)
    · exact .kList h1 h2
  have T : ∀ {a : Addr} {vs : List V}, SqT g.K H a vs → TyX g.K H (.ref a) (.type "tuple") := fun h => by
    rcases h with (h | ⟨o, h⟩) | ⟨o, its, n, h1, h2, _⟩
    · exact .base (.tup h)
    · exact .fTuple h
    · exact .kTuple h1 h2
  cases d with
  | non => rw [viewN h]; exact .base .non
  | bl b => rw [viewB h]; exact .base (.bl b)
  | int i => rw [viewI h]; exact .base (.int i)
  | str x => rw [viewS h]; exact .base (.str x)
  | tup ds => obtain ⟨a, vs, rfl, h1, _⟩ := viewT s h; exact T h1
  | lst ds => obtain ⟨a, vs, rfl, h1, _⟩ := viewL s h; exact L h1
  | dic ds =>
    obtain ⟨a, vs, rfl, h1, _⟩ := viewD s h
    rcases h1 with h1 | ⟨o, h1⟩
    · exact .base (.dK h1)
    · exact .fDict h1
  | ins c fs => cases n
  | exc c fs => cases n2
/-- what isinstance asks of an own class -/
structure InsF (K : PySem.W.Frag) (C : Addr) : Prop where
  cl : Cls K C
  ha : PySem.W.findIn K (.ref C) "__class__" = some (some (.builtin "object.__class__"))
  hn : PySem.W.specialIn K (.builtin "object.__class__") "__get__" = some (some (.builtin "getset_descriptor.__get__"))
  ht : PySem.W.takesIn K (.builtin "object.__class__") = some true
  hm : PySem.W.mroIn K C (.type "object") = some true
  no : ∀ T : Ty, PySem.W.kitOne K (.ref C) (.type T.name) = some false
theorem tyx_ins {g : G} {F H : Hp} (s : Sub F H) {v : V} {c : Nat} {fs : List D} (h : View g F H v (.ins c fs)) {C : Addr} (hC : g.mg (g.CT c).1 = some (.ref C)) (f : InsF g.K C) : TyX g.K H v (.ref C) := by
  obtain ⟨a, C', dx, vs, rfl, m, h1, _⟩ := viewO s h
  rw [hC] at m
  cases m
  exact .base (.ins h1 f.cl f.ha f.hn f.ht f.hm)
/-- isinstance(e, T): cs, the classes whose instances may come -/
def dIsi (cs : List Nat) (Ts : List Ty) (de : DE) : DE := fun env => (de env).bind fun r => (look r.2 r.1).bind fun d => match isIns d with
  | some c => if cs.contains c = true then some (.val (.bl false), r.2) else none
  | none => if isExc d = false then some (.val (.bl (Ts.any fun T => isTy T d)), r.2) else none
def InsFs (g : G) (cs : List Nat) : Prop := ∀ c, cs.contains c = true → ∃ C, g.mg (g.CT c).1 = some (.ref C) ∧ InsF g.K C
theorem se_isi1 {CT : CTab} {X : Cx} {e : Expr} {x : Str} {p p2 pos : Pos} {de : DE} {T : Ty} {cs : List Nat} (hI : InsFs (gX CT X) cs) (hg : Gl X "isinstance") (hm : X.mg "isinstance" = none) (hg2 : Gl X x) (hm2 : X.mg x = none) (hv : bootBuiltins x = some (.type T.name)) (h : SE CT X e de)
    (hn : x ≠ "__name__" := by decide) (hdb : (x == ("__debug__" : Str)) = false := by decide) (hs1 : starEach [.Name x p2] X.env = (false, eval (.Name x p2) X.env) :: starEach [] X.env := by rfl)
    (he : starEach [e, .Name x p2] X.env = (false, eval e X.env) :: starEach [.Name x p2] X.env := by rfl) (hpl : (backTo pos (starEach [.Name x p2] X.env)).any (·.1) = false := by rfl) :
    SE CT X (.Call (.Name "isinstance" p) [e, .Name x p2] [] pos) (dIsi cs [T] de) := by
  obtain ⟨te, a, b⟩ := h
  refine ⟨_, pe_callB call_isi hg hm boot_isinstance (pa_cons a (pa_cons (pe_bltn (v := .ty T.name) hg2 hm2 hv rfl hn hdb) pa_nil hs1) he) (by decide) (by decide) he hpl, fun B F H σ ρ env Q w l p E s => ?_⟩
  refine b B F H σ ρ env _ w l p E (s.bind.mono fun r sr F1 H1 v ρ1 w1 x1 p1 E1 i1 => ?_)
  obtain ⟨d, ed, s2⟩ := sr.bind
  have vw := look_ok E1 i1 ed
  cases q : isIns d with
  | none =>
    rw [q] at s2
    obtain ⟨nx, s2⟩ := sat_if s2
    obtain ⟨_, e2, k⟩ := s2
    cases e2
    refine ⟨v, .ty T.name, _, _, _, rfl, .ty _, tyx_of w1.sub vw q nx, kit_ty (kit_isTy T d q nx), ?_⟩
    have := k F1 H1 _ ρ1 w1 x1 p1 E1 (.val (.bl _))
    simpa using this
  | some c =>
    rw [q] at s2
    obtain ⟨hc, s2⟩ := sat_if s2
    obtain ⟨_, e2, k⟩ := s2
    cases e2
    obtain ⟨C, hC, f⟩ := hI c hc
    cases d with
    | ins c' fs =>
      cases q
      exact ⟨v, .ty T.name, _, _, _, rfl, .ty _, tyx_ins w1.sub vw hC f, f.no T, k F1 H1 _ ρ1 w1 x1 p1 E1 (.val (.bl false))⟩
    | _ => cases q
theorem kitAny_ty {K : PySem.W.Frag} {a : String} : ∀ {Ts : List Ty} {f : Ty → Bool}, (∀ T, PySem.W.kitOne K (.type a) (.type T.name) = some (f T)) → PySem.W.kitAny K (.type a) (Ts.map fun T => .type T.name) = some (Ts.any f)
  | [], f, _ => rfl
  | T :: Ts, f, h => by
    have ih := kitAny_ty (Ts := Ts) h
    show (match PySem.W.kitOne K (.type a) (.type T.name) with | some true => some true | some false => PySem.W.kitAny K (.type a) (Ts.map fun T => .type T.name) | none => none) = some (f T || Ts.any f)
    rw [h T]
    cases f T with
    | true => rfl
    | false => exact ih
theorem kitAny_ins {K : PySem.W.Frag} {C : Addr} : ∀ {Ts : List Ty}, (∀ T : Ty, PySem.W.kitOne K (.ref C) (.type T.name) = some false) → PySem.W.kitAny K (.ref C) (Ts.map fun T => .type T.name) = some false
  | [], _ => rfl
  | T :: Ts, h => by
    have ih := kitAny_ins (Ts := Ts) h
    show (match PySem.W.kitOne K (.ref C) (.type T.name) with | some true => some true | some false => PySem.W.kitAny K (.ref C) (Ts.map fun T => .type T.name) | none => none) = some false
    rw [h T]
    exact ih
theorem se_isi2 {CT : CTab} {X : Cx} {e : Expr} {x y : Str} {p p2 p3 pt pos : Pos} {kt : Nat} {de : DE} {T U : Ty} {cs : List Nat} (hI : InsFs (gX CT X) cs) (hg : Gl X "isinstance") (hm : X.mg "isinstance" = none) (hg2 : Gl X x) (hm2 : X.mg x = none) (hv : bootBuiltins x = some (.type T.name)) (hg3 : Gl X y) (hm3 : X.mg y = none) (hv3 : bootBuiltins y = some (.type U.name)) (h : SE CT X e de)
    (hn : x ≠ "__name__" := by decide) (hdb : (x == ("__debug__" : Str)) = false := by decide) (hn3 : y ≠ "__name__" := by decide) (hdb3 : (y == ("__debug__" : Str)) = false := by decide)
    (hs0 : starEach [.Name x p2, .Name y p3] X.env = (false, eval (.Name x p2) X.env) :: starEach [.Name y p3] X.env := by rfl) (hs00 : starEach [.Name y p3] X.env = (false, eval (.Name y p3) X.env) :: starEach [] X.env := by rfl)
    (hs1 : starEach [.Tuple [.Name x p2, .Name y p3] kt pt] X.env = (false, eval (.Tuple [.Name x p2, .Name y p3] kt pt) X.env) :: starEach [] X.env := by rfl)
    (he : starEach [e, .Tuple [.Name x p2, .Name y p3] kt pt] X.env = (false, eval e X.env) :: starEach [.Tuple [.Name x p2, .Name y p3] kt pt] X.env := by rfl) (hpl : (backTo pos (starEach [.Tuple [.Name x p2, .Name y p3] kt pt] X.env)).any (·.1) = false := by rfl) :
    SE CT X (.Call (.Name "isinstance" p) [e, .Tuple [.Name x p2, .Name y p3] kt pt] [] pos) (dIsi cs [T, U] de) := by
  obtain ⟨te, a, b⟩ := h
  refine ⟨_, pe_callB call_isiT hg hm boot_isinstance (pa_cons a (pa_cons (pe_tup (pa_cons (pe_bltn (v := .ty T.name) hg2 hm2 hv rfl hn hdb) (pa_cons (pe_bltn (v := .ty U.name) hg3 hm3 hv3 rfl hn3 hdb3) pa_nil hs00) hs0)) pa_nil hs1) he) (by decide) (by decide) he hpl, fun B F H σ ρ env Q w l p E s => ?_⟩
  refine b B F H σ ρ env _ w l p E (s.bind.mono fun r sr F1 H1 v ρ1 w1 x1 p1 E1 i1 => ?_)
  obtain ⟨d, ed, s2⟩ := sr.bind
  refine ⟨(show 2 ≤ sizeLine by decide), fun t ht => ?_⟩
  have w2 : Wd B F1 (upd H1 t (.tup [.ty T.name, .ty U.name])) := w1.laid ht
  have E2 : EnvIs (gX CT X) B F1 (upd H1 t (.tup [.ty T.name, .ty U.name])) ρ1 r.2 := E1.laid ht
  have vw := look_ok E2 i1 ed
  have pc : Paired ClsV [.ty T.name, .ty U.name] ([T, U].map fun T => Value.type T.name) := .cons (.ty _) (.cons (.ty _) .nil)
  cases q : isIns d with
  | none =>
    rw [q] at s2
    obtain ⟨nx, s2⟩ := sat_if s2
    obtain ⟨_, e2, k⟩ := s2
    cases e2
    exact ⟨v, t, _, _, _, _, rfl, upd_same, pc, tyx_of w2.sub vw q nx, kitAny_ty fun T => kit_ty (kit_isTy T d q nx), k F1 _ _ ρ1 w2 x1 p1 E2 (.val (.bl _))⟩
  | some c =>
    rw [q] at s2
    obtain ⟨hc, s2⟩ := sat_if s2
    obtain ⟨_, e2, k⟩ := s2
    cases e2
    obtain ⟨C, hC, f⟩ := hI c hc
    cases d with
    | ins c' fs =>
      cases q
      exact ⟨v, t, _, _, _, _, rfl, upd_same, pc, tyx_ins w2.sub vw hC f, kitAny_ins f.no, k F1 _ _ ρ1 w2 x1 p1 E2 (.val (.bl false))⟩
    | _ => cases q
structure IsCF (K : PySem.W.Frag) (C0 : Addr) : Prop where
  no : ∀ d : D, isIns d = none → isExc d = false → PySem.W.kitOne K (.type (kindD d)) (.ref C0) = some false
/-! ### methods of texts -/
def OpS (g : G) (r : V → List V → Hp → VK → Prop) (f : Str → List D → Option Rs) : Prop := ∀ (F H : Hp) (z : Str) (xs : List V) (ds : List D) (Q : VK), Sub F H → ViewL g F H xs ds → Sat (f z ds) (RsOk g F H Q) → r (.str z) xs H Q
def strOf : Vl → Option Str
  | .val (.str z) => some z
  | _ => none
def dMS (f : Str → List D → Option Rs) (d0 : DE) (da : DA) : DE := fun env => (d0 env).bind fun r => (strOf r.1).bind fun z => (da r.2).bind fun q => (looks q.2 q.1).bind fun xs => (f z xs).bind fun y => some (fin q.2 y)
theorem strOf_eq {l : Vl} {z : Str} (h : strOf l = some z) : l = .val (.str z) := by
  unfold strOf at h
  split at h
  · cases h; rfl
  · cases h
theorem se_ms {CT : CTab} {X : Cx} {o e : Expr} {es : List Expr} {name : Str} {id : String} {apos cpos : Pos} {r : V → List V → Hp → VK → Prop} {f : Str → List D → Option Rs} {d0 : DE} {da : DA} (slot : Slot "str" name id) (hty : typeOf (.builtin id) = pure (.type "method_descriptor")) (hm : MtR X id r) (hs : OpS (gX CT X) r f)
    (ho : SE CT X o d0) (ha : SA CT X (e :: es) da) (hbase : attributeBase o name X.env (eval o X.env) = eval o X.env := by rfl)
    (hfew : ((backTo cpos (starEach (e :: es) X.env)).all (fun x => !x.1) && (backToKw cpos (keywordEach [] X.env)).all (fun x => x.1.isSome)
      && decide ((e :: es).length + ([] : List Keyword).length + (if ([] : List Keyword).isEmpty then 0 else 1) < 30)) = true := by rfl)
    (hline : (apos.endLine == cpos.line) = true := by rfl) (hst : starEach (e :: es) X.env = (false, eval e X.env) :: starEach es X.env := by rfl) (hplain : (backTo cpos (starEach es X.env)).any (·.1) = false := by rfl) :
    SE CT X (.Call (.Attribute o name apos) (e :: es) [] cpos) (dMS f d0 da) := by
  obtain ⟨_, a0, b0⟩ := ho
  obtain ⟨_, a1, b1⟩ := ha
  refine ⟨_, pe_bm PySem.F.plainAttrs_str slot hty hm a0 a1 hbase hfew hline hst hplain, fun B F H σ ρ env Q w l p E s => ?_⟩
  refine b0 B F H σ ρ env _ w l p E (s.bind.mono fun r1 s1 F1 H1 x ρ1 w1 x1 p1 E1 i1 => ?_)
  obtain ⟨z, ez, s2⟩ := s1.bind
  have hx : x = .str z := by
    rw [strOf_eq ez] at i1
    cases i1 with
    | val i => cases i; rfl
  subst hx
  refine ⟨rfl, ?_⟩
  refine b1 B F1 H1 σ ρ1 r1.2 _ w1 l (p.trans p1) E1 (s2.bind.mono fun r2 s3 F2 H2 vs ρ2 w2 x2 p2 E2 i2 => ?_)
  obtain ⟨xs, ex, s4⟩ := s3.bind
  refine hs F2 H2 z vs xs Q w2.sub (looks_ok E2 i2 ex) (s4.bind.mono fun rs s5 => ?_)
  obtain ⟨q, eq, k⟩ := s5
  cases eq
  exact fin_ok w2 E2 fun F' H' v ρ' w' e' p' E' i' => k F' H' v ρ' w' ((x1.trans x2).trans e') ((p1.trans p2).trans p') E' i'
def dLstripC (z : Str) : List D → Option Rs
  | [.str b] => if z.length ≤ LIM then some (.val (.str (Txt.lstripChars z b))) else none
  | _ => none
theorem strs_is {g : G} {F : Hp} : ∀ {ys : List Str}, IsL g F (ys.map V.str) (ys.map D.str)
  | [] => .nil
  | y :: ys => .cons (.str y) strs_is
def dSplit (z : Str) : List D → Option Rs
  | [.str b] => if (b.length == 0) = false ∧ z.length + 2 ≤ LIM then some (.new (.lst ((Txt.split z b).map D.str))) else none
  | _ => none
theorem sem_split {g : G} : OpS g (fun x xs H Q => ∃ a b, x = .str a ∧ xs = [.str b] ∧ (b.length == 0) = false ∧ a.length + 2 ≤ sizeLine ∧ rNewStrs (Txt.split a b) H Q) dSplit := fun F H z xs ds Q s h sa => by
  unfold dSplit at sa
  split at sa
  · obtain ⟨x, rfl, hx⟩ := view1 h
    rw [viewS hx]
    obtain ⟨c, sa⟩ := sat_if sa
    exact ⟨_, _, rfl, rfl, c.1, lim_le c.2, fun p n => sat_some sa p _ n (.lst strs_is)⟩
  · exact (sat_none sa).elim
end Sim
namespace Sim
open PySem PySem.Spec PyProof.Rows L2

/-! ### methods that change a list of our own -/
def lstAt (env : Env) (j : Nat) : Option (Bool × List D) := match env[j]? with
  | some (some (.own p (.lst xs))) => some (p, xs)
  | _ => none
theorem lstAt_eq {env : Env} {j : Nat} {p : Bool} {xs : List D} (h : lstAt env j = some (p, xs)) : env[j]? = some (some (.own p (.lst xs))) := by
  unfold lstAt at h
  split at h
  · cases h; assumption
  · cases h
theorem EnvIs.lst {g : G} {B : Base} {F H : Hp} {ρ : L2.St} {env : Env} (E : EnvIs g B F H ρ env) {j : Nat} {p : Bool} {xs : List D} (e : env[j]? = some (some (.own p (.lst xs)))) : ∃ a va, ρ[j]? = some (some (.ref a)) ∧ F a = none ∧ Mine B p a ∧ H a = some (.lst va) ∧ IsL g F va xs := by
  obtain ⟨a, ho, x, n, m, h, r⟩ := E.own e
  cases r with
  | lst l => exact ⟨a, _, x, n, m, h, l⟩
theorem at_ref {g : G} {B : Base} {F F' H H' : Hp} {ρ ρ' : L2.St} {env : Env} {vl : Vl} {v : V} {j : Nat} {a : Addr} (e : atOf vl = some j) (i : VIs g F ρ v vl) (p : ρ <+: ρ') (x : ρ'[j]? = some (some (.ref a))) : v = .ref a := by
  cases vl with
  | val d => cases e
  | «at» k =>
    cases e
    cases i with
    | «at» i =>
      obtain ⟨τ, rfl⟩ := p
      rw [List.getElem?_append_left (List.getElem?_eq_some_iff.mp i).1, i] at x
      cases x
      rfl
def uPop (xs : List D) : List D → Option (D × List D)
  | [] => (xs[xs.length - 1]?).map fun y => (y, xs.dropLast)
  | [.int i] => if -(2 ^ 63) ≤ i ∧ i < 2 ^ 63 then (ixN xs.length i).bind fun k => (xs[k]?).map fun y => (y, xs.eraseIdx k) else none
  | _ => none
theorem IsL.dropLast {g : G} {F : Hp} : ∀ {v : List V} {d : List D}, IsL g F v d → IsL g F v.dropLast d.dropLast
  | _, _, .nil => .nil
  | _, _, .cons _ .nil => .nil
  | _, _, .cons h (.cons h2 l) => .cons h (IsL.dropLast (.cons h2 l))
/-! ### a[i] = e, d[k] = e, o.f = e -/
inductive KeyIs : V → D → Key → Prop where
  | int (i : Int) : KeyIs (.int i) (.int i) (.inl i)
  | str (x : Str) : KeyIs (.str x) (.str x) (.inr x)
def keyOf : D → Option Key
  | .int i => some (.inl i)
  | .str x => some (.inr x)
  | _ => none
theorem key_is {g : G} {F H : Hp} {v : V} {d : D} {k : Key} (h : View g F H v d) (e : keyOf d = some k) : v = kV k := by
  cases d <;> first
    | (cases e; done)
    | skip
  · rw [viewI h]; cases e; rfl
  · rw [viewS h]; cases e; rfl
def valK (kvs : List (Key × D)) (k : Key) : Option D := (kvs.find? fun p => decide (p.1 = k)).map (·.2)
def putKD (kvs : List (Key × D)) (k : Key) (d : D) : List (Key × D) := if (kvs.any fun p => decide (p.1 = k)) = true then kvs.map (fun p => if p.1 = k then (p.1, d) else p) else kvs ++ [(k, d)]
/-- what is stored into an own object by an index or a key -/
def storeO (o : Ob) (i d : D) : Option Ob := match o, i with
  | .lst xs, .int k => (ixN xs.length k).map fun j => .lst (xs.set j d)
  | .dic kvs, i => (keyOf i).bind fun k => if kvs.length < LIM then some (.dic (putKD kvs k d)) else none
  | _, _ => none
def dStore (d0 di de : DE) : DS := fun env => (dd de env).bind fun r => (d0 r.2).bind fun r0 => (atOf r0.1).bind fun j => (di r0.2).bind fun r1 => (look r1.2 r1.1).bind fun i => (ownAt r1.2 j).bind fun po => (storeO po.2 i r.1).bind fun o => some (.nx ((r1.2.set j (some (.own po.1 o))).take env.length))
section
variable {g : G} {F : Hp}
theorem IsK.val : ∀ {vs : List (Key × V)} {ds : List (Key × D)} (k : Key), IsK g F vs ds → (∀ d, valK ds k = some d → ∃ v, valV vs k = some v ∧ Is g F v d) ∧ (valK ds k = none → valV vs k = none)
  | _, _, k, .nil => ⟨fun d e => (nomatch e), fun _ => rfl⟩
  | _, _, k, .cons (k := k0) (v := v) (vs := vs) (d := d) (ds := ds) h l => by
    obtain ⟨h1, h2⟩ := IsK.val k l
    by_cases c : k0 = k
    · have e1 : valK ((k0, d) :: ds) k = some d := by simp [valK, List.find?_cons, c]
      have e2 : valV ((k0, v) :: vs) k = some v := valV_pos (p := (k0, v)) c
      exact ⟨fun d' e => by rw [e1] at e; cases e; exact ⟨v, e2, h⟩, fun e => by rw [e1] at e; cases e⟩
    · have e1 : valK ((k0, d) :: ds) k = valK ds k := by simp [valK, List.find?_cons, c]
      have e2 : valV ((k0, v) :: vs) k = valV vs k := valV_neg (p := (k0, v)) c
      exact ⟨fun d' e => by rw [e1] at e; rw [e2]; exact h1 d' e, fun e => by rw [e1] at e; rw [e2]; exact h2 e⟩
theorem IsK.any : ∀ {vs : List (Key × V)} {ds : List (Key × D)} (k : Key), IsK g F vs ds → (vs.any fun p => decide (p.1 = k)) = (ds.any fun p => decide (p.1 = k))
  | _, _, _, .nil => rfl
  | _, _, k, .cons _ l => by rw [List.any_cons, List.any_cons, IsK.any k l]
theorem IsK.map : ∀ {vs : List (Key × V)} {ds : List (Key × D)} (k : Key) {v : V} {d : D}, IsK g F vs ds → Is g F v d → IsK g F (vs.map fun p => if p.1 = k then (p.1, v) else p) (ds.map fun p => if p.1 = k then (p.1, d) else p)
  | _, _, _, _, _, .nil, _ => .nil
  | _, _, k, v, d, .cons (k := k0) h l, i => by
    rw [List.map_cons, List.map_cons]
    by_cases c : k0 = k
    · rw [if_pos c, if_pos c]; exact .cons i (IsK.map k l i)
    · rw [if_neg c, if_neg c]; exact .cons h (IsK.map k l i)
theorem IsK.snoc : ∀ {vs : List (Key × V)} {ds : List (Key × D)} (k : Key) {v : V} {d : D}, IsK g F vs ds → Is g F v d → IsK g F (vs ++ [(k, v)]) (ds ++ [(k, d)])
  | _, _, _, _, _, .nil, i => .cons i .nil
  | _, _, k, _, _, .cons h l, i => .cons h (IsK.snoc k l i)
theorem IsK.put {vs : List (Key × V)} {ds : List (Key × D)} (k : Key) {v : V} {d : D} (l : IsK g F vs ds) (i : Is g F v d) : IsK g F (putK vs k v) (putKD ds k d) := by
  unfold putK putKD
  rw [l.any k]
  by_cases c : (ds.any fun p => decide (p.1 = k)) = true
  · rw [if_pos c, if_pos c]; exact l.map k i
  · rw [if_neg c, if_neg c]; exact l.snoc k i
end
theorem PSet.or {X : Cx} {t u : TSet} (h : PSet X t) (h' : PSet X u) : PSet X (fun o i v H Q => t o i v H Q ∨ u o i v H Q) := by
  intro pins s σ H o i v ov iv u' Q I ro ri rv q
  rcases q with q | q
  · exact h pins s σ H o i v ov iv u' Q I ro ri rv q
  · exact h' pins s σ H o i v ov iv u' Q I ro ri rv q
theorem simStore {g : G} {W : WX} {n : Nat} {t0 ti te : TE} {d0 di de : DE} (h0 : SimE g n t0 d0) (hi : SimE g n ti di) (he : SimE g n te de) : SimS g W n (tAsg te (gSub t0 ti fun o i v H Q => rSetL o i v H Q ∨ rSetD o i v H Q)) (dStore d0 di de) := fun B F H σ env T w l E s => by
  refine he.d B F H σ σ env _ w l List.prefix_rfl E (s.bind.mono fun r s1 F1 H1 v ρ1 w1 x1 p1 E1 iv => ?_)
  refine h0 B F1 H1 σ ρ1 r.2 _ w1 l p1 E1 (s1.bind.mono fun r0 s2 F2 H2 v0 ρ2 w2 x2 p2 E2 i2 => ?_)
  obtain ⟨j, ej, s3⟩ := s2.bind
  refine hi B F2 H2 σ ρ2 r0.2 _ w2 l (p1.trans p2) E2 (s3.bind.mono fun r1 s4 F3 H3 vi ρ3 w3 x3 p3 E3 i3 => ?_)
  obtain ⟨i, ei, s5⟩ := s4.bind
  obtain ⟨po, eo, s6⟩ := s5.bind
  obtain ⟨o, es, s7⟩ := s6.bind
  obtain ⟨z, ez, k⟩ := s7
  cases ez
  have vw := look_ok E3 i3 ei
  obtain ⟨pp, ob⟩ := po
  have eo' := ownAt_eq eo
  obtain ⟨a, ho, ea, nf, mm, hh, ro⟩ := E3.own eo'
  have ev : v0 = .ref a := at_ref (B := B) (F' := F3) (H := H2) (H' := H3) (env := r1.2) ej i2 p3 ea
  subst ev
  have iv' := iv.mono (x2.trans x3)
  have done : ∀ ho', ObIs g F3 ho' o → T.nx σ (upd H3 a ho') := fun ho' ro' => k F3 _ σ (w3.write nf mm hh) ((x1.trans x2).trans x3) l (by rw [← E.len, l]; exact (E3.write eo' ea ro').takeP ((p1.trans p2).trans p3) l)
  cases ro with
  | @lst vs ds il =>
    cases i with
    | int q =>
      obtain ⟨m, e1, e2⟩ := Option.map_eq_some_iff.mp (show (ixN ds.length q).map (fun j => Ob.lst (ds.set j r.1)) = some o from es)
      subst e2
      rw [viewI vw]
      exact .inl ⟨a, vs, q, m, rfl, rfl, hh, by rw [il.len]; exact e1, done _ (.lst (il.set m iv'))⟩
    | _ => cases es
  | @dic vs ds il =>
    have es' : (keyOf i).bind (fun k => if ds.length < LIM then some (Ob.dic (putKD ds k r.1)) else none) = some o := by
      cases i <;> exact es
    obtain ⟨k0, e1, e2⟩ := Option.bind_eq_some_iff.mp es'
    by_cases c : ds.length < LIM
    · rw [if_pos c] at e2
      cases e2
      rw [key_is vw e1]
      exact .inr ⟨a, _, rfl, DPut.k hh (by rw [il.len]; exact lim_lt c), done _ (.dic (il.put k0 iv'))⟩
    · rw [if_neg c] at e2
      cases e2
  | obj m il z => cases i <;> cases es
theorem ss_store {CT : CTab} {X : Cx} {o i e : Expr} {d0 di de : DE} {pos p2 : Pos} (hu : X.A.units + 1 < cLine) (h0 : SE CT X o d0) (hi : SE CT X i di) (he : SE CT X e de)
    (ha : ∀ v, assign (.Subscript o i p2) X.env v = (do
      let ov ← holding [v] (eval o X.env)
      let iv ← holding [v, ov] (eval i X.env)
      standAt p2
      holding [v, ov, iv] (setItem ov iv v)
      release [v, ov, iv] []) := by intro _; rfl) (hs : swapsWithSole [.Subscript o i p2] e pos.line X.env = pure false := by rfl) (hw : swappedStores [.Subscript o i p2] e X.env = pure none := by rfl) (h1 : (assignEach [.Subscript o i p2] X.env).map (·.2) = [assign (.Subscript o i p2) X.env] := by rfl) :
    SS CT X (.Assign [.Subscript o i p2] e pos) (dStore d0 di de) := by
  obtain ⟨_, a0, b0⟩ := h0
  obtain ⟨_, a1, b1⟩ := hi
  obtain ⟨_, a2, b2⟩ := he
  exact ⟨_, ps_asg a2 (pg_sub a0 a1 (PSet.or set_list (set_dict hu)) ha) hs hw h1, simStore b0 b1 b2⟩

/-! ### attributes -/
structure AttrF (g : G) (c k : Nat) (f : Str) : Prop where
  ix : (g.CT c).2.idxOf? f = some k
  ex : ∀ C, g.mg (g.CT c).1 = some (.ref C) → Cls g.K C ∧ NoAttr g.K C f
def dFld (c k : Nat) (de : DE) : DE := fun env => (de env).bind fun r => (look r.2 r.1).bind fun d => match d with
  | .ins c' fs => if c' = c then (fs[k]?).map fun x => (.val x, r.2) else none
  | _ => none
/-- a new attribute, the next in the class's order -/
def setF (c k : Nat) (d : D) : Ob → Option Ob
  | .obj c' fs => if c' = c ∧ fs.length = k ∧ fs.length < 900 then some (.obj c' (fs ++ [d])) else none
  | _ => none
def dSetF (c k : Nat) (d0 de : DE) : DS := fun env => (dd de env).bind fun r => (d0 r.2).bind fun r0 => (atOf r0.1).bind fun j => (ownAt r0.2 j).bind fun po => (setF c k r.1 po.2).bind fun o => some (.nx ((r0.2.set j (some (.own po.1 o))).take env.length))
theorem putF_zip : ∀ {ns : List Str} {vs : List V} {f : Str} {y : V}, ns.idxOf? f = some vs.length → putF f y (zipF ns vs) = zipF ns (vs ++ [y])
  | [], _, _, _, e => by cases e
  | m :: ns, [], f, y, e => by
    rw [List.idxOf?_cons] at e
    by_cases c : m = f
    · subst c
      simp [zipF, putF]
    · rw [if_neg (by simpa using c)] at e
      obtain ⟨j, e1, e2⟩ := Option.map_eq_some_iff.mp e
      cases e2
  | m :: ns, v :: vs, f, y, e => by
    rw [List.idxOf?_cons] at e
    by_cases c : m = f
    · subst c
      rw [if_pos (by simp)] at e
      cases e
    · rw [if_neg (by simpa using c)] at e
      obtain ⟨j, e1, e2⟩ := Option.map_eq_some_iff.mp e
      have e3 : j = vs.length := by simpa using e2
      subst e3
      have ih := putF_zip (vs := vs) (y := y) e1
      unfold zipF at ih ⊢
      rw [List.zip_cons_cons, List.cons_append, List.zip_cons_cons]
      show (if m = f then _ else (m, v) :: putF f y (ns.zip vs)) = _
      rw [if_neg c, ih]
theorem simSetF {g : G} {W : WX} {n c k : Nat} {f : Str} {t0 te : TE} {d0 de : DE} (A : AttrF g c k f) (h0 : SimE g n t0 d0) (he : SimE g n te de) : SimS g W n (sFld g.K t0 te f) (dSetF c k d0 de) := fun B F H σ env T w l E s => by
  refine he.d B F H σ σ env _ w l List.prefix_rfl E (s.bind.mono fun r s1 F1 H1 v ρ1 w1 x1 p1 E1 iv => ?_)
  refine h0 B F1 H1 σ ρ1 r.2 _ w1 l p1 E1 (s1.bind.mono fun r0 s2 F2 H2 v0 ρ2 w2 x2 p2 E2 i2 => ?_)
  obtain ⟨j, ej, s3⟩ := s2.bind
  obtain ⟨po, eo, s6⟩ := s3.bind
  obtain ⟨o, es, s7⟩ := s6.bind
  obtain ⟨z, ez, kk⟩ := s7
  cases ez
  obtain ⟨pp, ob⟩ := po
  have eo' := ownAt_eq eo
  obtain ⟨a, ho, ea, nf, mm, hh, ro⟩ := E2.own eo'
  have ev : v0 = .ref a := at_ref (B := B) (F' := F2) (H := H2) (H' := H2) (env := r0.2) ej i2 List.prefix_rfl ea
  subst ev
  cases ro with
  | @obj C dx c' vs ds hm il hl =>
    change (if c' = c ∧ ds.length = k ∧ ds.length < 900 then some (Ob.obj c' (ds ++ [r.1])) else none) = some o at es
    by_cases q : c' = c ∧ ds.length = k ∧ ds.length < 900
    · rw [if_pos q] at es
      cases es
      obtain ⟨rfl, hk, hlt⟩ := q
      obtain ⟨hc, hn⟩ := A.ex C hm
      have hx : (g.CT c').2.idxOf? f = some vs.length := by rw [il.len, hk]; exact A.ix
      have hlt2 : vs.length < (g.CT c').2.length := by
        have := List.findIdx?_eq_some_iff_findIdx_eq.mp (show (g.CT c').2.findIdx? (· == f) = some vs.length from hx)
        exact this.1
      refine ⟨a, C, dx, _, rfl, hh, hc, hn, ?_, ?_⟩
      · unfold zipF
        rw [List.length_zip, il.len]
        omega
      · rw [putF_zip hx]
        refine kk F2 _ σ (w2.write nf mm hh) (x1.trans x2) l ?_
        rw [← E.len, l]
        exact (E2.write eo' ea (.obj hm (il.append (.cons (iv.mono x2) .nil)) (by rw [List.length_append]; exact hlt2))).takeP (p1.trans p2) l
    · rw [if_neg q] at es
      cases es
  | lst l => cases es
  | dic l => cases es
theorem ss_setF {CT : CTab} {X : Cx} {o e : Expr} {f : Str} {c k : Nat} {pos pos' : Pos} {d0 de : DE} (A : AttrF (gX CT X) c k f) (h0 : SE CT X o d0) (he : SE CT X e de) (hs : swapsWith e (some (.Attribute o f pos')) pos.line X.env = pure false := by rfl) : SS CT X (.Assign [.Attribute o f pos'] e pos) (dSetF c k d0 de) := by
  obtain ⟨_, a0, b0⟩ := h0
  obtain ⟨_, a1, b1⟩ := he
  exact ⟨_, ps_fld a0 a1 hs, simSetF A b0 b1⟩
end Sim
namespace Sim
open PySem PySem.Spec PyProof.Rows
/-! ### a set made of a list of keys: ints and texts -/
section
variable {κ : Type} [DecidableEq κ]
def addK (acc : List κ) (k : κ) : List κ := if (acc.any fun y => decide (y = k)) = true then acc else acc ++ [k]
def uniq (ks : List κ) : List κ := ks.foldl addK []
theorem uniq_snoc (ks : List κ) (k : κ) : uniq (ks ++ [k]) = addK (uniq ks) k := by unfold uniq; rw [List.foldl_append]; rfl
theorem addK_any (acc : List κ) (v k : κ) : ((addK acc v).any fun y => decide (y = k)) = ((acc.any fun y => decide (y = k)) || decide (k = v)) := by
  unfold addK
  by_cases h : (acc.any fun y => decide (y = v)) = true
  · rw [if_pos h]
    by_cases e : k = v
    · rw [e, h]; rfl
    · rw [decide_eq_false e, Bool.or_false]
  · rw [if_neg h, List.any_append]
    by_cases e : k = v
    · rw [e]; simp
    · have hb : decide (v = k) = false := decide_eq_false fun q => e q.symm
      simp [hb, e]
theorem addK_len (acc : List κ) (v : κ) : (addK acc v).length = if (acc.any fun y => decide (y = v)) = true then acc.length else acc.length + 1 := by
  unfold addK
  by_cases h : (acc.any fun y => decide (y = v)) = true
  · rw [if_pos h, if_pos h]
  · rw [if_neg h, if_neg h, List.length_append]; rfl
theorem uniq_len (ks : List κ) : (uniq ks).length ≤ ks.length := by
  have go : ∀ (ks acc : List κ), (ks.foldl addK acc).length ≤ acc.length + ks.length := by
    intro ks
    induction ks with
    | nil => intro acc; exact Nat.le_refl _
    | cons k ks ih =>
      intro acc
      have h := ih (addK acc k)
      have h2 : (addK acc k).length ≤ acc.length + 1 := by rw [addK_len]; split <;> omega
      rw [List.foldl_cons, List.length_cons]
      omega
  simpa [uniq] using go ks []
end
theorem setOf_same {prog : Program} {w : World} {κ : Type} [DecidableEq κ] {knd : KeyKind prog w κ} {h : Heap} {a : Addr} {S T : κ → Bool} {n m : Nat} (q : h.SetOf knd a S n) (e : ∀ k, S k = T k) (en : n = m) : h.SetOf knd a T m := by
  obtain rfl : S = T := funext e
  subst en
  exact q
section
variable {prog : Program} {w : World} {A : Around} {R : Result → Shared → Prop}
theorem setLoop {κ : Type} [DecidableEq κ] {knd : KeyKind prog w κ} (scn : ∀ k v, knd.is k v = true → v.scannable = true) {it T : Addr} {fp wr : List Addr} {GG : Array GenState → Array GenState → Prop} {P : Nat → Value → Prop} {At : Nat → Shared → Prop} {ks : List κ}
    (W : WalksS prog w A.in1 it fp wr GG ks.length P At) (nT : T ∉ fp) (hv : ∀ (i : Nat) (k : κ) (v : Value), ks[i]? = some k → P i v → knd.is k v = true) (few : ks.length + 1 < scanBound) :
    ∀ (m i : Nat) (s : Shared), ks.length - i = m → i ≤ ks.length → At i s → s.heap.SetOf knd T (fun x => (uniq (ks.take i)).any fun y => decide (y = x)) (uniq (ks.take i)).length →
      (∀ s', Moved (T :: wr) GG s s' → s'.heap.SetOf knd T (fun x => (uniq ks).any fun y => decide (y = x)) (uniq ks).length → R (.ok (.ret .none)) s') → codeAny (model prog w) A (.builtin "set.update.loop" ⟨[.ref T, .ref it], []⟩) R s := by
  have nW : T ∉ wr := fun q => nT (W.sub _ q)
  have up : ∀ b ∈ wr, b ∈ T :: wr := fun b q => .tail _ q
  intro m
  induction m with
  | zero =>
    intro i s e1 e2 at1 so fin1
    obtain rfl : i = ks.length := by omega
    refine codeAny_builtin PyProof.Rows.F.entry_set_update_loop ?_
    rw [Around.under_plainId PyProof.Rows.F.plain_set_update_loop _]
    show wpAny _ A.in1 (pyNext (.ref it) >>= _) _ _ s
    refine wpAny_bind (W.done s _ _ at1 fun s1 mv => ?_)
    show wpAny _ A.in1 (ret Value.none) _ _ s1
    rw [List.take_length] at so
    obtain ⟨ob, es, ep, tb, ho, r⟩ := so
    exact wpAny_pure (fin1 s1 (mv.mono up) ⟨ob, es, ep, tb, mv.heap T _ nW ho, r⟩)
  | succ m ih =>
    intro i s e1 e2 at1 so fin1
    have lt : i < ks.length := by omega
    refine codeAny_builtin PyProof.Rows.F.entry_set_update_loop ?_
    rw [Around.under_plainId PyProof.Rows.F.plain_set_update_loop _]
    show wpAny _ A.in1 (pyNext (.ref it) >>= _) _ _ s
    refine wpAny_bind (W.item i s _ _ lt at1 fun v s1 pv at2 mv => ?_)
    have ik : knd.is ks[i] v = true := hv i ks[i] v (List.getElem?_eq_getElem lt) pv
    have so1 : s1.heap.SetOf knd T (fun x => (uniq (ks.take i)).any fun y => decide (y = x)) (uniq (ks.take i)).length := by
      obtain ⟨ob, es, ep, tb, ho, r⟩ := so
      exact ⟨ob, es, ep, tb, mv.heap T _ nW ho, r⟩
    show wpAny _ A.in1 (holding [v] (setAdd T v) >>= _) _ _ s1
    refine wpAny_bind (wpAny_holding ?_)
    unfold setAdd
    refine wpAny_holding (wpAny_bind (knd.pyHash (k := ks[i]) ik ?_))
    have room : (uniq (ks.take i)).length + 1 < scanBound := by
      have := uniq_len (ks.take i)
      rw [List.length_take] at this
      omega
    refine wpAny_setAddHashed_of (s := { s1 with toks := s1.toks + 1 }) ik (scn _ _ ik) so1 room fun h1 sb so2 => ?_
    have nx : uniq (ks.take (i + 1)) = addK (uniq (ks.take i)) ks[i] := by rw [List.take_add_one, List.getElem?_eq_getElem lt]; exact uniq_snoc _ _
    have so3 : h1.SetOf knd T (fun x => (uniq (ks.take (i + 1))).any fun y => decide (y = x)) (uniq (ks.take (i + 1))).length := setOf_same so2 (fun x => by rw [nx, addK_any]) (by rw [nx, addK_len])
    refine wpAny_pure ⟨plainId_quiet PyProof.Rows.F.plain_set_update_loop _, ih (i + 1) _ (by omega) lt (W.frame _ s1 _ _ at2 (Nat.le_succ _) fun b q o e => ?_) so3 fun s2 mv2 so4 => ?_⟩
    · rw [sb.2 b (fun z => nT (by rw [← z]; exact q))]
      exact e
    · refine fin1 s2 (Moved.trans W.gtrans ((mv.mono up).then_heap (Nat.le_succ _) fun b o q e => ?_) mv2) so4
      rw [sb.2 b (fun z => q (by rw [z]; exact .head _))]
      exact e
end
section
variable {prog : Program} {w : World} {A : Around} {E : Value → Shared → Prop} {s : Shared}
set_option maxHeartbeats 3200000 in
theorem setOfList {κ : Type} [DecidableEq κ] {knd : KeyKind prog w κ} (scn : ∀ k v, knd.is k v = true → v.scannable = true) {l : Addr} {its : Array Value} {ks : List κ} {Q : Value → Shared → Prop} (calm : A.handled = none) (hl : s.heap.IsList l its)
    (hn : ks.length = its.size) (hv : ∀ (i : Nat) (k : κ) (v : Value), ks[i]? = some k → its[i]? = some v → knd.is k v = true) (few : ks.length + 1 < scanBound)
    (h : ∀ (h1 : Heap) (tk : Nat), h1.SetOf knd s.heap.objs.size (fun x => (uniq ks).any fun y => decide (y = x)) (uniq ks).length → (∀ b o, b < s.heap.objs.size → s.heap.get? b = some o → h1.get? b = some o) → Q (.ref s.heap.objs.size) { s with heap := h1, toks := tk }) :
    wpAny (model prog w) A (call (.type "set") [.ref l]) Q E s := by
  obtain ⟨c, tl, hmro⟩ := PySem.F.called_set.mro
  have k1 := PySem.F.called_set.made
  have k2 := PySem.F.called_set.sub
  refine wpAny_call (codeAny_of_tree ?_)
  show wpAny _ _ (callAny (.type "set") _) _ _ _
  refine wpAny_pure ⟨Code.quiet_builtin _ (by decide +kernel), codeAny_builtin PySem.F.entry_type_call ?_⟩
  rw [Around.under_plain (weight_type_call_type "set" [.ref l] []) rfl]
  have k3 := PySem.F.called_set.notType
  have k4 := PySem.F.called_set.canCreate
  have k5 := PySem.F.typeCall_set_1 (.ref l)
  repeat (any_goals (first | assumption | wp_step))
  refine codeAny_mono (code_set_new_1 (.ref l) (E := E) (Q₁ := fun x s1 => ∃ led : Bool, x = .ref s.heap.objs.size ∧ s1 = { s with heap := s.heap.push { cls := .type "set", dict := none, data := .set #[] 0 (.fresh 0 0 led) } }) fun led => ⟨led, rfl, rfl⟩) fun r s1 hr => ?_
  cases r with
  | error e => exact hr
  | ok fl =>
    cases fl with
    | ret x =>
      obtain ⟨led, rfl, rfl⟩ := hr
      have g0 : (s.heap.push { cls := .type "set", dict := none, data := .set #[] 0 (.fresh 0 0 led) }).get? s.heap.objs.size = some { cls := .type "set", dict := none, data := .set #[] 0 (.fresh 0 0 led) } := Heap.get?_push_size _ rfl
      have tI : Shared.TypeIs { s with heap := s.heap.push { cls := .type "set", dict := none, data := .set #[] 0 (.fresh 0 0 led) } } (.ref s.heap.objs.size) "set" := ⟨_, g0, rfl⟩
      have k6 := PySem.F.called_set.init.lookup
      have k7 := PySem.F.called_set.init.bind (.ref s.heap.objs.size)
      repeat (any_goals (first | assumption | wp_step))
      refine codeAny_mono (codeAny_call_builtin (R := wants (fun r s2 => r = .none ∧ ∃ h1 tk, s2 = { s with heap := h1, toks := tk } ∧ h1.SetOf knd s.heap.objs.size (fun x => (uniq ks).any fun y => decide (y = x)) (uniq ks).length ∧
          (∀ b o, b < s.heap.objs.size → s.heap.get? b = some o → h1.get? b = some o)) E) PySem.F.called_set.init.plain PySem.F.entry_set_init (check_set_init_1 tI ?_)) fun r2 s2 hr2 => ?_
      · obtain ⟨⟨ocls, odict, odata, oslots⟩, hol, hcl, nl, hdl⟩ := id hl
        simp only at hcl hdl
        subst hcl
        subst hdl
        have hol2 : (s.heap.push { cls := .type "set", dict := none, data := .set #[] 0 (.fresh 0 0 led) }).get? l = some { cls := .type "list", dict := odict, data := .seq its nl, slots := oslots } := Heap.get?_push_of_some _ hol
        have k8 := PySem.F.sub_list_set
        have k9 := PySem.F.sub_list_frozenset
        have kA : (Value.type "list" == Value.type "dict") = false := by decide
        have hl2 : (s.heap.push { cls := .type "set", dict := none, data := .set #[] 0 (.fresh 0 0 led) }).IsList l its := ⟨_, hol2, rfl, nl, rfl⟩
        unfold Builtin.«set.__init__» noKeywords Builtin.Frozenset.updateFrom
        generalize qq : pyIter = PI
        wp_walk
        subst qq
        refine wpAny_pyIter_list hl2 (wpAny_bind (wpAny_runValue ?_))
        have l1 : l < s.heap.objs.size := Heap.lt_size hol
        have c3 : A.in1.in1.in1.handled = none := by simp [calm]
        have n1 : l ≠ (s.heap.push { cls := .type "set", dict := none, data := .set #[] 0 (.fresh 0 0 led) }).objs.size := by
          rw [Heap.size_push]
          exact Nat.ne_of_lt (Nat.lt_succ_of_lt l1)
        have n2 : s.heap.objs.size ∉ [(s.heap.push { cls := .type "set", dict := none, data := .set #[] 0 (.fresh 0 0 led) }).objs.size, l] := by
          rw [Heap.size_push]
          simp only [List.mem_cons, List.mem_singleton, List.not_mem_nil, or_false, not_or]
          exact ⟨Nat.ne_of_lt (Nat.lt_succ_self _), Nat.ne_of_gt l1⟩
        have Wk := (Walks.list (prog := prog) (w := w) c3 (s.heap.push { cls := .type "set", dict := none, data := .set #[] 0 (.fresh 0 0 led) }).objs.size l n1 its).toS
        rw [← hn] at Wk
        refine setLoop scn Wk n2 (fun i k v e1 e2 => hv i k v e1 e2) few (ks.length - 0) 0 _ rfl (Nat.zero_le _) ⟨⟨_, Heap.get?_push_size _ rfl, rfl, rfl⟩, hl2.push _⟩ ?_ ?_
        · have g1 : ((s.heap.push { cls := .type "set", dict := none, data := .set #[] 0 (.fresh 0 0 led) }).push { cls := .type "list_iterator", data := .fields #[.ref l, .int 0 0] }).get? s.heap.objs.size = some { cls := .type "set", dict := none, data := .set #[] 0 (.fresh 0 0 led) } := Heap.get?_push_of_some _ g0
          exact setOf_same ((setObjOf_fresh (knd := knd) led).setOf g1 (by unfold scanBound; omega)) (fun _ => rfl) rfl
        · intro s3 mv so
          obtain ⟨h3, g3, d3, t3, o3⟩ := s3
          have q1 : g3 = s.gens := mv.gens
          have q2 : d3 = s.drawn := mv.drawn
          have q3 : o3 = s.os := mv.os
          subst q1
          subst q2
          subst q3
          show wpAny _ _ _ _ _ _
          refine wpAny_pure ?_
          show wpAny _ _ (ret Value.none) _ _ _
          refine wpAny_pure ⟨rfl, h3, t3, rfl, so, fun b o q e => ?_⟩
          have z1 : b ≠ s.heap.objs.size := Nat.ne_of_lt q
          have z2 : b ≠ (s.heap.push { cls := .type "set", dict := none, data := .set #[] 0 (.fresh 0 0 led) }).objs.size := by
            rw [Heap.size_push]
            exact Nat.ne_of_lt (Nat.lt_succ_of_lt q)
          refine mv.heap b o ?_ (Heap.get?_push_of_some _ (Heap.get?_push_of_some _ e))
          simp only [List.mem_cons, List.mem_singleton, List.not_mem_nil, or_false, not_or]
          exact ⟨z1, z2⟩
      · cases r2 with
        | error e => exact hr2
        | ok fl2 =>
          cases fl2 with
          | ret r =>
            obtain ⟨rfl, h1, tk, rfl, so, kp⟩ := hr2
            repeat (any_goals (first | assumption | wp_step))
            exact h _ _ so kp
          | _ => exact hr2.elim
    | _ => exact hr.elim
end
end Sim
namespace Sim
open PySem PySem.Spec PyProof.Rows L2

/-! ### one of two readings, by the data -/
theorem d2_cases {g : G} {n : Nat} {t u : TE} {da db : DE} {f f1 f2 : D → D → Option Rs} (h1 : SimE g n t (d2 f1 da db)) (h2 : SimE g n u (d2 f2 da db)) (hf : ∀ x y, f x y = f1 x y ∨ f x y = f2 x y) : SimE g n (fun σ H Q => t σ H Q ∨ u σ H Q) (d2 f da db) := fun B F H σ ρ env Q w l p E s => by
  obtain ⟨r, e, k⟩ := s
  have e' : ((da env).bind fun r => (db r.2).bind fun q => (look q.2 r.1).bind fun x => (look q.2 q.1).bind fun y => (f x y).bind fun z => some (fin q.2 z)) = some r := e
  obtain ⟨r1, a1, e1⟩ := Option.bind_eq_some_iff.mp e'
  obtain ⟨r2, a2, e2⟩ := Option.bind_eq_some_iff.mp e1
  obtain ⟨x, a3, e3⟩ := Option.bind_eq_some_iff.mp e2
  obtain ⟨y, a4, e4⟩ := Option.bind_eq_some_iff.mp e3
  rcases hf x y with q | q
  · refine .inl (h1 B F H σ ρ env Q w l p E ⟨r, ?_, k⟩)
    unfold d2
    rw [a1, Option.bind_some, a2, Option.bind_some, a3, Option.bind_some, a4, Option.bind_some, ← q]
    exact e4
  · refine .inr (h2 B F H σ ρ env Q w l p E ⟨r, ?_, k⟩)
    unfold d2
    rw [a1, Option.bind_some, a2, Option.bind_some, a3, Option.bind_some, a4, Option.bind_some, ← q]
    exact e4
/-! ### dicts -/
def dDGet : D → D → Option Rs
  | .dic kvs, i => (keyOf i).bind fun k => (valK kvs k).map .val
  | _, _ => none
def rDGet : R2 := fun x y H Q => ∃ a v, x = .ref a ∧ DGet H a y (some v) ∧ Q v H
theorem dget_of {H : Hp} {a : Addr} {vk : List (Key × V)} {k : Key} (h : Rd H a (.dK vk)) : DGet H a (kV k) (valV vk k) := .inl ⟨vk, k, h, rfl, rfl⟩
theorem sem_dget {g : G} : Op2 g rDGet dDGet := fun F H x y dx dy Q s hx hy sa => by
  cases dx <;> first
    | (cases dy <;> exact (sat_none sa).elim)
    | skip
  rename_i kvs
  obtain ⟨a, vk, rfl, h1, l1⟩ := viewD s hx
  have sa' : Sat ((keyOf dy).bind fun k => (valK kvs k).map Rs.val) (RsOk g F H Q) := by cases dy <;> exact sa
  obtain ⟨k, e1, s2⟩ := sa'.bind
  obtain ⟨r, e, kk⟩ := s2
  obtain ⟨d, e2, e3⟩ := Option.map_eq_some_iff.mp e
  subst e3
  obtain ⟨v, h2, h3⟩ := (l1.val k).1 d e2
  rw [key_is hy e1]
  exact ⟨a, v, rfl, by rw [← h2]; exact dget_of h1, kk _ h3⟩
def dIxA (x i : D) : Option Rs := match x with
  | .dic kvs => dDGet (.dic kvs) i
  | x => dIx x i
theorem dIxA_or (x y : D) : dIxA x y = dIx x y ∨ dIxA x y = dDGet x y := by
  cases x <;> first
    | exact .inr rfl
    | exact .inl rfl
theorem se_ixA {CT : CTab} {X : Cx} {a b : Expr} {pos : Pos} {da db : DE} (hu : X.A.units + 1 < cLine) (h1 : SE CT X a da) (h2 : SE CT X b db) (hp : PlainIx b := by intro _ _; rfl) : SE CT X (.Subscript a b pos) (d2 dIxA da db) := by
  obtain ⟨_, a1, b1⟩ := h1
  obtain ⟨_, a2, b2⟩ := h2
  exact ⟨_, PE.or (pe_ix ix_seq a1 a2 hp) (pe_dget hu a1 a2 hp), d2_cases (sim2 b1 b2 sem_ix) (sim2 b1 b2 sem_dget) dIxA_or⟩
/-- k in d -/
def dDIn (neg : Bool) : D → D → Option Rs
  | i, .dic kvs => (keyOf i).map fun k => .val (.bl (if neg then !(valK kvs k).isSome else (valK kvs k).isSome))
  | _, _ => none
def dInA (neg : Bool) (i y : D) : Option Rs := match y with
  | .dic kvs => dDIn neg i (.dic kvs)
  | y => inD neg i y
theorem PT.or {X : Cx} {e : Expr} {w1 w2 : TT} (h1 : PT X e w1) (h2 : PT X e w2) : PT X e (fun σ H R => w1 σ H R ∨ w2 σ H R) := ⟨fun pins s σ H R I h => by
  rcases h with h | h
  · exact h1.run pins s σ H R I h
  · exact h2.run pins s σ H R I h⟩
/-- {} -/
def dNewD : DE := fun env => some (fin env (.new (.dic [])))
/-! ### len(set(xs)) -/
def keysOf : List D → Option (List Key)
  | [] => some []
  | d :: ds => (keyOf d).bind fun k => (keysOf ds).map fun ks => k :: ks
theorem keysOf_is {g : G} {F : Hp} : ∀ {ds : List D} {vs : List V} {ks : List Key}, IsL g F vs ds → keysOf ds = some ks → vs = ks.map kV
  | [], _, _, .nil, e => by cases e; rfl
  | d :: ds, _, ks, .cons h l, e => by
    obtain ⟨k, e1, e2⟩ := Option.bind_eq_some_iff.mp (show (keyOf d).bind (fun k => (keysOf ds).map fun ks => k :: ks) = some ks from e)
    obtain ⟨ks', e3, e4⟩ := Option.map_eq_some_iff.mp e2
    subst e4
    rw [key_is (View.is (H := F) h) e1, keysOf_is l e3]
    rfl
theorem key_scn : ∀ (k : Key) (v : Value), keyIs k v = true → v.scannable = true := fun k v h => by
  rcases keyIs_shape h with ⟨i, t, rfl, rfl⟩ | ⟨x, t, rfl, rfl⟩ <;> rfl
theorem kV_key {k : Key} {u : Value} (r : RelV (kV k) u) : keyIs k u = true := by
  cases k with
  | inl i => obtain ⟨t, rfl⟩ := (show ∃ t, u = Value.int i t from r); exact keyIs_int i t
  | inr x => obtain ⟨t, rfl⟩ := (show ∃ t, u = Value.str x t from r); exact keyIs_str x t
def tLenSet (K : PySem.W.Frag) (ta : TE) : TE := fun σ H Q => ta σ H fun x H1 => ∃ (l : Addr) (ks : List Key), x = .ref l ∧ SqL K H1 l (ks.map kV) ∧ ks.length ≤ 4000 ∧ Q (.int ((uniq ks).length : Nat)) H1
theorem pe_lenSetK {X : Cx} {a : Expr} {ta : TE} {p p2 q pos : Pos} (hg : Gl X "len") (hm : X.mg "len" = none) (hg2 : Gl X "set") (hm2 : X.mg "set" = none) (ha : PE X a ta) (hc : X.calm = true)
    (na : starEach [a] X.env = (false, eval a X.env) :: starEach [] X.env) : PE X (.Call (.Name "len" p) [.Call (.Name "set" p2) [a] [] q] [] pos) (tLenSet X.K ta) := by
  refine ⟨fun pins s σ H Q I h => ?_⟩
  refine Call_ (ld_blt I hg hm boot_len (PyProof.Rows.callWith_builtin1 (PyProof.Rows.args_cons ?_ rfl) rfl rfl))
  refine Call_ (ld_blt I hg2 hm2 boot_set (PyProof.Rows.callWith_type1 (PyProof.Rows.args_cons (thn (ha.run pins s σ H _ I h) fun v s1 ⟨x, H1, I1, r1, q1⟩ => PyProof.Rows.args_nil ?_) na) na rfl))
  obtain ⟨l, ks, rfl, hq, hl, q1⟩ := q1
  cases r1
  obtain ⟨its, r, pl, hz⟩ := I1.list hq
  have hn : ks.length = its.toArray.size := by rw [List.size_toArray, ← r.length, List.length_map]
  refine setOfList (knd := mixKind X.prog X.w) key_scn (I1.ok.hd hc) pl.isList hn (fun i k v e1 e2 => ?_) (by unfold scanBound; omega) fun h' tk hS hk => ?_
  · have e3 : (ks.map kV)[i]? = some (kV k) := by rw [List.getElem?_map, e1]; rfl
    obtain ⟨u, e4, ru⟩ := r.get e3
    have e5 : its[i]? = some v := by simpa using e2
    rw [e4] at e5
    cases e5
    exact kV_key ru
  refine PyProof.Rows.args_nil ?_
  have hle := uniq_len ks
  obtain ⟨o, es, ep, t, ho, hex, hd, _, _, _, hf, hn2⟩ := hS
  have I2 : Inv X pins σ H1 { s1 with heap := h', toks := tk } := I1.kept fun b o e => hk b o (Heap.lt_size e) e
  exact call_len_set ho hex hd hf (by rw [hn2] <;> omega) ⟨.int (uniq ks).length, H1, I2.tok _, ⟨_, by rw [hn2]⟩, q1⟩
def dLenSet (de : DE) : DE := fun env => (de env).bind fun r => (look r.2 r.1).bind fun d => match d with
  | .lst xs => (keysOf xs).bind fun ks => if ks.length ≤ 4000 then some (.val (.int ((uniq ks).length : Nat)), r.2) else none
  | _ => none
theorem se_lenSet {CT : CTab} {X : Cx} {a : Expr} {de : DE} {p p2 q pos : Pos} (hg : Gl X "len") (hm : X.mg "len" = none) (hg2 : Gl X "set") (hm2 : X.mg "set" = none) (hc : X.calm = true) (h : SE CT X a de)
    (na : starEach [a] X.env = (false, eval a X.env) :: starEach [] X.env := by rfl) : SE CT X (.Call (.Name "len" p) [.Call (.Name "set" p2) [a] [] q] [] pos) (dLenSet de) := by
  obtain ⟨_, x, y⟩ := h
  refine ⟨_, pe_lenSetK hg hm hg2 hm2 x hc na, fun B F H σ ρ env Q w l p E s => ?_⟩
  refine y B F H σ ρ env _ w l p E (s.bind.mono fun r s1 F1 H1 v ρ1 w1 x1 p1 E1 i1 => ?_)
  obtain ⟨d, ed, s2⟩ := s1.bind
  have vw := look_ok E1 i1 ed
  cases d with
  | lst xs =>
    obtain ⟨a, vs, rfl, h1, l1⟩ := viewL w1.sub vw
    obtain ⟨ks, ek, s3⟩ := (show Sat ((keysOf xs).bind _) _ from s2).bind
    obtain ⟨c, s4⟩ := sat_if s3
    exact ⟨a, ks, rfl, by rw [← keysOf_is l1 ek]; exact h1, c, sat_some s4 F1 H1 _ ρ1 w1 x1 p1 E1 (.val (.int _))⟩
  | _ => exact (sat_none s2).elim

/-! ### xs * n of a list of our own -/
theorem IsL.reps {g : G} {F : Hp} {vs : List V} {ds : List D} (l : IsL g F vs ds) : ∀ k : Nat, IsL g F (List.replicate k vs).flatten (List.replicate k ds).flatten
  | 0 => .nil
  | k + 1 => by rw [List.replicate_succ, List.flatten_cons, List.replicate_succ, List.flatten_cons]; exact l.append (IsL.reps l k)
end Sim
namespace Sim
open PySem PySem.Spec PyProof.Rows L2
section
variable {CT : CTab} {X : Cx}
theorem se_gI {x : Str} {i : Int} {pos : Pos} (hg : Gl X x) (hm : ∃ t, X.mg x = some (.int i t)) (hd : (x == ("__debug__" : Str)) = false := by decide) : SE CT X (.Name x pos) (dC (.int i)) := by
  obtain ⟨t, hm⟩ := hm
  exact se_globI hg hm ⟨t, rfl⟩ hd
/-! ### a walk over a list, a tuple or a text -/
def signsOf (z : Str) : List D := z.cps.toList.map fun c => .str ⟨#[c]⟩
abbrev seqS : D → Option (List D)
  | .lst ds => some ds
  | .tup ds => some ds
  | .str z => some (signsOf z)
  | _ => none
def diSeqS (de : DE) : DI := fun env => (dd de env).bind fun r => (seqS r.1).bind fun xs => some (xs, r.2)
theorem si_seqS {tg e : Expr} {de : DE} (h : SE CT X e de) : SI CT X tg e (diSeqS de) := by
  obtain ⟨te, a, b⟩ := h
  refine ⟨_, PI.or (pi_list a) (PI.or (pi_tup a) (pi_str a)), fun B F H σ ρ env R w l p E s => ?_⟩
  obtain ⟨r, er, s2⟩ := s.bind
  obtain ⟨xs, ex, s3⟩ := s2.bind
  obtain ⟨q, eq, k⟩ := s3
  cases eq
  obtain ⟨d, env1⟩ := r
  cases d with
  | lst ds =>
    cases ex
    refine .inl (b.d B F H σ ρ env _ w l p E ⟨_, er, fun F' H' v ρ' w' x' p' E' i => ?_⟩)
    cases i with
    | @lst a vs ds ea il => exact ⟨a, rfl, ⟨vs, sqL_sub w'.sub ea⟩, k F' H' ρ' _ w' x' p' E' (wk_at il walk_list fun F2 H2 x2 s2 => sqL_sub s2 (sqL_ex x2 ea))⟩
  | tup ds =>
    cases ex
    refine .inr (.inl (b.d B F H σ ρ env _ w l p E ⟨_, er, fun F' H' v ρ' w' x' p' E' i => ?_⟩))
    cases i with
    | @tup a vs ds ea il => exact ⟨a, rfl, ⟨vs, sqT_sub w'.sub ea⟩, k F' H' ρ' _ w' x' p' E' (wk_at il walk_tup fun F2 H2 x2 s2 => sqT_sub s2 (sqT_ex x2 ea))⟩
  | str z =>
    cases ex
    refine .inr (.inr (b.d B F H σ ρ env _ w l p E ⟨_, er, fun F' H' v ρ' w' x' p' E' i => ?_⟩))
    cases i
    refine ⟨z, rfl, k F' H' ρ' _ w' x' p' E' ⟨⟨_, (by
      have hl : (signsOf z).length = z.cps.size := by unfold signsOf; rw [List.length_map, Array.length_toList]
      rw [hl]
      exact walk_str.mono (fun _ _ => trivial) fun i H x H' hi q y => y), fun i H x H' y => ?_⟩⟩⟩
    obtain ⟨rfl, c, hc, rfl⟩ := y
    refine ⟨.str ⟨#[c]⟩, ?_, .inl ⟨rfl, .str _⟩⟩
    unfold signsOf
    rw [List.getElem?_map, Array.getElem?_toList, hc]
    rfl
  | _ => cases ex
end
/-! ### a dict of the module: texts to ints -/
structure GDict (w : World) (K : PySem.W.Frag) (mg : Str → Option Value) (x : Str) (kv : List (Str × Int)) : Prop where
  ex : ∃ (d : Addr) (es : Array DictEntry) (n : Nat), mg x = some (.ref d) ∧ KDict K w d es n ∧
    ∀ z : Str, ∃ r, PySem.W.nsIn K d z = some r ∧ (match kv.lookup z with | some i => ∃ t, r = some (.int i t) | none => r = none)
def gIn (neg : Bool) (kv : List (Str × Int)) : D → Option Rs
  | .str z => some (.val (.bl (if neg then !(kv.lookup z).isSome else (kv.lookup z).isSome)))
  | _ => none
def dInG (neg : Bool) (kv : List (Str × Int)) (da : DE) : DE := d1 (gIn neg kv) da
def gIx (kv : List (Str × Int)) : D → Option Rs
  | .str z => (kv.lookup z).map fun i => .val (.int i)
  | _ => none
def dIxG (kv : List (Str × Int)) (da : DE) : DE := d1 (gIx kv) da
section
variable {CT : CTab} {X : Cx}
theorem gdict_in {K : PySem.W.Frag} {d : Addr} {kv : List (Str × Int)} {z : Str} (h : ∃ r, PySem.W.nsIn K d z = some r ∧ (match kv.lookup z with | some i => ∃ t, r = some (.int i t) | none => r = none)) : ∃ r, PySem.W.nsIn K d z = some r ∧ r.isSome = (kv.lookup z).isSome := by
  obtain ⟨r, e, h⟩ := h
  refine ⟨r, e, ?_⟩
  cases q : kv.lookup z with
  | none => rw [q] at h; rw [h]; rfl
  | some i => rw [q] at h; obtain ⟨t, h⟩ := h; rw [h]; rfl
theorem sem_gin {g : G} {d : Addr} {kv : List (Str × Int)} (hk : ∀ z : Str, ∃ r, PySem.W.nsIn g.K d z = some r ∧ (match kv.lookup z with | some i => ∃ t, r = some (.int i t) | none => r = none)) (neg : Bool) :
    Op1 g (fun x H Q => ∃ (z : Str) (r : Option Value), x = .str z ∧ V.ref d = .ref d ∧ PySem.W.nsIn g.K d z = some r ∧ Q (.bl (if neg then !r.isSome else r.isSome)) H) (gIn neg kv) := fun F H x dx Q s hx sa => by
  cases dx with
  | str z =>
    obtain ⟨r, e, ei⟩ := gdict_in (hk z)
    refine ⟨z, r, viewS hx, rfl, e, ?_⟩
    rw [ei]
    exact sat_some sa _ (.bl _)
  | _ => exact (sat_none sa).elim
theorem st_inNG {x : Str} {kv : List (Str × Int)} {a : Expr} {da : DE} {p pos : Pos} (D : GDict X.w X.K X.mg x kv) (h : SE CT X a da) (hg : Gl X x := by rfl) (hd : (x == ("__debug__" : Str)) = false := by decide) (hm : behindInMarks .NotIn (.Name x p) = false := by rfl) : ST CT X (.Compare a [.NotIn] [.Name x p] pos) (dtB (dInG true kv da)) := by
  obtain ⟨d, es, n, hx, kd, hk⟩ := D
  obtain ⟨_, a1, b1⟩ := h
  exact ⟨_, pt_cmpR (op_notIn_kd kd) a1 (pe_glob (v := .ref d) hg hx rfl hd) hm, simB (sim1 b1 (sem_gin (g := gX CT X) hk true))⟩
theorem se_ixG {x : Str} {kv : List (Str × Int)} {a : Expr} {da : DE} {p pos : Pos} (D : GDict X.w X.K X.mg x kv) (h : SE CT X a da) (hg : Gl X x := by rfl) (hd : (x == ("__debug__" : Str)) = false := by decide) (hp : PlainIx a := by intro _ _; rfl) : SE CT X (.Subscript (.Name x p) a pos) (dIxG kv da) := by
  obtain ⟨d, es, n, hx, kd, hk⟩ := D
  obtain ⟨_, a1, b1⟩ := h
  refine ⟨_, pe_ix ix_kdict (pe_glob (v := .ref d) hg hx rfl hd) a1 hp, sim1 (r := fun y H Q => rIxD X.K X.w (.ref d) y H Q) b1 fun F H y dy Q s hy sa => ?_⟩
  cases dy with
  | str z =>
    obtain ⟨q, e, k⟩ := sa
    obtain ⟨i, e1, e2⟩ := Option.map_eq_some_iff.mp e
    subst e2
    obtain ⟨r, er, hh⟩ := hk z
    rw [e1] at hh
    obtain ⟨t, hh⟩ := hh
    subst hh
    exact ⟨d, z, .int i, rfl, viewS hy, ⟨es, n, _, kd.at_, kd.lit, er, ⟨t, rfl⟩⟩, k _ (.int i)⟩
  | _ => exact (sat_none sa).elim

/-! ### list(range(..)) -/
def dListR1 (da : DE) : DE := fun env => (da env).bind fun r => (look r.2 r.1).bind fun d => match d with
  | .int j => if (okR j = true ∧ j.toNat ≤ LIM) then some (fin r.2 (.new (.lst (rngD 0 j)))) else none
  | _ => none
def dListR2 (da db : DE) : DE := fun env => (da env).bind fun r => (db r.2).bind fun q => (look q.2 r.1).bind fun x => (look q.2 q.1).bind fun y => match x, y with
  | .int i, .int j => if (okR i = true ∧ okR j = true ∧ (j - i).toNat ≤ LIM) then some (fin q.2 (.new (.lst (rngD i j)))) else none
  | _, _ => none
theorem rng_is {g : G} {F : Hp} (i j : Int) : IsL g F (rgV i j) (rngD i j) := by
  unfold rgV rngD
  generalize List.range (j - i).toNat = ns
  induction ns with
  | nil => exact .nil
  | cons n ns ih => rw [List.map_cons, List.map_cons]; exact .cons (.int _) ih
theorem se_listR2 {a b : Expr} {da db : DE} {p p2 q pos : Pos} (hc : X.calm = true) (hg : Gl X "list") (hm : X.mg "list" = none) (hg2 : Gl X "range") (hm2 : X.mg "range" = none) (h : SE CT X a da) (h' : SE CT X b db)
    (na : starEach [a, b] X.env = (false, eval a X.env) :: starEach [b] X.env := by rfl) (nb : starEach [b] X.env = (false, eval b X.env) :: starEach [] X.env := by rfl) (hp : (backTo q (starEach [b] X.env)).any (·.1) = false := by rfl)
    (na2 : starEach [.Call (.Name "range" p2) [a, b] [] q] X.env = (false, eval (.Call (.Name "range" p2) [a, b] [] q) X.env) :: starEach [] X.env := by rfl) : SE CT X (.Call (.Name "list" p) [.Call (.Name "range" p2) [a, b] [] q] [] pos) (dListR2 da db) := by
  obtain ⟨_, x, y⟩ := h
  obtain ⟨_, x', y'⟩ := h'
  refine ⟨_, pe_listRg hc hg hm (prg_2 hg2 hm2 x x' na nb hp) na2, fun B F H σ ρ env Q w l p E s => ?_⟩
  refine y B F H σ ρ env _ w l p E (s.bind.mono fun r s1 F1 H1 v ρ1 w1 x1 p1 E1 i1 => ?_)
  refine y' B F1 H1 σ ρ1 r.2 _ w1 l (p.trans p1) E1 (s1.bind.mono fun r2 s2 F2 H2 u ρ2 w2 x2 p2 E2 i2 => ?_)
  obtain ⟨d, ed, s3⟩ := s2.bind
  obtain ⟨e, ee, s4⟩ := s3.bind
  have vw := look_ok E2 (i1.mono x2 p2) ed
  have vw2 := look_ok E2 i2 ee
  cases d with
  | int i =>
    cases e with
    | int j =>
      obtain ⟨c, s5⟩ := sat_if s4
      obtain ⟨h1, h2⟩ := okR_iff c.1
      obtain ⟨h3, h4⟩ := okR_iff c.2.1
      have kk := sat_some s5
      have c3 := lim_le c.2.2
      rw [sizeLine_eq] at c3
      refine ⟨i, j, viewI vw, viewI vw2, ⟨h1, h2, h3, h4, by omega⟩, ?_⟩
      exact fin_ok (Q := Q) (rs := .new (.lst (rngD i j))) w2 E2 (fun F' H' v ρ' w' e' p' E' i' => kk F' H' v ρ' w' ((x1.trans x2).trans e') ((p1.trans p2).trans p') E' i') |> fun z q n => z q _ n (.lst (rng_is i j))
    | _ => exact (sat_none s4).elim
  | _ => exact (sat_none s4).elim

/-! ### list(x) -/
def signsV (z : Str) : List V := z.cps.toList.map fun c => .str ⟨#[c]⟩
def rListS : List V → Hp → VK → Prop := fun xs H Q => ∃ z, xs = [V.str z] ∧ z.cps.size ≤ sizeLine ∧ ∀ l, H l = none → Q (.ref l) (upd H l (.lst (signsV z)))
theorem call_listS (hc : X.calm = true) : CallR X (.type "list") rListS := by
  intro pins s σ H xs us Q I r h
  obtain ⟨z, ex, hz, q⟩ := h
  subst ex
  obtain ⟨u, eu, rx⟩ := vals1 r
  subst eu
  obtain ⟨t, rfl⟩ := rx
  refine call_list_str (I.ok.hd hc) z t (fun h' tk acc c' hk e hi => ?_) hz
  have hl : acc.toList.length = z.cps.size := by rw [Array.length_toList]; exact hi.1
  have hv : (signsV z).length = z.cps.size := by unfold signsV; rw [List.length_map, Array.length_toList]
  refine ⟨.ref s.heap.objs.size, upd H s.heap.objs.size (.lst (signsV z)), I.laid hk (Nat.le_refl _) (show ObjOk X.prog X.w _ _ _ (.lst (signsV z)) from ⟨?_, acc.toList, c', ?_, ?_⟩), rfl, q _ (I.hok.fresh (Nat.le_refl _))⟩
  · rw [hv]; exact hz
  · refine vals_of_at (by rw [hv, hl]) fun j x w h1 h2 => ?_
    have h3 := hi.2 j w (by rw [← Array.getElem?_toList]; exact h2)
    unfold signsV at h1
    rw [List.getElem?_map] at h1
    obtain ⟨c, e1, e2⟩ := Option.map_eq_some_iff.mp h1
    subst e2
    obtain ⟨c2, t2, e3, rfl⟩ := h3
    rw [Array.getElem?_toList, e3] at e1
    cases e1
    exact ⟨t2, rfl⟩
  · rw [Array.toArray_toList]; exact e
def keyD : Key → D
  | .inl i => .int i
  | .inr x => .str x
theorem keyD_is {g : G} {F : Hp} (k : Key) : Is g F (kV k) (keyD k) := by
  cases k with
  | inl i => exact .int i
  | inr x => exact .str x
def dListA : List D → Option Rs
  | [.lst xs] => some (.new (.lst xs))
  | [.tup xs] => some (.new (.lst xs))
  | [.dic kvs] => some (.new (.lst (kvs.map fun kv => keyD kv.1)))
  | [.str z] => if z.cps.size ≤ LIM then some (.new (.lst (signsOf z))) else none
  | _ => none
theorem signs_is {g : G} {F : Hp} (z : Str) : IsL g F (signsV z) (signsOf z) := by
  unfold signsV signsOf
  generalize z.cps.toList = ns
  induction ns with
  | nil => exact .nil
  | cons n ns ih => rw [List.map_cons, List.map_cons]; exact .cons (.str _) ih
theorem IsK.keys {g : G} {F : Hp} : ∀ {vk : List (Key × V)} {dk : List (Key × D)}, IsK g F vk dk → IsL g F (vk.map fun kv => kV kv.1) (dk.map fun kv => keyD kv.1)
  | _, _, .nil => .nil
  | _, _, .cons _ l => .cons (keyD_is _) (IsK.keys l)
abbrev rListA (K : PySem.W.Frag) : List V → Hp → VK → Prop := fun xs H Q => (∃ p ys, xs = [.ref p] ∧ (SqL K H p ys ∨ SqT K H p ys) ∧ ∀ l, H l = none → Q (.ref l) (upd H l (.lst ys))) ∨
  (∃ (a : Addr) (kvs : List (Key × V)), xs = [.ref a] ∧ Rd H a (.dK kvs) ∧ ∀ p, H p = none → Q (.ref p) (upd H p (.lst (kvs.map fun kv => kV kv.1)))) ∨ rListS xs H Q
theorem call_listA (hc : X.calm = true) : CallR X (.type "list") (rListA X.K) := CallR.or call_list_of (CallR.or (call_listD hc) (call_listS hc))
theorem sem_listA {g : G} : OpL g (rListA g.K) dListA := fun F H xs ds Q s h sa => by
  unfold dListA at sa
  split at sa
  · obtain ⟨x, rfl, hx⟩ := view1 h
    obtain ⟨a, vs, rfl, h1, l1⟩ := viewL s hx
    exact .inl ⟨a, vs, rfl, .inl h1, fun l n => sat_some sa l _ n (.lst l1)⟩
  · obtain ⟨x, rfl, hx⟩ := view1 h
    obtain ⟨a, vs, rfl, h1, l1⟩ := viewT s hx
    exact .inl ⟨a, vs, rfl, .inr h1, fun l n => sat_some sa l _ n (.lst l1)⟩
  · obtain ⟨x, rfl, hx⟩ := view1 h
    obtain ⟨a, vs, rfl, h1, l1⟩ := viewD s hx
    exact .inr (.inl ⟨a, vs, rfl, h1, fun l n => sat_some sa l _ n (.lst l1.keys)⟩)
  · rename_i z
    obtain ⟨x, rfl, hx⟩ := view1 h
    obtain ⟨c, sa⟩ := sat_if sa
    rw [viewS hx]
    exact .inr (.inr ⟨z, rfl, lim_le c, fun l n => sat_some sa l _ n (.lst (signs_is z))⟩)
  · exact (sat_none sa).elim
end
end Sim
namespace Sim
open PySem PySem.Spec PyProof.Rows L2

/-! ### xs.extend(ys), both of our own -/
def dExt (d0 da : DE) : DE := fun env => (d0 env).bind fun r0 => (atOf r0.1).bind fun j => (lstAt r0.2 j).bind fun _ => (da r0.2).bind fun r => (atOf r.1).bind fun jv => (lstAt r.2 j).bind fun px => (lstAt r.2 jv).bind fun py => if j ≠ jv ∧ px.2.length + py.2.length ≤ LIM then some (.val .non, r.2.set j (some (.own px.1 (.lst (px.2 ++ py.2))))) else none
theorem se_ext {CT : CTab} {X : Cx} {o e : Expr} {apos cpos : Pos} {d0 da : DE} (ho : SE CT X o d0) (ha : SE CT X e da) (hbase : attributeBase o "extend" X.env (eval o X.env) = eval o X.env := by rfl)
    (hfew : ((backTo cpos (starEach [e] X.env)).all (fun x => !x.1) && (backToKw cpos (keywordEach [] X.env)).all (fun x => x.1.isSome)
      && decide ([e].length + ([] : List Keyword).length + (if ([] : List Keyword).isEmpty then 0 else 1) < 30)) = true := by rfl)
    (hline : (apos.endLine == cpos.line) = true := by rfl) (hst : starEach [e] X.env = (false, eval e X.env) :: starEach [] X.env := by rfl) (hplain : (backTo cpos (starEach [] X.env)).any (·.1) = false := by rfl) :
    SE CT X (.Call (.Attribute o "extend" apos) [e] [] cpos) (dExt d0 da) := by
  obtain ⟨_, a0, b0⟩ := ho
  obtain ⟨_, a1, b1⟩ := ha
  refine ⟨_, pe_bm PySem.F.plainAttrs_list PySem.F.slot_list_extend PySem.F.type_list_extend mt_extend a0 (pa_cons a1 pa_nil hst) hbase hfew hline hst hplain, fun B F H σ ρ env Q w l p E s => ?_⟩
  refine b0 B F H σ ρ env _ w l p E (s.bind.mono fun r0 s0 F0 H0 v0 ρ0 w0 x0 p0 E0 i0 => ?_)
  obtain ⟨j, ej, s1⟩ := s0.bind
  obtain ⟨px0, e0, s2⟩ := s1.bind
  obtain ⟨a0, va0, ea0, _, _, h00, _⟩ := E0.lst (lstAt_eq (p := px0.1) (xs := px0.2) e0)
  have ev : v0 = .ref a0 := at_ref (B := B) (F' := F0) (H := H0) (H' := H0) (env := r0.2) ej i0 List.prefix_rfl ea0
  subst ev
  refine ⟨.inl ⟨rfl, va0, .of h00⟩, ?_⟩
  refine b1 B F0 H0 σ ρ0 r0.2 _ w0 l (p.trans p0) E0 (s2.bind.mono fun r1 s3 F1 H1 u ρ1 w1 x1 p1 E1 i1 => ?_)
  obtain ⟨jv, ejv, s4⟩ := s3.bind
  obtain ⟨px, ex, s5⟩ := s4.bind
  obtain ⟨py, ey, s6⟩ := s5.bind
  obtain ⟨c, s7⟩ := sat_if s6
  have ex' := lstAt_eq (p := px.1) (xs := px.2) ex
  have ey' := lstAt_eq (p := py.1) (xs := py.2) ey
  obtain ⟨a, va, ea, nf, mm, hh, il⟩ := E1.lst ex'
  obtain ⟨b, vb, eb, nf2, mm2, hh2, il2⟩ := E1.lst ey'
  have e2 : a0 = a := by
    obtain ⟨τ, rfl⟩ := p1
    rw [List.getElem?_append_left (List.getElem?_eq_some_iff.mp ea0).1, ea0] at ea
    cases ea
    rfl
  subst e2
  have ev : u = .ref b := at_ref (B := B) (F' := F1) (H := H1) (H' := H1) (env := r1.2) ejv i1 List.prefix_rfl eb
  subst ev
  refine ⟨a0, b, va, vb, rfl, rfl, hh, hh2, by rw [il.len, il2.len]; exact lim_le c.2, ?_⟩
  exact sat_some s7 F1 _ .non ρ1 (w1.write nf mm hh) (x0.trans x1) (p0.trans p1) (E1.write ex' ea (.lst (il.append il2))) (.val .non)

/-! ### xs[a:b] = ys, both of our own -/
/-! ### a, d[k] = e -/
/-! ### isinstance(x, C), C of the program -/
structure IsCl (g : G) (cs : List Nat) (c0 : Nat) (x : Str) : Prop where
  ex : ∃ C0 : Addr, g.mg x = some (.ref C0) ∧ IsCF g.K C0 ∧ ∀ c, cs.contains c = true → ∀ C, g.mg (g.CT c).1 = some (.ref C) → PySem.W.kitOne g.K (.ref C) (.ref C0) = some (c == c0)
end Sim
namespace Sim
open PySem PySem.Spec PyProof.Rows L2

/-! ### what the top has written -/
structure TopDef (K : PySem.W.Frag) (x : Str) (st : Stmt) : Prop where
  ex : ∃ (f : Addr) (fd : FuncData), PySem.W.nsIn K mainGlobals x = some (some (.ref f)) ∧ Fun K x x st f fd
structure MetDef (K : PySem.W.Frag) (C : Addr) (m qual : Str) (st : Stmt) : Prop where
  ex : ∃ (f : Addr) (fd : FuncData), PySem.W.findIn K (.ref C) m = some (some (.ref f)) ∧ PySem.W.isFn K (.ref f) = true ∧ Fun K m qual st f fd
section
variable {K : PySem.W.Frag} {x qual : Str} {st : Stmt} {f C : Addr} {oc : Value} {od an : Option Addr} {osl : Array (Option Value)} {kV doc pm cdv ct : Value}
theorem topDef (a : PySem.W.nsIn K mainGlobals x = some (some (.ref f))) (l : K.lookup f = some ⟨oc, od, .func (PySem.W.fnOf x x (defArgs st) (defBody st) (defScope st) .none kV doc pm an cdv ct), osl⟩) (c : PySem.W.codeIn K cdv x = true) (k : PySem.W.keepIn K (.ref f) = true) : TopDef K x st :=
  ⟨f, _, a, fun_mk l c k⟩
theorem metDef (a : PySem.W.findIn K (.ref C) x = some (some (.ref f))) (i : PySem.W.isFn K (.ref f) = true) (l : K.lookup f = some ⟨oc, od, .func (PySem.W.fnOf x qual (defArgs st) (defBody st) (defScope st) .none kV doc pm an cdv ct), osl⟩) (c : PySem.W.codeIn K cdv qual = true) (k : PySem.W.keepIn K (.ref f) = true) : MetDef K C x qual st :=
  ⟨f, _, a, i, fun_mk l c k⟩
/-- a class of its own -/
structure TopCls (K : PySem.W.Frag) (x : Str) (C : Addr) : Prop where
  at_ : PySem.W.nsIn K mainGlobals x = some (some (.ref C))
  cl : Cls K C
  makes : PySem.W.makesIn K C = true
  kp : PySem.W.keepIn K (.ref C) = true
  isf : InsF K C
theorem topCls (a : PySem.W.nsIn K mainGlobals x = some (some (.ref C))) (pg : PySem.W.plainGet K C Str.empty = true) (hd : PySem.W.hasDictIn K C = true) (po : PySem.W.plainOver K C = true) (sa : PySem.W.findIn K (.ref C) "__setattr__" = some (some (.builtin "object.__setattr__"))) (mk : PySem.W.makesIn K C = true) (kc : PySem.W.keepIn K (.ref C) = true)
    (ha : PySem.W.findIn K (.ref C) "__class__" = some (some (.builtin "object.__class__"))) (hn : PySem.W.specialIn K (.builtin "object.__class__") "__get__" = some (some (.builtin "getset_descriptor.__get__"))) (ht : PySem.W.takesIn K (.builtin "object.__class__") = some true) (hm : PySem.W.mroIn K C (.type "object") = some true)
    (n1 : PySem.W.kitOne K (.ref C) (.type "str") = some false) (n2 : PySem.W.kitOne K (.ref C) (.type "int") = some false) (n3 : PySem.W.kitOne K (.ref C) (.type "bool") = some false) (n4 : PySem.W.kitOne K (.ref C) (.type "tuple") = some false) (n5 : PySem.W.kitOne K (.ref C) (.type "list") = some false) (n6 : PySem.W.kitOne K (.ref C) (.type "dict") = some false) : TopCls K x C :=
  ⟨a, ⟨pg, hd, po, sa⟩, mk, kc, ⟨⟨pg, hd, po, sa⟩, ha, hn, ht, hm, fun T => by cases T <;> assumption⟩⟩
end
section
variable {CT : CTab} {P : Program} {w : World} {K : PySem.W.Frag} {mg : Str → Option Value} {base h : Heap} {k : Nat} {x : Str} {st : Stmt}
theorem CalP.of {df : DFp} {ps : List Str} (Td : TopDef K x st) (X : K.In h) (G : h.Ns mainGlobals mg) (ok : ∀ (f : Addr) (fd : FuncData), Fun K x x st f fd → FnOk P w K mg base CX0 k f fd ps (spP ⟨K, mg, CT⟩ df)) (hb : ∀ (f : Addr) (fd : FuncData), Fun K x x st f fd → Binds K fd ps []) : CalP CT P w K mg base k x df := by
  obtain ⟨f, fd, a, F⟩ := Td
  exact ⟨f, fd, ps, ok f fd F, PySem.W.mg_of X G a, F.kp, hb f fd F⟩
theorem CalM.of {df : DFm} {ps : List Str} (Td : TopDef K x st) (X : K.In h) (G : h.Ns mainGlobals mg) (ok : ∀ (f : Addr) (fd : FuncData), Fun K x x st f fd → FnOk P w K mg base CX0 k f fd ps (spM ⟨K, mg, CT⟩ df)) (hb : ∀ (f : Addr) (fd : FuncData), Fun K x x st f fd → Binds K fd ps []) : CalM CT P w K mg base k x df := by
  obtain ⟨f, fd, a, F⟩ := Td
  exact ⟨f, fd, ps, ok f fd F, PySem.W.mg_of X G a, F.kp, hb f fd F⟩
theorem MakM.of {df : DFm} {ps : List Str} {c : Nat} {C : Addr} {qual : Str} (T : TopCls K x C) (Td : MetDef K C "__init__" qual st) (X : K.In h) (G : h.Ns mainGlobals mg) (hc : (CT c).1 = x) (ok : ∀ (f : Addr) (fd : FuncData), Fun K "__init__" qual st f fd → FnOk P w K mg base CX0 k f fd ps (spM ⟨K, mg, CT⟩ df)) (hb : ∀ (f : Addr) (fd : FuncData), Fun K "__init__" qual st f fd → Binds K fd ps []) : MakM CT P w K mg base k x c df := by
  obtain ⟨f, fd, a, i, F⟩ := Td
  exact ⟨C, f, fd, ps, ⟨T.makes, a, i, T.kp⟩, ok f fd F, PySem.W.mg_of X G T.at_, hc, hb f fd F⟩
theorem attrF {c k : Nat} {f : Str} {C : Addr} (T : TopCls K x C) (X : K.In h) (G : h.Ns mainGlobals mg) (hc : (CT c).1 = x) (hi : (CT c).2.idxOf? f = some k) (hn : PySem.W.findIn K (.ref C) f = some none) : AttrF ⟨K, mg, CT⟩ c k f := by
  refine ⟨hi, fun C' e => ?_⟩
  have e1 : mg (CT c).1 = some (.ref C') := e
  rw [hc, PySem.W.mg_of X G T.at_] at e1
  cases e1
  exact ⟨T.cl, hn⟩
def EntL (w : World) : List DictEntry → List (Str × Int) → Prop
  | [], [] => True
  | e :: r, p :: q => (∃ t, e.key = .str p.1 t) ∧ e.hash = PyData.keyHash w.params p.1 ∧ (∃ t, e.val = .int p.2 t) ∧ EntL w r q
  | _, _ => False
theorem EntL.lit : ∀ {es : List DictEntry} {kv : List (Str × Int)}, EntL w es kv → PySem.W.KeysLit w.params es
  | [], [], _ => trivial
  | e :: r, p :: q, ⟨⟨t, a⟩, b, _, d⟩ => ⟨⟨p.1, t, a, b⟩, EntL.lit d⟩
theorem EntL.look {z : Str} : ∀ {es : List DictEntry} {kv : List (Str × Int)}, EntL w es kv → (match kv.lookup z with | some i => ∃ e t, es.find? (·.key.isStr z) = some e ∧ e.val = .int i t | none => es.find? (·.key.isStr z) = none ∧ es.any (·.refKey) = false)
  | [], [], _ => ⟨rfl, rfl⟩
  | e :: r, p :: q, ⟨⟨t, a⟩, b, ⟨t2, c⟩, d⟩ => by
    have ih := EntL.look (z := z) d
    rw [List.lookup_cons, List.find?_cons]
    have e1 : e.key.isStr z = (z == p.1) := by
      rw [a]
      show (p.1 == z) = (z == p.1)
      exact Bool.eq_iff_iff.mpr ⟨fun h => by rw [beq_iff_eq] at h ⊢; exact h.symm, fun h => by rw [beq_iff_eq] at h ⊢; exact h.symm⟩
    rw [e1]
    cases z == p.1 with
    | true => exact ⟨e, t2, rfl, c⟩
    | false =>
      dsimp only
      cases q1 : q.lookup z with
      | some i => rw [q1] at ih; exact ih
      | none =>
        rw [q1] at ih
        refine ⟨ih.1, ?_⟩
        rw [List.any_cons, ih.2, Bool.or_false]
        unfold DictEntry.refKey
        rw [a]
theorem gdict {x : Str} {d : Addr} {es : Array DictEntry} {n : Nat} {kv : List (Str × Int)} (X : K.In h) (G : h.Ns mainGlobals mg) (a : PySem.W.nsIn K mainGlobals x = some (some (.ref d))) (l : K.lookup d = some ⟨.type "dict", none, .dict es n, #[]⟩) (low : (d == sysModules) = false) (q : EntL w es.toList kv) : GDict w K mg x kv := by
  refine ⟨d, es, n, PySem.W.mg_of X G a, ⟨l, q.lit, low⟩, fun z => ?_⟩
  have := q.look (z := z)
  unfold PySem.W.nsIn
  rw [l]
  dsimp only
  cases e : kv.lookup z with
  | some i =>
    rw [e] at this
    obtain ⟨en, t, h1, h2⟩ := this
    rw [h1]
    exact ⟨_, rfl, t, by rw [h2]⟩
  | none =>
    rw [e] at this
    rw [this.1, this.2]
    exact ⟨none, rfl, rfl⟩
/-- the law's promise: the script, the answer -/
def spLaw (K : PySem.W.Frag) : Sp := fun vs H Q _ => ∃ (a : Addr) (ns : List Int), vs = [.ref a] ∧ ns.length ≤ 63 ∧ SqL K H a (ns.map V.int) ∧ ∀ H', Q (.bl true) H'
theorem ints_is {g : G} {F : Hp} : ∀ ns : List Int, IsL g F (ns.map V.int) (ns.map D.int)
  | [] => .nil
  | n :: ns => .cons (.int n) (ints_is ns)
theorem law_imp {df : DFp} (math : ∀ ns : List Int, ns.length ≤ 63 → df [.lst (ns.map D.int)] = some (.val (.bl true))) : ∀ vs H Q E, spLaw K vs H Q E → spP ⟨K, mg, CT⟩ df vs H Q E := fun vs H Q E h => by
  obtain ⟨a, ns, rfl, hl, hs, q⟩ := h
  refine ⟨fun b => if b = a then H a else none, [.lst (ns.map D.int)], [], fun b o e => ?_, fun p z => (nomatch z), .cons (.lst ?_ (ints_is ns)) .nil, ⟨_, math ns hl, fun F' H' v _ i => ?_⟩⟩
  · by_cases c : b = a
    · subst c
      simp only [if_true] at e
      exact .inl e
    · simp only [if_neg c] at e
      cases e
  · rcases hs with (z | ⟨o, z⟩) | z
    · exact .inl (.inl (by simp only [if_true]; exact z))
    · exact .inl (.inr ⟨o, by simp only [if_true]; exact z⟩)
    · exact .inr z
  · cases (show Is ⟨K, mg, CT⟩ F' v (.bl true) from i)
    exact q H'
/-- the law's def, its promise -/
theorem law_of {x p : Str} {df : DFp} {fa : Addr} (Td : TopDef K x st) (X : K.In h) (G : h.Ns mainGlobals mg) (hfa : mg x = some (.ref fa)) (math : ∀ ns : List Int, ns.length ≤ 63 → df [.lst (ns.map D.int)] = some (.val (.bl true)))
    (hb : ∀ (f : Addr) (kV doc pm : Value) (an : Option Addr) (cdv ct : Value) (s : Shared) (v : Value), BindsTo s (PySem.W.fnOf x x (defArgs st) (defBody st) (defScope st) .none kV doc pm an cdv ct) ⟨[v], []⟩ [(p, v)])
    (ok : ∀ base : Heap, K.In base → base.Ns mainGlobals mg → ∀ (f : Addr) (fd : FuncData), Fun K x x st f fd → FnOk P w K mg base CX0 k f fd [p] (spP ⟨K, mg, CT⟩ df)) :
    ∃ fd : FuncData, (∀ (s : Shared) (v : Value), BindsTo s fd ⟨[v], []⟩ [(p, v)]) ∧ ∀ base : Heap, K.In base → base.Ns mainGlobals mg → FnOk P w K mg base CX0 k fa fd [p] (spLaw K) := by
  obtain ⟨f, fd, a, F⟩ := Td
  have e := hfa.symm.trans (PySem.W.mg_of X G a)
  cases e
  have F' := F
  obtain ⟨⟨oc, od, kV, doc, pm, an, cdv, ct, osl, rfl, l, c⟩, kp⟩ := F'
  exact ⟨_, fun s v => hb fa kV doc pm an cdv ct s v, fun base x y => (ok base x y fa _ F).imp (law_imp math)⟩
end
end Sim
namespace Sim
open PySem PySem.Spec PyProof.Rows L2
theorem CalP.none {CT : CTab} {P : Program} {w : World} {K : PySem.W.Frag} {mg : Str → Option Value} {base h : Heap} {k : Nat} {x : Str} {st : Stmt} {ps : List Str} (Td : TopDef K x st) (X : K.In h) (G : h.Ns mainGlobals mg) (hb : ∀ (f : Addr) (fd : FuncData), Fun K x x st f fd → Binds K fd ps []) : CalP CT P w K mg base k x (fun _ => Option.none) := by
  refine CalP.of Td X G (fun f fd F => ⟨fun vs H Q E h => ?_, fun A outer s H args us vs Q E _ _ _ _ h => ?_⟩) hb
  · obtain ⟨_, _, _, _, _, _, sa⟩ := h
    exact (sat_none sa).elim
  · obtain ⟨_, _, _, _, _, _, sa⟩ := h
    exact (sat_none sa).elim
end Sim
namespace Sim
open PySem PySem.Spec PyProof.Rows L2
theorem exI {K : PySem.W.Frag} {x : Str} {i : Int} {t : Tok} (e : PySem.W.nsIn K mainGlobals x = some (some (.int i t))) : ∃ t, PySem.W.nsIn K mainGlobals x = some (some (.int i t)) := ⟨t, e⟩
end Sim
namespace Sim
open PySem PySem.Spec PyProof.Rows L2

/-! ### loops, by what holds between the turns -/
/-- one turn of a comprehension -/
def lcStep (own : List Nat) (m : Nat) (p : Pat) (dt : DT) (de : DE) (x : D) (env : Env) : Option (Option D × Env) :=
  (bindP p x env).bind fun e1 => (dt e1).bind fun t => if t.1 = true then (dd de t.2).bind fun y => some (some y.1, wipesE (y.2.take m) own) else some (none, wipesE (t.2.take m) own)
theorem lcLoop_cons {own : List Nat} {m : Nat} {p : Pat} {dt : DT} {de : DE} {x : D} {xs acc : List D} {env : Env} :
    lcLoop own m p dt de (x :: xs) acc env = (lcStep own m p dt de x env).bind fun r => match r.1 with
      | some y => if acc.length < LIM then lcLoop own m p dt de xs (acc ++ [y]) r.2 else none
      | none => lcLoop own m p dt de xs acc r.2 := by
  unfold lcStep
  show (bindP p x env).bind _ = _
  cases bindP p x env with
  | none => rfl
  | some e1 =>
    rw [Option.bind_some, Option.bind_some]
    cases dt e1 with
    | none => rfl
    | some t =>
      rw [Option.bind_some, Option.bind_some]
      by_cases c : t.1 = true
      · rw [if_pos c, if_pos c]
        cases dd de t.2 with
        | none => rfl
        | some y => rfl
      · rw [if_neg c, if_neg c]
        rfl
theorem lc_inv {own : List Nat} {m : Nat} {p : Pat} {dt : DT} {de : DE} (P : Nat → List D → Env → Prop) : ∀ {xs acc : List D} {i : Nat} {env : Env}, P i acc env → acc.length + xs.length ≤ LIM →
    (∀ (j : Nat) (x : D) (a : List D) (e : Env), xs[j]? = some x → P (i + j) a e → ∃ r, lcStep own m p dt de x e = some r ∧ P (i + j + 1) (a ++ r.1.toList) r.2) →
    ∃ a e, lcLoop own m p dt de xs acc env = some (a, e) ∧ P (i + xs.length) a e
  | [], acc, i, env, h, _, _ => ⟨acc, env, rfl, h⟩
  | x :: xs, acc, i, env, h, hl, k => by
    rw [List.length_cons] at hl
    obtain ⟨r, h1, h2⟩ := k 0 x acc env rfl h
    have go : ∀ (j : Nat) (y : D) (a : List D) (e : Env), xs[j]? = some y → P (i + 1 + j) a e → ∃ r, lcStep own m p dt de y e = some r ∧ P (i + 1 + j + 1) (a ++ r.1.toList) r.2 := fun j y a e hy hp => by
      obtain ⟨q, g1, g2⟩ := k (j + 1) y a e hy (by rw [show i + (j + 1) = i + 1 + j by omega]; exact hp)
      exact ⟨q, g1, by rw [show i + 1 + j + 1 = i + (j + 1) + 1 by omega]; exact g2⟩
    rw [lcLoop_cons, h1, Option.bind_some, List.length_cons, show i + (xs.length + 1) = i + 1 + xs.length by omega]
    obtain ⟨o, e⟩ := r
    cases o with
    | none => exact lc_inv P (by simpa using h2) (by omega) go
    | some y =>
      dsimp only
      rw [if_pos (by omega)]
      exact lc_inv P (by simpa using h2) (by rw [List.length_append, List.length_singleton]; omega) go
/-- a pure comprehension, all kept -/
theorem lc_map {own : List Nat} {m : Nat} {p : Pat} {dt : DT} {de : DE} {f : D → D} {env : Env} {xs : List D} (hl : xs.length ≤ LIM) (h : ∀ x ∈ xs, lcStep own m p dt de x env = some (some (f x), env)) : lcLoop own m p dt de xs [] env = some (xs.map f, env) := by
  have gen : ∀ (ys acc : List D), (∀ x ∈ ys, lcStep own m p dt de x env = some (some (f x), env)) → acc.length + ys.length ≤ LIM → lcLoop own m p dt de ys acc env = some (acc ++ ys.map f, env) := by
    intro ys
    induction ys with
    | nil => intro acc _ _; simp [lcLoop]
    | cons y ys ih =>
      intro acc hh hn
      rw [List.length_cons] at hn
      rw [lcLoop_cons, hh y (List.mem_cons_self ..), Option.bind_some]
      dsimp only
      rw [if_pos (by omega), ih _ (fun x hx => hh x (List.mem_cons_of_mem _ hx)) (by rw [List.length_append, List.length_singleton]; omega)]
      simp
  have := gen xs [] h (by simpa using hl)
  simpa using this
/-- a pure comprehension with a test -/
theorem lc_filter {own : List Nat} {m : Nat} {p : Pat} {dt : DT} {de : DE} {f : D → D} {t : D → Bool} {env : Env} {xs : List D} (hl : xs.length ≤ LIM) (h : ∀ x ∈ xs, lcStep own m p dt de x env = some (if t x then some (f x) else none, env)) : lcLoop own m p dt de xs [] env = some ((xs.filter t).map f, env) := by
  have gen : ∀ (ys acc : List D), (∀ x ∈ ys, lcStep own m p dt de x env = some (if t x then some (f x) else none, env)) → acc.length + ys.length ≤ LIM → lcLoop own m p dt de ys acc env = some (acc ++ (ys.filter t).map f, env) := by
    intro ys
    induction ys with
    | nil => intro acc _ _; simp [lcLoop]
    | cons y ys ih =>
      intro acc hh hn
      rw [List.length_cons] at hn
      rw [lcLoop_cons, hh y (List.mem_cons_self ..), Option.bind_some]
      have hh' : ∀ x ∈ ys, lcStep own m p dt de x env = some (if t x then some (f x) else none, env) := fun x hx => hh x (List.mem_cons_of_mem _ hx)
      cases q : t y with
      | true =>
        simp only [if_true]
        rw [if_pos (by omega), ih _ hh' (by rw [List.length_append, List.length_singleton]; omega)]
        simp [q]
      | false =>
        simp only [Bool.false_eq_true, if_false]
        rw [ih _ hh' (by omega)]
        simp [q]
  have := gen xs [] h (by simpa using hl)
  simpa using this
end Sim
namespace Sim
open PySem PySem.Spec PyProof.Rows L2
theorem eqA_int (i j : Int) : eqA (.int i) (.int j) = some (decide (i = j)) := rfl
theorem eqA_str (i j : Str) : eqA (.str i) (.str j) = some (decide (i = j)) := rfl
theorem eqA_bl (i j : Bool) : eqA (.bl i) (.bl j) = some (decide (i = j)) := rfl
end Sim
namespace Sim
open PySem PySem.Spec PyProof.Rows L2

/-! ### max(xs, default=d) of a list of ints -/
section
variable {prog : Program} {w : World} {A : Around} {R : Result → Shared → Prop} {I S : Addr} {fp wr : List Addr} {n : Nat} {P : Nat → Value → Prop} {St : Nat → Heap → Prop} {bt : Nat → Nat → Bool} {d : Value}
end
end Sim
namespace Sim
open PySem PySem.Spec PyProof.Rows L2

/-! ### calls with one named argument -/
end Sim
namespace Sim
open PySem PySem.Spec PyProof.Rows L2

end Sim
namespace Sim
open PySem PySem.Spec PyProof.Rows L2
end Sim
namespace Sim
open PySem PySem.Spec PyProof.Rows L2

/-! ### dicts of plain values: == and != where they hold the same -/
def flD : D → Bool
  | .non => true | .bl _ => true | .int _ => true | .str _ => true
  | _ => false
/-- each of ks stands in ls, with just that worth -/
def subK (ls : List (Key × D)) : List (Key × D) → Prop
  | [] => True
  | p :: ks => (valK ls p.1 = some p.2 ∧ flD p.2 = true) ∧ subK ls ks
def sameK (ks ls : List (Key × D)) : Prop := ks.length = ls.length ∧ subK ls ks
/-! ### dict(d), dict(pairs) -/
/-! ### d.pop(k) of a dict of our own -/
def dropKD (kvs : List (Key × D)) (k : Key) : List (Key × D) := kvs.filter fun kv => decide (kv.1 ≠ k)
theorem IsK.drop {g : G} {F : Hp} (k : Key) : ∀ {vs : List (Key × V)} {ds : List (Key × D)}, IsK g F vs ds → IsK g F (dropK vs k) (dropKD ds k)
  | _, _, .nil => .nil
  | _, _, .cons (k := k0) (v := v) (vs := vs) (d := d) (ds := ds) h l => by
    have ih := IsK.drop k l
    unfold dropK dropKD at ih ⊢
    by_cases c : k0 = k
    · rw [List.filter_cons, if_neg (by simp [c]), List.filter_cons, if_neg (by simp [c])]
      exact ih
    · rw [List.filter_cons, if_pos (by simp [c]), List.filter_cons, if_pos (by simp [c])]
      exact .cons h ih
theorem EnvIs.dic {g : G} {B : Base} {F H : Hp} {ρ : L2.St} {env : Env} (E : EnvIs g B F H ρ env) {j : Nat} {p : Bool} {xs : List (Key × D)} (e : env[j]? = some (some (.own p (.dic xs)))) : ∃ a va, ρ[j]? = some (some (.ref a)) ∧ F a = none ∧ Mine B p a ∧ H a = some (.dK va) ∧ IsK g F va xs := by
  obtain ⟨a, ho, x, n, m, h, r⟩ := E.own e
  cases r with
  | dic l => exact ⟨a, _, x, n, m, h, l⟩
/-! ### a[i], b[j] = e -/
end Sim
namespace Sim
open PySem PySem.Spec PyProof.Rows L2

/-! ### abs, sum -/
def dAbs : List D → Option Rs
  | [.int i] => some (.val (.int (if i < 0 then -i else i)))
  | _ => none
/-! ### tuples: +, slices, * -/
def catT (x y : List D) : Rs := if x.isEmpty = true then .val (.tup y) else if y.isEmpty = true then .val (.tup x) else .tup (x ++ y)
def dAddX (x y : D) : Option Rs := match x with
  | .tup xs => match y with
    | .tup ys => if xs.length + ys.length ≤ LIM then some (catT xs ys) else none
    | _ => none
  | x => dAdd x y
theorem isT {g : G} {F H : Hp} {v : V} {ds : List D} (h : View g F H v (.tup ds)) : Is g F v (.tup ds) := by
  generalize e : D.tup ds = d at h
  cases h with
  | is i => exact i
  | own _ _ r => cases r <;> cases e
theorem op_addX {X : Cx} : OpR X (binaryOp .Add) (fun x y H Q => rAddD X.K x y H Q ∨ rCatA X.K x y H Q) := op_addD.or op_catA
theorem sem_addX {g : G} : Op2 g (fun x y H Q => rAddD g.K x y H Q ∨ rCatA g.K x y H Q) dAddX := fun F H x y dx dy Q s hx hy sa => by
  cases dx with
  | tup xs =>
    cases dy with
    | tup ys =>
      obtain ⟨a, vs, rfl, h1, l1⟩ := viewT s hx
      obtain ⟨b, ws, rfl, h2, l2⟩ := viewT s hy
      obtain ⟨c, sa⟩ := sat_if sa
      have q := sat_some sa
      refine .inr ⟨a, b, vs, ws, rfl, rfl, h1, h2, by rw [l1.len, l2.len]; exact lim_le c, fun e => ?_, fun e1 e2 => ?_, fun e1 e2 p n => ?_⟩
      · subst e
        cases l1
        exact q _ (isT hy)
      · subst e2
        cases l2
        cases l1 with
        | nil => exact absurd rfl e1
        | cons _ _ => exact q _ (isT hx)
      · cases l1 with
        | nil => exact absurd rfl e1
        | cons i1 t1 => cases l2 with
          | nil => exact absurd rfl e2
          | cons i2 t2 => exact q p _ n (IsL.append (.cons i1 t1) (.cons i2 t2))
    | _ => exact (sat_none sa).elim
  | _ => exact .inl (sem_add F H x y _ dy Q s hx hy sa)
def wholeT (n : Nat) (lo hi : Option Int) : Bool := decide (HT.sIx n 0 lo = 0 ∧ HT.sIx n n hi = n)
def dSliceX (x : D) (lo hi : Option Int) : Option Rs := match x with
  | .tup xs => some (if wholeT xs.length lo hi = true then .val (.tup xs) else .tup (cutD xs lo hi))
  | x => dSlice x lo hi
theorem sl_X {X : Cx} : SlR X (fun x lo hi H Q => rSlD X.K x lo hi H Q ∨ rSlA X.K x lo hi H Q) := sl_D.or sl_tupA
theorem sem_sliceX {g : G} : Op3 g (fun x lo hi H Q => rSlD g.K x lo hi H Q ∨ rSlA g.K x lo hi H Q) dSliceX := fun F H x dx lo hi Q s hx sa => by
  cases dx with
  | tup xs =>
    obtain ⟨a, vs, rfl, h1, l1⟩ := viewT s hx
    have q := sat_some sa
    refine .inr ⟨a, vs, rfl, h1, fun c => ?_, fun c p n => ?_⟩
    · rw [l1.len] at c
      have c' : wholeT xs.length lo hi = true := decide_eq_true c
      rw [if_pos c'] at q
      exact q _ (isT hx)
    · rw [l1.len] at c
      have c' : ¬ wholeT xs.length lo hi = true := fun z => c (of_decide_eq_true z)
      rw [if_neg c'] at q
      exact q p _ n (cut_is l1 lo hi)
  | _ => exact .inl (sem_slice F H x _ lo hi Q s hx sa)
theorem tuple_mulE (l : Addr) (items : Array Value) (n : Nat) (dd : Option Addr) (sl : Array (Option Value)) (x : Int) (u : Tok) (c0 : (decide (x < -(2 ^ 63)) || decide (x ≥ 2 ^ 63)) = false) (c1 : (items.isEmpty || x == 1) = true) :
    Meets (Builtin.«tuple.__mul__» ⟨[.ref l, .int x u], []⟩) (fun _ R s => s.heap.get? l = some { cls := .type "tuple", dict := dd, data := .seq items n, slots := sl } ∧ R (.ok (.ret (.ref l))) s) :=
  .of_wp fun prog w A R s h => by
    obtain ⟨hp, g, d, tk, os⟩ := s
    obtain ⟨hl, h⟩ := h
    have f1 := AutoSeq1.idx_int
    wp_walk using wpAny_loadPart' hl
    repeat (first
      | (refine wpAny_ite_false (decide_eq_false (by rw [c0]; exact Bool.false_ne_true)) ?_; wp_walk using wpAny_loadPart' hl)
      | (refine wpAny_ite_true (decide_eq_true c1) ?_; wp_walk using wpAny_loadPart' hl))
    exact ⟨_, rfl, h⟩
def rRepE (K : PySem.W.Frag) : R2 := fun x y H Q => ∃ l k, x = .ref l ∧ y = .int k ∧ SqT K H l [] ∧ -(2 ^ 62) ≤ k ∧ k < 2 ^ 62 ∧ Q (.ref l) H
theorem op_repE {X : Cx} : OpR X (binaryOp .Mult) (rRepE X.K) := by
  intro pins s σ H x y v u Q I rx ry h
  obtain ⟨l, k, rfl, rfl, hT, h1, h2, q⟩ := h
  cases rx
  obtain ⟨t, rfl⟩ := ry
  obtain ⟨its, r, ⟨⟨cls, dd, data, sl⟩, ho, hc, n, hd⟩, hs⟩ := I.tuple hT
  simp only at hc hd
  subst hc hd
  cases r
  have c0 : (decide (k < -(2 ^ 63)) || decide (k ≥ 2 ^ 63)) = false := by
    rw [decide_eq_false (by omega), decide_eq_false (by omega)] <;> rfl
  have c1 : ((([] : List Value).toArray).isEmpty || k == 1) = true := rfl
  refine wpAny_binaryOp_repeat_ref (T := "tuple") (U := "int") (by decide) ⟨_, ho, rfl⟩ (fun s2 => typeIs_int s2 k t) noFill_tuple_mul F.fills_int_mul F.slot_int_rmul repeat_tuple F.slot_int_index.lookup ?_
  refine call_meets F.slot_int_rmul (typeIs_int s k t) F.entry_int_rmul (F.args_int_rmul_2 _ _) (int_rmul_tuple k t l ([] : List Value).toArray n dd sl) ⟨ho, rfl, ⟨_, ho, rfl⟩, ?_⟩
  exact call_meets F.slot_tuple_mul ⟨_, ho, rfl⟩ F.entry_tuple_mul (F.args_tuple_mul_2 _ _) (tuple_mulE l ([] : List Value).toArray n dd sl k t c0 c1) ⟨ho, .ref l, H, I, rfl, q⟩
def okRep (k : Int) : Bool := @decide (2 ≤ k ∧ k ≤ 1000) (Classical.propDecidable _)
theorem okRep_iff {k : Int} (h : okRep k = true) : 2 ≤ k ∧ k ≤ 1000 := @of_decide_eq_true _ (Classical.propDecidable _) h
def dMulX (x y : D) : Option Rs := match x with
  | .tup xs => match y with
    | .int k => if okRep k = true ∧ xs.length ≤ 1000 then some (if xs.isEmpty = true then .val (.tup xs) else .tup (List.replicate k.toNat xs).flatten) else none
    | _ => none
  | x => dMul x y
theorem op_mulX {X : Cx} : OpR X (binaryOp .Mult) (fun x y H Q => rMulD x y H Q ∨ (rRepT X.K x y H Q ∨ rRepE X.K x y H Q)) := op_mulD.or (op_repT.or op_repE)
theorem sem_mulX {g : G} : Op2 g (fun x y H Q => rMulD x y H Q ∨ (rRepT g.K x y H Q ∨ rRepE g.K x y H Q)) dMulX := fun F H x y dx dy Q s hx hy sa => by
  cases dx with
  | tup xs =>
    cases dy with
    | int k =>
      obtain ⟨a, vs, rfl, h1, l1⟩ := viewT s hx
      rw [viewI hy]
      obtain ⟨⟨c1, c2⟩, sa⟩ := sat_if sa
      obtain ⟨k1, k2⟩ := okRep_iff c1
      have q := sat_some sa
      cases l1 with
      | nil => exact .inr (.inr ⟨a, k, rfl, rfl, h1, by omega, by omega, q _ (isT hx)⟩)
      | cons i1 t1 =>
        have l2 := IsL.cons i1 t1
        refine .inr (.inl ⟨a, k, _, rfl, rfl, h1, (fun z => nomatch z), k1, k2, by rw [l2.len]; exact c2, fun p n => ?_⟩)
        exact q p _ n (l2.reps _)
    | _ => exact (sat_none sa).elim
  | _ => exact .inl (sem_mul F H x y _ dy Q s hx hy sa)

/-! ### t[::-1] -/
end Sim
namespace Sim
open PySem PySem.Spec PyProof.Rows L2

/-! ### t[::-1] of a tuple -/
section
variable {prog : Program} {w : World} {A : Around} {E : Value → Shared → Prop} {s : Shared}
end
/-! ### [a, *xs] -/
theorem VsIs.vals {g : G} {F : Hp} {ρ : L2.St} {ws : List V} {ls : List Vl} (h : VsIs g F ρ ws ls) : ∀ {vs : List V} {ds : List D}, IsL g F vs ds → VsIs g F ρ (vs ++ ws) (ds.map Vl.val ++ ls)
  | _, _, .nil => h
  | _, _, .cons i l => .cons (.val i) (VsIs.vals h l)
end Sim
namespace Sim
open PySem PySem.Spec PyProof.Rows L2

/-! ### {k: v, ..} -/
abbrev DK := Env → Option (List (Key × Vl) × Env)
inductive KsIs (g : G) (F : Hp) (ρ : L2.St) : List (V × V) → List (Key × Vl) → Prop
  | nil : KsIs g F ρ [] []
  | cons {k : Key} {v : V} {vs : List (V × V)} {l : Vl} {ls : List (Key × Vl)} : VIs g F ρ v l → KsIs g F ρ vs ls → KsIs g F ρ ((kV k, v) :: vs) ((k, l) :: ls)
theorem KsIs.mono {g : G} {F F' : Hp} {ρ ρ' : L2.St} {v : List (V × V)} {l : List (Key × Vl)} (h : KsIs g F ρ v l) (e : Ex F F') (p : ρ <+: ρ') : KsIs g F' ρ' v l := by
  induction h with
  | nil => exact .nil
  | cons a _ k => exact .cons (a.mono e p) k
def SimK (g : G) (n : Nat) (trs : List (TE × TE)) (dk : DK) : Prop := ∀ (B : Base) (F H : Hp) (σ ρ : L2.St) (env : Env) (Q : List (V × V) → Hp → Prop), Wd B F H → σ.length = n → σ <+: ρ → EnvIs g B F H ρ env →
  Sat (dk env) (fun r => ∀ (F' H' : Hp) (ps : List (V × V)) (ρ' : L2.St), Wd B F' H' → Ex F F' → ρ <+: ρ' → EnvIs g B F' H' ρ' r.2 → KsIs g F' ρ' ps r.1 → Q ps H') → tPairs trs σ H Q
structure SK (CT : CTab) (X : Cx) (pos : Pos) (ks : List (Option Expr)) (vs : List Expr) (dk : DK) : Prop where
  ex : ∃ trs, PPs X pos ks vs trs ∧ SimK (gX CT X) X.N.length trs dk
section
variable {CT : CTab} {X : Cx} {pos : Pos}
end
end Sim
namespace Sim
open PySem PySem.Spec PyProof.Rows L2
theorem CalM.none {CT : CTab} {P : Program} {w : World} {K : PySem.W.Frag} {mg : Str → Option Value} {base h : Heap} {k : Nat} {x : Str} {st : Stmt} {ps : List Str} (Td : TopDef K x st) (X : K.In h) (G : h.Ns mainGlobals mg) (hb : ∀ (f : Addr) (fd : FuncData), Fun K x x st f fd → Binds K fd ps []) : CalM CT P w K mg base k x (fun _ _ => Option.none) := by
  refine CalM.of Td X G (fun f fd F => ⟨fun vs H Q E h => ?_, fun A outer s H args us vs Q E _ _ _ _ h => ?_⟩) hb
  · obtain ⟨_, _, _, _, _, _, _, _, _, _, _, _, _, _, sa⟩ := h
    exact (sat_none sa).elim
  · obtain ⟨_, _, _, _, _, _, _, _, _, _, _, _, _, _, sa⟩ := h
    exact (sat_none sa).elim
end Sim
namespace Sim
open PySem PySem.Spec PyProof.Rows L2
theorem addX_int (i j : Int) : dAddX (.int i) (.int j) = some (.val (.int (i + j))) := rfl
theorem addX_str (x y : Str) : dAddX (.str x) (.str y) = if x.length + y.length ≤ LIM then some (.val (.str (x ++ y))) else none := rfl
theorem addX_lst (x y : List D) : dAddX (.lst x) (.lst y) = if x.length + y.length ≤ LIM then some (.new (.lst (x ++ y))) else none := rfl
theorem mulX_int (i j : Int) : dMulX (.int i) (.int j) = if (small64 i || small64 j) = true then some (.val (.int (i * j))) else none := rfl
theorem sliceX_lst (x : List D) (lo hi : Option Int) : dSliceX (.lst x) lo hi = some (.new (.lst (cutD x lo hi))) := rfl
end Sim
namespace Sim
open PySem PySem.Spec PyProof.Rows L2
theorem ifS_t {t : DT} {a b : DS} {env e : Env} {r : Option Out} (h : t env = some (true, e)) (k : a (e.take env.length) = r) : dIfS t a b env = r := by
  unfold dIfS
  rw [h]
  exact k
theorem ifS_f {t : DT} {a b : DS} {env e : Env} {r : Option Out} (h : t env = some (false, e)) (k : b (e.take env.length) = r) : dIfS t a b env = r := by
  unfold dIfS
  rw [h]
  exact k
theorem ret_v {de : DE} {env e : Env} {l : Vl} (h : de env = some (l, e)) : dRet de env = some (.rt l e) := by
  unfold dRet
  rw [h]
  rfl
theorem lst_v {da : DA} {env e e' : Env} {ls : List Vl} {ds : List D} (h : da env = some (ls, e)) (hf : forces ls e = some (ds, e')) (hl : ds.length ≤ LIM) : dLst da env = some (.at e'.length, e' ++ [some (.own false (.lst ds))]) := by
  unfold dLst
  rw [h, Option.bind_some, hf, Option.bind_some]
  exact if_pos hl
end Sim
namespace Sim
open PySem PySem.Spec PyProof.Rows L2
/-! steps of expressions and statements, as lemmas; plain facts on cuts and memberships -/
theorem tup_v {da : DA} {env e e' : Env} {ls : List Vl} {ds : List D} (h : da env = some (ls, e)) (hf : forces ls e = some (ds, e')) (hl : ds.length ≤ LIM) : dTup da env = some (.val (.tup ds), e') := by
  unfold dTup
  rw [h, Option.bind_some, hf, Option.bind_some]
  exact if_pos hl
theorem cut_len {α : Type} (xs : List α) (lo hi : Option Int) : (cutD xs lo hi).length ≤ xs.length := by
  unfold cutD
  rw [List.length_take, List.length_drop]
  omega
theorem cutD_map {α β : Type} (f : α → β) (xs : List α) (lo hi : Option Int) : cutD (xs.map f) lo hi = (cutD xs lo hi).map f := by
  unfold cutD
  rw [List.length_map, List.map_take, List.map_drop]
abbrev e0 : Str := ""
end Sim
namespace Sim
open PySem hiding Env
set_option maxHeartbeats 1000000
/-! ### dicts of ints and texts -/
abbrev KD := List (L2.Key × D)
def isc (d : D) : Prop := (∃ i, d = .int i) ∨ ∃ s, d = .str s
structure WF (kvs : KD) : Prop where
  nd : (kvs.map (·.1)).Nodup
  sc : ∀ p ∈ kvs, isc p.2
theorem put_keys (kvs : KD) (k : L2.Key) (d : D) : (putKD kvs k d).map (·.1) = if (kvs.any fun p => decide (p.1 = k)) = true then kvs.map (·.1) else kvs.map (·.1) ++ [k] := by
  unfold putKD
  by_cases c : (kvs.any fun p => decide (p.1 = k)) = true
  · rw [if_pos c, if_pos c, List.map_map]
    exact List.map_congr_left fun q _ => by
      show (if q.1 = k then (q.1, d) else q).1 = q.1
      by_cases e : q.1 = k
      · rw [if_pos e]
      · rw [if_neg e]
  · rw [if_neg c, if_neg c]
    simp [addX_int, addX_str, addX_lst, mulX_int, sliceX_lst, defP, defM, dSeq, dIfS, dtB, d2, d1, dVar, dC, look, looks, force, forces, dIxA, dIx, L2.atI, L2.ixN, fin, finR, dOrd, fGt, fLt, fGe, fLe, dAsg, dMod, put, dStore, dd, atOf, ownAt, storeO, dDiv, dRet, rvOf, own0, Ob.frz, dNext, dAdd, dSub, dMul, dPow, dtOr, dtAnd, dtNot, dAndV, dOrV, dNotV, dIf, dChain, dL, dLen, dCons, dNil, dIsi, isIns, isTy, dCallP, dCallM, dLst, dTup, dLc, diSeqS, seqS, wipesE, restore, bindP, bindPs, dAsgP, dMulti, pin, puts, dEq, dNe, dIsN, dNotN, dFor, dDrop, dListA, dListR1, dListR2, dMS, Sim.strOf, dFld, dSl, doSome, doNone, dSlice, dInA, dNewD, eqA_int, eqA_str, eqA_bl]
theorem WF.put {kvs : KD} (w : WF kvs) (k : L2.Key) {d : D} (h : isc d) : WF (putKD kvs k d) := by
  refine ⟨?_, ?_⟩
  · rw [put_keys]
    by_cases c : (kvs.any fun p => decide (p.1 = k)) = true
    · rw [if_pos c]
      exact w.nd
    · rw [if_neg c]
      rw [List.nodup_append]
      refine ⟨w.nd, by simp [addX_int, addX_str, addX_lst, mulX_int, sliceX_lst, defP, defM, dSeq, dIfS, dtB, d2, d1, dVar, dC, look, looks, force, forces, dIxA, dIx, L2.atI, L2.ixN, fin, finR, dOrd, fGt, fLt, fGe, fLe, dAsg, dMod, put, dStore, dd, atOf, ownAt, storeO, dDiv, dRet, rvOf, own0, Ob.frz, dNext, dAdd, dSub, dMul, dPow, dtOr, dtAnd, dtNot, dAndV, dOrV, dNotV, dIf, dChain, dL, dLen, dCons, dNil, dIsi, isIns, isTy, dCallP, dCallM, dLst, dTup, dLc, diSeqS, seqS, wipesE, restore, bindP, bindPs, dAsgP, dMulti, pin, puts, dEq, dNe, dIsN, dNotN, dFor, dDrop, dListA, dListR1, dListR2, dMS, Sim.strOf, dFld, dSl, doSome, doNone, dSlice, dInA, dNewD, eqA_int, eqA_str, eqA_bl], fun a ha b hb => ?_⟩
      rw [List.mem_singleton.mp hb]
      intro z
      obtain ⟨q, hq, e⟩ := List.mem_map.mp ha
      exact c (List.any_eq_true.mpr ⟨q, hq, by simp [addX_int, addX_str, addX_lst, mulX_int, sliceX_lst, defP, defM, dSeq, dIfS, dtB, d2, d1, dVar, dC, look, looks, force, forces, dIxA, dIx, L2.atI, L2.ixN, fin, finR, dOrd, fGt, fLt, fGe, fLe, dAsg, dMod, put, dStore, dd, atOf, ownAt, storeO, dDiv, dRet, rvOf, own0, Ob.frz, dNext, dAdd, dSub, dMul, dPow, dtOr, dtAnd, dtNot, dAndV, dOrV, dNotV, dIf, dChain, dL, dLen, dCons, dNil, dIsi, isIns, isTy, dCallP, dCallM, dLst, dTup, dLc, diSeqS, seqS, wipesE, restore, bindP, bindPs, dAsgP, dMulti, pin, puts, dEq, dNe, dIsN, dNotN, dFor, dDrop, dListA, dListR1, dListR2, dMS, Sim.strOf, dFld, dSl, doSome, doNone, dSlice, dInA, dNewD, eqA_int, eqA_str, eqA_bl, e, z]⟩)
  · intro p hp
    unfold putKD at hp
    by_cases c : (kvs.any fun p => decide (p.1 = k)) = true
    · rw [if_pos c] at hp
      obtain ⟨q, hq, e⟩ := List.mem_map.mp hp
      by_cases e2 : q.1 = k
      · rw [if_pos e2] at e
        rw [← e]
        exact h
      · rw [if_neg e2] at e
        rw [← e]
        exact w.sc q hq
    · rw [if_neg c] at hp
      rcases List.mem_append.mp hp with hp | hp
      · exact w.sc p hp
      · rw [List.mem_singleton.mp hp]
        exact h
theorem put_len (kvs : KD) (k : L2.Key) (d : D) : (putKD kvs k d).length ≤ kvs.length + 1 := by
  have := congrArg List.length (put_keys kvs k d)
  rw [List.length_map] at this
  rw [this]
  by_cases c : (kvs.any fun p => decide (p.1 = k)) = true
  · rw [if_pos c, List.length_map]; omega
  · rw [if_neg c, List.length_append, List.length_map]; exact Nat.le_refl _
theorem WF.drop {kvs : KD} (w : WF kvs) (k : L2.Key) : WF (dropKD kvs k) :=
  ⟨(List.Sublist.map _ List.filter_sublist).nodup w.nd, fun p hp => w.sc p (List.mem_filter.mp hp).1⟩
theorem WF.nil : WF [] := ⟨by simp [addX_int, addX_str, addX_lst, mulX_int, sliceX_lst, defP, defM, dSeq, dIfS, dtB, d2, d1, dVar, dC, look, looks, force, forces, dIxA, dIx, L2.atI, L2.ixN, fin, finR, dOrd, fGt, fLt, fGe, fLe, dAsg, dMod, put, dStore, dd, atOf, ownAt, storeO, dDiv, dRet, rvOf, own0, Ob.frz, dNext, dAdd, dSub, dMul, dPow, dtOr, dtAnd, dtNot, dAndV, dOrV, dNotV, dIf, dChain, dL, dLen, dCons, dNil, dIsi, isIns, isTy, dCallP, dCallM, dLst, dTup, dLc, diSeqS, seqS, wipesE, restore, bindP, bindPs, dAsgP, dMulti, pin, puts, dEq, dNe, dIsN, dNotN, dFor, dDrop, dListA, dListR1, dListR2, dMS, Sim.strOf, dFld, dSl, doSome, doNone, dSlice, dInA, dNewD, eqA_int, eqA_str, eqA_bl], fun _ h => nomatch h⟩
theorem valK_mem {kvs : KD} (nd : (kvs.map (·.1)).Nodup) : ∀ p ∈ kvs, valK kvs p.1 = some p.2 := by
  induction kvs with
  | nil => exact fun _ h => nomatch h
  | cons q qs ih =>
    rw [List.map_cons, List.nodup_cons] at nd
    intro p hp
    unfold valK
    rw [List.find?_cons]
    rcases List.mem_cons.mp hp with rfl | hp
    · simp [addX_int, addX_str, addX_lst, mulX_int, sliceX_lst, defP, defM, dSeq, dIfS, dtB, d2, d1, dVar, dC, look, looks, force, forces, dIxA, dIx, L2.atI, L2.ixN, fin, finR, dOrd, fGt, fLt, fGe, fLe, dAsg, dMod, put, dStore, dd, atOf, ownAt, storeO, dDiv, dRet, rvOf, own0, Ob.frz, dNext, dAdd, dSub, dMul, dPow, dtOr, dtAnd, dtNot, dAndV, dOrV, dNotV, dIf, dChain, dL, dLen, dCons, dNil, dIsi, isIns, isTy, dCallP, dCallM, dLst, dTup, dLc, diSeqS, seqS, wipesE, restore, bindP, bindPs, dAsgP, dMulti, pin, puts, dEq, dNe, dIsN, dNotN, dFor, dDrop, dListA, dListR1, dListR2, dMS, Sim.strOf, dFld, dSl, doSome, doNone, dSlice, dInA, dNewD, eqA_int, eqA_str, eqA_bl]
    · have : ¬ q.1 = p.1 := fun z => nd.1 (by rw [z]; exact List.mem_map_of_mem hp)
      simp only [this, decide_false]
      exact ih nd.2 p hp
theorem isc_fl {d : D} (h : isc d) : flD d = true := by rcases h with ⟨i, rfl⟩ | ⟨i, rfl⟩ <;> rfl
theorem WF.same {kvs : KD} (w : WF kvs) : sameK kvs kvs := by
  refine ⟨rfl, ?_⟩
  have : ∀ ks : KD, (∀ p ∈ ks, p ∈ kvs) → subK kvs ks := by
    intro ks
    induction ks with
    | nil => exact fun _ => trivial
    | cons p ps ih => exact fun h => ⟨⟨valK_mem w.nd p (h p (List.mem_cons_self ..)), isc_fl (w.sc p (h p (List.mem_cons_self ..)))⟩, ih fun q hq => h q (List.mem_cons_of_mem _ hq)⟩
  exact this kvs fun _ h => h
theorem WF.val {kvs : KD} (w : WF kvs) {k : L2.Key} {d : D} (h : valK kvs k = some d) : isc d := by
  unfold valK at h
  obtain ⟨p, e1, e2⟩ := Option.map_eq_some_iff.mp h
  rw [← e2]
  exact w.sc p (List.mem_of_find?_eq_some e1)
end Sim
namespace Sim
open PySem PySem.Spec PyProof.Rows L2
/-! more steps -/
theorem dEq_str (x y : Str) : dEq (.str x) (.str y) = some (.val (.bl (decide (x = y)))) := rfl
theorem dEq_int (x y : Int) : dEq (.int x) (.int y) = some (.val (.bl (decide (x = y)))) := rfl
theorem dNe_str (x y : Str) : dNe (.str x) (.str y) = some (.val (.bl (!decide (x = y)))) := rfl
theorem dNe_int (x y : Int) : dNe (.int x) (.int y) = some (.val (.bl (!decide (x = y)))) := rfl
theorem for_v {p : Pat} {di : DI} {body : DS} {env e1 : Env} {xs : List D} {r : Option Out} (h : di env = some (xs, e1)) (k : dLoop (bindP p) body xs (e1.take env.length) = r) : dFor p di body env = r := by
  unfold dFor
  rw [h]
  exact k
theorem lc_v {own : List Nat} {di : DI} {p : Pat} {dt : DT} {de : DE} {env e1 e : Env} {xs ys : List D} (h : di env = some (xs, e1)) (k : lcLoop own e1.length p dt de xs [] (wipesE e1 own) = some (ys, e)) : dLc own di p dt de env = some (.at (restore e1 own e).length, restore e1 own e ++ [some (.own false (.lst ys))]) := by
  unfold dLc
  rw [h, Option.bind_some]
  simp only
  rw [k]
  rfl
theorem r1_v {de : DE} {env e : Env} {k : Int} (h : de env = some (.val (.int k), e)) (hk : okR k = true) : diR1 de env = some (rngD 0 k, e) := by
  unfold diR1
  rw [h, Option.bind_some]
  exact if_pos hk
theorem drop_v {de : DE} {env e : Env} {l : Vl} (h : de env = some (l, e)) : dDrop de env = some (.nx (e.take env.length)) := by
  unfold dDrop
  rw [h]
  rfl
theorem seqS_v {de : DE} {env e : Env} {l : Vl} {d : D} {xs : List D} {e2 : Env} (h : de env = some (l, e)) (hf : force l e = some (d, e2)) (k : seqS d = some xs) : diSeqS de env = some (xs, e2) := by
  unfold diSeqS dd
  rw [h, Option.bind_some, hf, Option.bind_some, k]
  rfl
theorem multi_v {is : List Nat} {da : DA} {env e1 e2 e3 : Env} {ls l2 : List Vl} (h : da env = some (ls, e1)) (k : pin env.length ls e1 = some (l2, e2)) (q : puts env.length is l2 e2 = some e3) : dMulti is da env = some (.nx (e3.take env.length)) := by
  unfold dMulti
  rw [h, Option.bind_some, k, Option.bind_some, q]
  rfl
def rngI (lo hi : Int) : List Int := (List.range (hi - lo).toNat).map fun (i : Nat) => lo + (i : Int)
theorem rngD_eq (lo hi : Int) : rngD lo hi = (rngI lo hi).map D.int := by
  unfold rngD rngI
  rw [List.map_map]
  rfl
theorem rngI_len (lo hi : Int) : (rngI lo hi).length = (hi - lo).toNat := by
  unfold rngI
  rw [List.length_map, List.length_range]
theorem mem_rngI {lo hi c : Int} : c ∈ rngI lo hi ↔ lo ≤ c ∧ c < hi := by
  unfold rngI
  rw [List.mem_map]
  constructor
  · rintro ⟨k, hk, rfl⟩
    have := List.mem_range.mp hk
    omega
  · rintro ⟨h1, h2⟩
    exact ⟨(c - lo).toNat, List.mem_range.mpr (by omega), by omega⟩
end Sim
namespace Sim
open PySem PySem.Spec PyProof.Rows L2
/-! ### texts as lists of signs -/
def mkS (cs : List Nat) : Str := ⟨cs.toArray⟩
theorem tl_mk (cs : List Nat) : TL.tl (mkS cs) = cs := rfl
theorem mk_len (cs : List Nat) : (mkS cs).length = cs.length := by
  show cs.toArray.size = _
  exact List.size_toArray ..
theorem tl_len (x : Str) : (TL.tl x).length = x.length := by
  show x.cps.toList.length = x.cps.size
  exact Array.length_toList
theorem blank_is : (Str.ofString " ") = mkS [32] := by decide +kernel
theorem foldl_app (x : Array Nat) : ∀ (n : Nat) (a : Array Nat), (List.foldl (fun p q => p ++ q) a (List.replicate n x)).toList = a.toList ++ (List.replicate n x.toList).flatten
  | 0, a => by simp
  | n + 1, a => by
    show (List.foldl (fun p q => p ++ q) (a ++ x) (List.replicate n x)).toList = _
    rw [foldl_app x n (a ++ x), Array.toList_append, List.append_assoc]
    rfl
theorem tl_mul1 (c : Nat) (n : Int) : TL.tl (Txt.mul (mkS [c]) n) = List.replicate n.toNat c := by
  show TL.tl (if n < 1 then Str.empty else if (n == 1 || (mkS [c]).length == 0) = true then mkS [c] else { cps := List.foldl (fun x1 x2 => x1 ++ x2) #[] (List.replicate n.toNat (mkS [c]).cps) }) = _
  by_cases h : n < 1
  · rw [if_pos h, show n.toNat = 0 by omega]
    rfl
  · rw [if_neg h]
    by_cases q : n = 1
    · rw [q]
      rfl
    · rw [if_neg (by rw [mk_len]; simpa using q)]
      show (List.foldl (fun p q => p ++ q) (#[] : Array Nat) (List.replicate n.toNat (mkS [c]).cps)).toList = _
      rw [foldl_app]
      show [] ++ (List.replicate n.toNat [c]).flatten = _
      rw [List.nil_append]
      generalize n.toNat = k
      induction k with
      | zero => rfl
      | succ k ih =>
        rw [List.replicate_succ, List.flatten_cons, ih]
        rfl
end Sim
namespace Sim
open PySem PySem.Spec PyProof.Rows L2
/-! all signs of a text between two signs -/
theorem hLe_one (a b : Nat) : hLe [a] [b] = decide (a ≤ b) := by
  show (!decide ([b] < [a])) = _
  have e : ([b] < [a]) ↔ b < a := by simp [List.cons_lt_cons_iff]
  by_cases h : a ≤ b
  · rw [decide_eq_true h, decide_eq_false (fun q => by have := e.mp q; omega)]
    rfl
  · rw [decide_eq_false h, decide_eq_true (e.mpr (by omega))]
    rfl
theorem betw_v {A B : Str} {a b c : Nat} (hA : A = mkS [a]) (hB : B = mkS [b]) {db : DE} {env : Env} (h : db env = some (.val (.str (mkS [c])), env)) : dChain dLe dLe (dC (.str A)) db (dC (.str B)) env = some (.val (.bl (decide (a ≤ c) && decide (c ≤ b))), env) := by
  subst hA hB
  unfold dChain
  rw [show dC (.str (mkS [a])) env = some (Vl.val (.str (mkS [a])), env) from rfl, Option.bind_some, h, Option.bind_some]
  simp only [look, Option.bind_some]
  rw [show dLe (.str (mkS [a])) (.str (mkS [c])) = some (Rs.val (.bl (hLe [a] [c]))) from rfl, hLe_one, Option.bind_some]
  cases decide (a ≤ c)
  · rfl
  · show (((dLe (.str (mkS [c])) (.str (mkS [b])))).bind fun u => some (fin env u)) = _
    rw [show dLe (.str (mkS [c])) (.str (mkS [b])) = some (Rs.val (.bl (hLe [c] [b]))) from rfl, hLe_one]
    rfl
theorem bools_mapf {α : Type} (f : α → Bool) (xs : List α) : bools (xs.map fun x => D.bl (f x)) = some (xs.map f) := by
  induction xs with
  | nil => rfl
  | cons x xs ih =>
    show ((bools (xs.map fun x => D.bl (f x))).map fun bs => f x :: bs) = _
    rw [ih]
    rfl
theorem all_v {α : Type} (f : α → Bool) (xs : List α) : dAll [.lst (xs.map fun x => D.bl (f x))] = some (.val (.bl (xs.all f))) := by
  show ((bools (xs.map fun x => D.bl (f x))).map fun bs => Rs.val (.bl (bs.all id))) = _
  rw [bools_mapf]
  show some (Rs.val (.bl ((xs.map f).all id))) = _
  rw [List.all_map]
  rfl
def between (a b : Nat) (z : Str) : Bool := (TL.tl z).all fun c => decide (a ≤ c) && decide (c ≤ b)
theorem mulOk_of (c : Nat) {n : Int} (h0 : 0 ≤ n) (h1 : n ≤ 1000) : MulOk (mkS [c]) n := by
  refine ⟨?_, ?_, ?_⟩
  · rw [decide_eq_false (by omega : ¬ n < -2 ^ 63), decide_eq_false (by omega : ¬ n ≥ 2 ^ 63)]
    rfl
  · intro a _
    rw [mk_len]
    have : 1 ≤ (2 ^ 63 - 1) / n := by
      have hn : 0 < n := by omega
      rw [Int.le_ediv_iff_mul_le hn]
      omega
    show ¬ ((1 : Nat) : Int) > (2 ^ 63 - 1) / n
    omega
  · intro _ _
    rw [mk_len]
    show decide (1 * n.toNat > sizeLine) = false
    refine decide_eq_false ?_
    have : 1000 ≤ sizeLine := by decide
    omega
theorem mulS_v (c : Nat) {n : Int} (h0 : 0 ≤ n) (h1 : n ≤ 1000) : dMulX (.str (mkS [c])) (.int n) = some (.val (.str (mkS (List.replicate n.toNat c)))) := by
  show (if MulOk (mkS [c]) n then some (Rs.val (.str (repS (mkS [c]) n))) else none) = _
  rw [if_pos (mulOk_of c h0 h1)]
  have : repS (mkS [c]) n = mkS (List.replicate n.toNat c) := TL.ext_tl (tl_mul1 c n)
  rw [this]
end Sim
namespace Sim
open PySem PySem.Spec PyProof.Rows L2
def ones (L : List Nat) : List D := L.map fun c => D.str (mkS [c])
/-- signs of a text put into a row of signs -/
def putL (L : List Nat) (a : Nat) (t : List Nat) : List Nat := L.take a ++ t ++ L.drop (a + t.length)
end Sim
namespace Sim
open PySem PySem.Spec PyProof.Rows L2
/-! ### a dict of ours, locked while it is walked over -/
def Base.lk1 (B : Base) (d : Addr) (u : HO) : Base := { B with L := (d, u) :: B.L.filter fun p => decide (p.1 ≠ d) }
section
variable {g : G} {B : Base} {F F' H H' : Hp} {σ ρ : L2.St} {env : Env}
theorem Wd.lock1 (w : Wd B F H) {d : Addr} {u : HO} {od : Obj} (f : F d = some u) (h : H d = some u) (lk : lockable u = true) : Wd (B.lk1 d (.frz od u)) F (upd H d (.frz od u)) := by
  refine ⟨fun b o e => ?_, w.ex0, fun b o e x y => ?_, fun b e => ?_, w.fr, fun p hp => ?_, w.bor⟩
  · by_cases c : b = d
    · subst c
      rw [f] at e
      cases e
      exact .inr ⟨lk, od, upd_same⟩
    · rw [upd_ne c]
      exact w.sub b o e
  · have ne : b ≠ d := fun z => by
      subst z
      have q := w.fr b (by rw [show B.H b = some o from e]; exact fun z => nomatch z)
      rw [f] at q
      have y' : B.F b = none := y
      rw [y'] at q
      cases q
    rw [upd_ne ne]
    exact w.keep b o e x y
  · by_cases c : b = d
    · rw [c, upd_same]
      exact fun z => nomatch z
    · rw [upd_ne c]
      exact w.dom b e
  · rcases List.mem_cons.mp hp with rfl | hp
    · exact ⟨upd_same, by rw [f]; exact fun z => nomatch z⟩
    · obtain ⟨h1, h2⟩ := List.mem_filter.mp hp
      rw [upd_ne (of_decide_eq_true h2)]
      exact w.lk p h1
theorem Wd.lock0 (w : Wd B F H) {d : Addr} {u : HO} (f : F d ≠ none) (h : H d = some u) : Wd (B.lk1 d u) F H := by
  refine ⟨w.sub, w.ex0, w.keep, w.dom, w.fr, fun p hp => ?_, w.bor⟩
  rcases List.mem_cons.mp hp with rfl | hp
  · exact ⟨h, f⟩
  · exact w.lk p (List.mem_filter.mp hp).1
theorem Wd.unlock0 {d : Addr} {u : HO} (w0 : Wd B F H) (h : H d = some u) (w : Wd (B.lk1 d u) F' H') : Wd B F' H' := by
  refine ⟨w.sub, w.ex0, w.keep, w.dom, w.fr, fun p hp => ?_, w.bor⟩
  by_cases c : p.1 = d
  · have h1 := w.lk (d, u) (List.mem_cons_self ..)
    have h2 := (w0.lk p hp).1
    rw [c, h] at h2
    rw [c, ← Option.some.inj h2]
    exact h1
  · exact w.lk p (List.mem_cons_of_mem _ (List.mem_filter.mpr ⟨hp, decide_eq_true c⟩))
theorem Wd.unlock1 {d : Addr} {u : HO} {od : Obj} (w0 : Wd B F H) (f : F d = some u) (h : H d = some u) (x : Ex F F') (w : Wd (B.lk1 d (.frz od u)) F' H') : Wd B F' (upd H' d u) := by
  have hd : H' d = some (.frz od u) := (w.lk (d, .frz od u) (List.mem_cons_self ..)).1
  refine ⟨fun b o e => ?_, w.ex0, fun b o e z y => ?_, fun b e => ?_, w.fr, fun p hp => ?_, w.bor⟩
  · by_cases c : b = d
    · subst c
      rw [x _ _ f] at e
      cases e
      exact .inl upd_same
    · rw [upd_ne c]
      exact w.sub b o e
  · have ne : b ≠ d := fun z => by
      subst z
      have q := w.fr b (by show B.H b ≠ none; rw [e]; exact fun z => nomatch z)
      rw [x _ _ f] at q
      have y' : B.F b = none := y
      have q' : some u = B.F b := q
      rw [y'] at q'
      cases q'
    rw [upd_ne ne]
    exact w.keep b o e z y
  · by_cases c : b = d
    · rw [c, upd_same]
      exact fun z => nomatch z
    · rw [upd_ne c]
      exact w.dom b e
  · by_cases c : p.1 = d
    · have h2 := (w0.lk p hp)
      rw [c, h] at h2
      refine ⟨by rw [c, upd_same]; exact h2.1, ?_⟩
      rw [c, x _ _ f]
      exact fun z => nomatch z
    · rw [upd_ne c]
      exact w.lk p (List.mem_cons_of_mem _ (List.mem_filter.mpr ⟨hp, decide_eq_true c⟩))
theorem SlIs.base {v : V} {s : Sl} (h : SlIs g B F H v s) {B' : Base} (hH : B'.H = B.H) (hA : B'.A = B.A) : SlIs g B' F H v s := by
  cases h with
  | val i => exact .val i
  | @own a p o ho n m hh r =>
    refine .own n ?_ hh r
    unfold Mine at m ⊢
    rw [hH, hA]
    exact m
theorem EnvIs.base (E : EnvIs g B F H ρ env) {B' : Base} (hH : B'.H = B.H) (hA : B'.A = B.A) : EnvIs g B' F H ρ env :=
  ⟨E.len, fun i s e => let ⟨v, a, b⟩ := E.sl i s e; ⟨v, a, b.base hH hA⟩, E.dis⟩
theorem EnvIs.updF {d : Addr} {u : HO} (E : EnvIs g B F H ρ env) (f : F d ≠ none) : EnvIs g B F (upd H d u) ρ env :=
  E.step (Ex.refl F) fun a ho n h => ⟨n, by rw [upd_ne (fun z => f (by rw [← z]; exact n))]; exact h⟩
theorem lk_walk {d : Addr} {o : Obj} {vk : List (Key × V)} {kvs : List (Key × D)} {L : List (Addr × HO)} (hl : (d, HO.frz o (.dK vk)) ∈ L) (ik : IsK g F vk kvs) : Wk g L (Itk d o vk) F (kvs.map fun kv => keyD kv.1) := by
  have len : ∀ {vk : List (Key × V)} {kvs : List (Key × D)}, IsK g F vk kvs → vk.length = kvs.length := by
    intro vk kvs h
    induction vk generalizing kvs with
    | nil => cases h; rfl
    | cons p ps ih => cases h with | cons h l => exact congrArg (· + 1) (ih l)
  have get : ∀ {vk : List (Key × V)} {kvs : List (Key × D)} {i : Nat} {k : Key} {v : V}, IsK g F vk kvs → vk[i]? = some (k, v) → ∃ x, kvs[i]? = some (k, x) := by
    intro vk kvs i k v h
    induction vk generalizing kvs i with
    | nil => intro e; simp at e
    | cons p ps ih =>
      cases h with
      | cons h l =>
        intro e
        cases i with
        | zero => cases e; exact ⟨_, rfl⟩
        | succ i => obtain ⟨x, hx⟩ := ih l e; exact ⟨x, hx⟩
  refine ⟨⟨fun i H x H' => H' = H ∧ ∃ k v, vk[i]? = some (k, v) ∧ x = kV k, ?_, fun i H x H' y => ?_⟩⟩
  · rw [List.length_map, ← len ik]
    exact walk_keys.mono (fun H ⟨F', x, s, q⟩ => q _ hl) fun i H x H' hi q y => y
  · obtain ⟨rfl, k, v, e, rfl⟩ := y
    obtain ⟨z, ez⟩ := get ik e
    refine ⟨keyD k, ?_, .inl ⟨rfl, keyD_is k⟩⟩
    rw [List.getElem?_map, ez]
    rfl
end
/-- a walk over a slot's dict: its keys; else as always -/
def diKeys (kvs : List (Key × D)) : DI := fun env => some (kvs.map fun kv => keyD kv.1, env)
def dLcV (own : List Nat) (i : Nat) (p : Pat) (dt : DT) (de : DE) : DE := fun env => match env[i]? with
  | some (some (.val (.dic kvs))) => dLc own (diKeys kvs) p dt de env
  | _ => dLc own (diSeqS (dVar i)) p dt de env
theorem simLcV {g : G} {n : Nat} {ti : TI} {tg : TG} {tt : TT} {te : TE} {i : Nat} {p : Pat} {dt : DT} {de : DE} {vs : List Nat} (hin : i < n) (hi : SimI g n ti (diSeqS (dVar i))) (hg : SimG g n tg (bindP p) p.ix) (ht : SimT g n tt dt) (he : SimE g n te de) (hv : ∀ i ∈ vs, i < n) (hp : ∀ i ∈ p.ix, i ∈ vs) :
    SimE g n (fun σ H Q => tLc ti tg tt te vs σ H Q ∨ tLc (iKeys (L2.tVar i)) tg tt te vs σ H Q ∨ tLockE (tLc (iKeys (L2.tVar i)) tg tt te vs) σ H Q) (dLcV vs i p dt de) := fun B F H σ ρ env Q w l pf E s => by
  unfold dLcV at s
  split at s
  · rename_i kvs q
    refine .inr ?_
    obtain ⟨v, hv1, iv⟩ := E.val q
    cases iv with
    | @dic d vk dk fd ik =>
    have hσ : σ[i]? = some (some (.ref d)) := by
      obtain ⟨τ, rfl⟩ := pf
      rwa [List.getElem?_append_left (by omega)] at hv1
    have fd' : F d ≠ none := by rw [fd]; exact fun z => nomatch z
    rcases w.sub d _ fd with hd | ⟨_, od, hd⟩
    · refine .inr ⟨d, .dK vk, hd, trivial, fun od => ?_⟩
      have w1 := w.lock1 (od := od) fd hd rfl
      have E1 : EnvIs g (B.lk1 d (.frz od (.dK vk))) F (upd H d (.frz od (.dK vk))) ρ env := (E.updF fd').base rfl rfl
      refine simLcAt (di := diKeys kvs) (fun R h => ?_) hg ht he hv hp w1 l pf E1 (s.mono fun r k F' H' v ρ' w' x' p' E' i' => ?_)
      · obtain ⟨_, e, k⟩ := h
        cases e
        exact ⟨_, hσ, d, od, rfl, .inl ⟨vk, upd_same, k F _ ρ _ w1 (Ex.refl F) List.prefix_rfl E1 (lk_walk (List.mem_cons_self ..) ik)⟩⟩
      · have f2 : F' d ≠ none := by rw [x' _ _ fd]; exact fun z => nomatch z
        exact ⟨(w'.lk (d, _) (List.mem_cons_self ..)).1, k F' _ v ρ' (w.unlock1 fd hd x' w') x' p' ((E'.base (B' := B) rfl rfl).updF f2) i'⟩
    · refine .inl ?_
      have w1 := w.lock0 fd' hd
      have E1 : EnvIs g (B.lk1 d (.frz od (.dK vk))) F H ρ env := E.base rfl rfl
      refine simLcAt (di := diKeys kvs) (fun R h => ?_) hg ht he hv hp w1 l pf E1 (s.mono fun r k F' H' v ρ' w' x' p' E' i' => ?_)
      · obtain ⟨_, e, k⟩ := h
        cases e
        exact ⟨_, hσ, d, od, rfl, .inl ⟨vk, hd, k F _ ρ _ w1 (Ex.refl F) List.prefix_rfl E1 (lk_walk (List.mem_cons_self ..) ik)⟩⟩
      · exact k F' _ v ρ' (w.unlock0 hd w') x' p' (E'.base (B' := B) rfl rfl) i'
  · exact .inl (simLc hi hg ht he hv hp B F H σ ρ env Q w l pf E s)
theorem se_lcV {CT : CTab} {X : Cx} {i : Nat} {x : Str} {xp : Pos} {elt tg : Expr} {ifs : List Expr} {scope : Scope} {own : List (Str × Nat)} {pos : Pos} {p : Pat} {dt : DT} {de : DE} (hN1 : X.N[i]? = some x) (hv : Vis X.env.scope x) (hd : (x == ("__debug__" : Str)) = false) (hcd : (x == ("__classdict__" : Str)) = false)
    (hc : X.calm = true) (hN : X.N.Nodup) (ok : BlkOk X.N X.env.scope scope own)
    (hg : ∀ (s : Shared) (H : Hp) (C : Addr) (cl : List (Str × Addr)) (fp : List Addr), SG CT (X.blk s H scope (compEnvC scope cl C X.env) fp) tg p)
    (ht : ∀ (s : Shared) (H : Hp) (C : Addr) (cl : List (Str × Addr)) (fp : List Addr), STs CT (X.blk s H scope (compEnvC scope cl C X.env) fp) ifs dt)
    (he : ∀ (s : Shared) (H : Hp) (C : Addr) (cl : List (Str × Addr)) (fp : List Addr), SE CT (X.blk s H scope (compEnvC scope cl C X.env) fp) elt de)
    (hp : ∀ i ∈ p.ix, i ∈ own.map (·.2) := by decide) (hs : ∀ y, foldedSetIterable (.Name x xp) X.env y = pure y := by intro _; rfl) : SE CT X (.ListComp elt [⟨tg, .Name x xp, ifs, 0⟩] scope pos) (dLcV (own.map (·.2)) i p dt de) := by
  obtain ⟨_, a1, b1⟩ := si_seqS (tg := tg) (se_var (CT := CT) (pos := xp) i hN1 hv hd hcd)
  have k1 : PI X tg (.Name x xp) (iKeys (L2.tVar i)) := pi_keys (pe_var hN1 hv hd hcd)
  have lc : ∀ {wi : TI}, PI X tg (.Name x xp) wi → PE X (.ListComp elt [⟨tg, .Name x xp, ifs, 0⟩] scope pos) (tLc wi (tgOf (gX CT X) X.N.length p) (ttOf (gX CT X) X.N.length dt) (tOf (gX CT X) X.N.length de) (own.map (·.2))) := fun a1 =>
    pe_lc (g := tgOf (gX CT X) X.N.length p) (tt := ttOf (gX CT X) X.N.length dt) (te := tOf (gX CT X) X.N.length de) hc hN a1 ok (fun s H C cl fp => (hg s H C cl fp).canon) (fun s H C cl fp => (ht s H C cl fp).canon) (fun s H C cl fp => (he s H C cl fp).canon) hs
  refine ⟨_, PE.or (lc a1) (PE.or (lc k1) (pe_lock (lc k1))), simLcV (List.getElem?_eq_some_iff.mp hN1).1 b1 (fun B F H σ ρ env v d Q w l p E i k => ?_) (fun B F H σ ρ env Q w l p E k => ?_) (fun B F H σ ρ env Q w l p E k => ?_) (fun i hi => ?_) hp⟩
  · exact ⟨B, F, ρ, env, d, w, l, p, E, i, k⟩
  · exact ⟨B, F, ρ, env, w, l, p, E, k⟩
  · exact ⟨B, F, ρ, env, w, l, p, E, k⟩
  · obtain ⟨q, hq, rfl⟩ := List.mem_map.mp hi
    exact (List.getElem?_eq_some_iff.mp (ok.ix q hq)).1
end Sim
namespace Sim
open PySem PySem.Spec PyProof.Rows L2
/-! ### great ints, gcd, a range downwards -/
def okMul (i j : Int) : Bool := @decide (CMulW i j) (Classical.propDecidable _)
theorem okMul_of {i j : Int} (h : CMulW i j) : okMul i j = true := @decide_eq_true _ (Classical.propDecidable _) h
def okDiv (i j : Int) : Bool := @decide (CDivW i j) (Classical.propDecidable _)
theorem okDiv_of {i j : Int} (h : CDivW i j) : okDiv i j = true := @decide_eq_true _ (Classical.propDecidable _) h
def dMulW (x y : D) : Option Rs := match x with
  | .int i => match y with
    | .int j => if okMul i j = true then some (.val (.int (i * j))) else none
    | _ => none
  | x => dMulX x y
theorem op_mulW2 {X : Cx} : OpR X (binaryOp .Mult) (fun x y H Q => (rI CMulW fun i j => .int (i * j)) x y H Q ∨ (rMulD x y H Q ∨ (rRepT X.K x y H Q ∨ rRepE X.K x y H Q))) := L2.op_mulW.or op_mulX
theorem sem_mulW2 {g : G} : Op2 g (fun x y H Q => (rI CMulW fun i j => .int (i * j)) x y H Q ∨ (rMulD x y H Q ∨ (rRepT g.K x y H Q ∨ rRepE g.K x y H Q))) dMulW := fun F H x y dx dy Q s hx hy sa => by
  cases dx with
  | int i =>
    cases dy with
    | int j =>
      rw [viewI hx, viewI hy]
      obtain ⟨c, sa⟩ := sat_if sa
      exact .inl ⟨i, j, rfl, rfl, @of_decide_eq_true _ (Classical.propDecidable _) c, sat_some sa _ (.int _)⟩
    | _ => exact (sat_none sa).elim
  | _ => exact .inr (sem_mulX F H x y _ dy Q s hx hy sa)
def dDivW : D → D → Option Rs
  | .int i, .int j => if okDiv i j = true then some (.val (.int (i / j))) else none
  | _, _ => none
theorem sem_divW2 {g : G} : Op2 g (rI CDivW fun i j => .int (i / j)) dDivW := fun F H x y dx dy Q s hx hy sa => by
  cases dx <;> cases dy <;> first
    | exact (sat_none sa).elim
    | skip
  rename_i i j
  rw [viewI hx, viewI hy]
  obtain ⟨c, sa⟩ := sat_if sa
  exact ⟨i, j, rfl, rfl, @of_decide_eq_true _ (Classical.propDecidable _) c, sat_some sa _ (.int _)⟩
def inOf : Vl → Option Int
  | .val (.int b) => some b
  | _ => none
end Sim
namespace Sim
open PySem PySem.Spec PyProof.Rows L2
/-! ### calls that only look at objects of ours -/
section
variable {g : G} {F : Hp} {A : List Addr}
end
section
variable {g : G}
end
section
variable {CT : CTab} {X : Cx} {k j : Nat} {x : Str} {e : Expr} {es : List Expr} {p pos : Pos} {da : DA} {d0 : DE}
end
end Sim
namespace Sim
open PySem PySem.Spec PyProof.Rows L2 RZ
/-! ### zip of two tuples, a list backwards -/
def sqOf2 : D → D → Option (List D × List D)
  | .lst xs, .lst ys => some (xs, ys)
  | .tup xs, .tup ys => some (xs, ys)
  | _, _ => none
def revRs : D → Option Rs
  | .tup xs => some (.tup xs.reverse)
  | .lst xs => some (.new (.lst xs.reverse))
  | _ => none
end Sim
namespace Sim
open PySem PySem.Spec PyProof.Rows L2
/-! what is wanted behind a node: going forward through a mirror, no slot written by hand -/
def WE (de : DE) (env : Env) (Q : Vl → Env → Prop) : Prop := ∃ l e, de env = some (l, e) ∧ Q l e
def WT (dt : DT) (env : Env) (Q : Bool → Env → Prop) : Prop := ∃ b e, dt env = some (b, e) ∧ Q b e
def WA (da : DA) (env : Env) (Q : List Vl → Env → Prop) : Prop := ∃ l e, da env = some (l, e) ∧ Q l e
def WI (di : DI) (env : Env) (Q : List D → Env → Prop) : Prop := ∃ l e, di env = some (l, e) ∧ Q l e
def WO (dz : DO) (env : Env) (Q : Option Int → Env → Prop) : Prop := ∃ l e, dz env = some (l, e) ∧ Q l e
def WS (ds : DS) (env : Env) (Q : Out → Prop) : Prop := ∃ o, ds env = some o ∧ Q o
def FP (df : DFp) (ds : List D) (R : Rv → Prop) : Prop := ∃ r, df ds = some r ∧ R r
def FM (df : DFm) (o : Ob) (ds : List D) (R : Rv → Ob → Prop) : Prop := ∃ r o', df o ds = some (r, o') ∧ R r o'
/-! small asks, each with its own head -/
def WLk (e : Env) (l : Vl) (K : D → Prop) : Prop := ∃ d, look e l = some d ∧ K d
def WLs (e : Env) (ls : List Vl) (K : List D → Prop) : Prop := ∃ d, looks e ls = some d ∧ K d
def WFc (l : Vl) (e : Env) (K : D → Env → Prop) : Prop := ∃ d e', force l e = some (d, e') ∧ K d e'
def WFs (ls : List Vl) (e : Env) (K : List D → Env → Prop) : Prop := ∃ d e', forces ls e = some (d, e') ∧ K d e'
def WPut (n i : Nat) (l : Vl) (e : Env) (K : Env → Prop) : Prop := ∃ e', put n i l e = some e' ∧ K e'
def WRs (r : Option Rs) (e : Env) (Q : Vl → Env → Prop) : Prop := ∃ rs, r = some rs ∧ Q (fin e rs).1 (fin e rs).2
def WRv (r : Rv) (e : Env) (Q : Vl → Env → Prop) : Prop := Q (finR e r).1 (finR e r).2
/-- a partial value that is there -/
def Wp {α : Type} (r : Option α) (K : α → Prop) : Prop := ∃ a, r = some a ∧ K a
/-- a thing, in a better form -/
def Nr {α : Type} (e : α) (K : α → Prop) : Prop := K e
def Br (c : Bool) (A B : Prop) : Prop := (c = true → A) ∧ (c = false → B)
def Sq (b : DS) (QS : Out → Prop) : Out → Prop
  | .nx e1 => WS b e1 QS
  | o => QS o
def FoK (P : Env → Prop) (QS : Out → Prop) : Out → Prop
  | .nx e => P e
  | .ct e => P e
  | .bk e => QS (.nx e)
  | .rt l e => QS (.rt l e)
  | .xc c xs e => QS (.xc c xs e)
def RtP (R : Rv → Prop) : Out → Prop
  | .nx _ => R (.val .non)
  | .rt l e => Wp (rvOf l e) R
  | _ => False
def RtM (R : Rv → Ob → Prop) : Out → Prop
  | .nx e => Wp (own0 e) fun o => R (.val .non) o
  | .rt l e => Wp (rvOf l e) fun r => Wp (own0 e) fun o => R r o
  | _ => False
/-- one turn of a comprehension -/
def WL (own : List Nat) (m : Nat) (p : Pat) (dt : DT) (de : DE) (x : D) (env : Env) (K : Option D → Env → Prop) : Prop := ∃ o e, lcStep own m p dt de x env = some (o, e) ∧ K o e
section
variable {env e e' : Env} {Q : Vl → Env → Prop} {QT : Bool → Env → Prop} {QA : List Vl → Env → Prop} {QI : List D → Env → Prop} {QO : Option Int → Env → Prop} {QS : Out → Prop} {l : Vl} {d x y : D} {K : Env → Prop}
theorem fP_of {df : DFp} {ds : List D} {R : Rv → Prop} {r : Rv} (h : df ds = some r) (k : R r) : FP df ds R := ⟨r, h, k⟩
theorem FP.mono {df : DFp} {ds : List D} {R R' : Rv → Prop} (h : FP df ds R) (k : ∀ r, R r → R' r) : FP df ds R' := let ⟨r, a, b⟩ := h; ⟨r, a, k r b⟩
theorem FM.mono {df : DFm} {o : Ob} {ds : List D} {R R' : Rv → Ob → Prop} (h : FM df o ds R) (k : ∀ r o', R r o' → R' r o') : FM df o ds R' := let ⟨r, o', a, b⟩ := h; ⟨r, o', a, k r o' b⟩
theorem WS.mono {ds : DS} {Q Q' : Out → Prop} (h : WS ds env Q) (k : ∀ o, Q o → Q' o) : WS ds env Q' := let ⟨o, a, b⟩ := h; ⟨o, a, k o b⟩
theorem WE.mono {de : DE} {Q Q' : Vl → Env → Prop} (h : WE de env Q) (k : ∀ l e, Q l e → Q' l e) : WE de env Q' := let ⟨l, e, a, b⟩ := h; ⟨l, e, a, k l e b⟩
theorem WT.mono {de : DT} {Q Q' : Bool → Env → Prop} (h : WT de env Q) (k : ∀ l e, Q l e → Q' l e) : WT de env Q' := let ⟨l, e, a, b⟩ := h; ⟨l, e, a, k l e b⟩
/-! ends of small asks -/
theorem wp {α : Type} {r : Option α} {a : α} {K : α → Prop} (h : r = some a) (k : K a) : Wp r K := ⟨a, h, k⟩
theorem lim_and {n : Nat} {P : Prop} (h : n ≤ 1000) (k : P) : n ≤ LIM ∧ P := ⟨le_LIM (by omega), k⟩
theorem nr {α : Type} {e e' : α} {K : α → Prop} (h : e = e') (k : K e') : Nr e K := by rw [h]; exact k
theorem wlk_v {K : D → Prop} (k : K d) : WLk e (.val d) K := ⟨d, rfl, k⟩
theorem wlk_l {K : D → Prop} {j : Nat} {p : Bool} {xs : List D} (h : e[j]? = some (some (.own p (.lst xs)))) (k : K (.lst xs)) : WLk e (.at j) K := ⟨_, by unfold look; simp only; rw [h] <;> rfl, k⟩
theorem wls_nil {K : List D → Prop} (k : K []) : WLs e [] K := ⟨[], rfl, k⟩
theorem wls_cons {ls : List Vl} {K : List D → Prop} (h : WLk e l fun d => WLs e ls fun ds => K (d :: ds)) : WLs e (l :: ls) K := by
  obtain ⟨d, a, ds, b, k⟩ := h
  refine ⟨d :: ds, ?_, k⟩
  unfold looks
  rw [a, Option.bind_some, b]
  rfl
theorem wfc_v {K : D → Env → Prop} (k : K d e) : WFc (.val d) e K := ⟨d, e, rfl, k⟩
theorem wfc_l {K : D → Env → Prop} {j : Nat} {xs : List D} (h : e[j]? = some (some (.own false (.lst xs)))) (k : Nr (e.set j (some (.val (.lst xs)))) (K (.lst xs))) : WFc (.at j) e K := ⟨_, _, by unfold force; simp only; rw [h] <;> rfl, k⟩
theorem wfs_nil {K : List D → Env → Prop} (k : K [] e) : WFs [] e K := ⟨[], e, rfl, k⟩
theorem wfs_cons {ls : List Vl} {K : List D → Env → Prop} (h : WFc l e fun d e1 => WFs ls e1 fun ds e2 => K (d :: ds) e2) : WFs (l :: ls) e K := by
  obtain ⟨d, e1, a, ds, e2, b, k⟩ := h
  refine ⟨d :: ds, e2, ?_, k⟩
  unfold forces
  rw [a, Option.bind_some, b]
  rfl
theorem wput_v {n i : Nat} (k : K (e.set i (some (.val d)))) : WPut n i (.val d) e K := ⟨_, rfl, k⟩
theorem wput_at {n i j : Nat} {o : Ob} (hj : e[j]? = some (some (.own false o))) (hn : ¬ j < n) (k : K ((e.set j none).set i (some (.own false o)))) : WPut n i (.at j) e K := by
  refine ⟨_, ?_, k⟩
  unfold put
  simp only
  rw [hj]
  simp only
  rw [if_neg hn]
theorem wrs_v {r : Option Rs} (h : r = some (.val d)) (k : Q (.val d) e) : WRs r e Q := ⟨_, h, k⟩
theorem wrs_t {r : Option Rs} {ds : List D} (h : r = some (.tup ds)) (k : Q (.val (.tup ds)) e) : WRs r e Q := ⟨_, h, k⟩
theorem wrs_n {r : Option Rs} {o : Ob} (h : r = some (.new o)) (k : Nr e.length fun n => Nr (e ++ [some (.own false o)]) (Q (.at n))) : WRs r e Q := ⟨_, h, k⟩
theorem wrv_v (k : Q (.val d) e) : WRv (.val d) e Q := k
theorem wrv_n {o : Ob} (k : Nr e.length fun n => Nr (e ++ [some (.own false o)]) (Q (.at n))) : WRv (.new o) e Q := k
theorem br_t {c : Bool} {A B : Prop} (h : c = true) (k : A) : Br c A B := ⟨fun _ => k, fun q => by rw [h] at q; exact nomatch q⟩
theorem br_f {c : Bool} {A B : Prop} (h : c = false) (k : B) : Br c A B := ⟨fun q => (by rw [h] at q; exact nomatch q), fun _ => k⟩
theorem br_dec {p : Prop} {i : Decidable p} {A B : Prop} (h : p → A) (k : ¬ p → B) : Br (@decide p i) A B := ⟨fun q => h (of_decide_eq_true q), fun q => k (of_decide_eq_false q)⟩
theorem br_not {c : Bool} {A B : Prop} (h : Br c B A) : Br (!c) A B := ⟨fun q => h.2 (by simpa using q), fun q => h.1 (by simpa using q)⟩
theorem sq_nx {b : DS} (k : WS b e QS) : Sq b QS (.nx e) := k
theorem sq_rt {b : DS} (k : QS (.rt l e)) : Sq b QS (.rt l e) := k
theorem fo_nx {P : Env → Prop} (k : P e) : FoK P QS (.nx e) := k
theorem rp_v {R : Rv → Prop} (k : R (.val d)) : RtP R (.rt (.val d) e) := ⟨_, rfl, k⟩
theorem rp_o {R : Rv → Prop} {j : Nat} {o : Ob} (h : e[j]? = some (some (.own false o))) (k : R (.new o)) : RtP R (.rt (.at j) e) := ⟨_, by unfold rvOf; simp only; rw [h] <;> rfl, k⟩
theorem rm_v {R : Rv → Ob → Prop} {o : Ob} (h : own0 e = some o) (k : R (.val d) o) : RtM R (.rt (.val d) e) := ⟨_, rfl, _, h, k⟩
theorem rm_o {R : Rv → Ob → Prop} {o u : Ob} {j : Nat} (h : e[j]? = some (some (.own false u))) (h2 : own0 e = some o) (k : R (.new u) o) : RtM R (.rt (.at j) e) := ⟨_, by unfold rvOf; simp only; rw [h] <;> rfl, _, h2, k⟩
/-! expressions -/
theorem we_val {i : Nat} (h : env[i]? = some (some (.val d))) (k : Q (.val d) env) : WE (dVar i) env Q := ⟨.val d, env, by unfold dVar; rw [h], k⟩
theorem we_own {i : Nat} {p : Bool} {o : Ob} (h : env[i]? = some (some (.own p o))) (k : Q (.at i) env) : WE (dVar i) env Q := ⟨.at i, env, by unfold dVar; rw [h], k⟩
theorem we_c (k : Q (.val d) env) : WE (dC d) env Q := ⟨_, _, rfl, k⟩
theorem we_d2 {f : D → D → Option Rs} {da db : DE} (h : WE da env fun l1 e1 => WE db e1 fun l2 e2 => WLk e2 l1 fun x => WLk e2 l2 fun y => WRs (f x y) e2 Q) : WE (d2 f da db) env Q := by
  obtain ⟨l1, e1, a, l2, e2, b, x, c, y, d, rs, g, k⟩ := h
  refine ⟨_, _, ?_, k⟩
  unfold d2
  rw [a, Option.bind_some, b, Option.bind_some, c, Option.bind_some, d, Option.bind_some, g]
  rfl
theorem we_d1 {f : D → Option Rs} {da : DE} (h : WE da env fun l1 e1 => WLk e1 l1 fun x => WRs (f x) e1 Q) : WE (d1 f da) env Q := by
  obtain ⟨l1, e1, a, x, c, rs, g, k⟩ := h
  refine ⟨_, _, ?_, k⟩
  unfold d1
  rw [a, Option.bind_some, c, Option.bind_some, g]
  rfl
theorem we_L {f : List D → Option Rs} {da : DA} (h : WA da env fun ls e1 => WLs e1 ls fun xs => WRs (f xs) e1 Q) : WE (dL f da) env Q := by
  obtain ⟨l1, e1, a, x, c, rs, g, k⟩ := h
  refine ⟨_, _, ?_, k⟩
  unfold dL
  rw [a, Option.bind_some, c, Option.bind_some, g]
  rfl
theorem we_MS {f : Str → List D → Option Rs} {d0 : DE} {da : DA} (h : WE d0 env fun l1 e1 => Wp (strOf l1) fun z => WA da e1 fun ls e2 => WLs e2 ls fun xs => WRs (f z xs) e2 Q) : WE (dMS f d0 da) env Q := by
  obtain ⟨l1, e1, a, z, b, ls, e2, c, xs, d, rs, g, k⟩ := h
  refine ⟨_, _, ?_, k⟩
  unfold dMS
  rw [a, Option.bind_some, b, Option.bind_some, c, Option.bind_some, d, Option.bind_some, g]
  rfl
theorem we_sl {f : D → Option Int → Option Int → Option Rs} {de : DE} {dlo dhi : DO} (h : WE de env fun l e1 => WO dlo e1 fun lo e2 => WO dhi e2 fun hi e3 => WLk e3 l fun x => WRs (f x lo hi) e3 Q) : WE (dSl f de dlo dhi) env Q := by
  obtain ⟨l, e1, a, lo, e2, b, hi, e3, c, x, d, rs, g, k⟩ := h
  refine ⟨_, _, ?_, k⟩
  unfold dSl
  rw [a, Option.bind_some, b, Option.bind_some, c, Option.bind_some, d, Option.bind_some, g]
  rfl
theorem wo_none (k : QO none env) : WO doNone env QO := ⟨_, _, rfl, k⟩
theorem wo_some {de : DE} (h : WE de env fun l e1 => Wp (match l with | .val (.int i) => some i | _ => none) fun i => QO (some i) e1) : WO (doSome de) env QO := by
  obtain ⟨l, e1, a, i, b, k⟩ := h
  refine ⟨_, _, ?_, k⟩
  unfold doSome
  rw [a, Option.bind_some]
  split at b <;> cases b
  rfl
theorem wa_nil (k : QA [] env) : WA dNil env QA := ⟨_, _, rfl, k⟩
theorem wa_cons {de : DE} {da : DA} (h : WE de env fun l e1 => WA da e1 fun ls e2 => QA (l :: ls) e2) : WA (dCons de da) env QA := by
  obtain ⟨l, e1, a, ls, e2, b, k⟩ := h
  refine ⟨_, _, ?_, k⟩
  unfold dCons
  rw [a, Option.bind_some, b]
  rfl
theorem we_if {t : DT} {a b : DE} (h : WT t env fun c e1 => Br c (WE a e1 Q) (WE b e1 Q)) : WE (dIf t a b) env Q := by
  obtain ⟨c, e1, q, h1, h2⟩ := h
  cases c with
  | true =>
    obtain ⟨l, e, r, k⟩ := h1 rfl
    exact ⟨l, e, by unfold dIf; rw [q]; exact r, k⟩
  | false =>
    obtain ⟨l, e, r, k⟩ := h2 rfl
    exact ⟨l, e, by unfold dIf; rw [q]; exact r, k⟩
def blOf : Vl → Option Bool
  | .val (.bl b) => some b
  | _ => none
theorem wt_B {de : DE} (h : WE de env fun l e1 => Wp (blOf l) fun b => QT b e1) : WT (dtB de) env QT := by
  obtain ⟨l, e1, a, b, c, k⟩ := h
  unfold blOf at c
  split at c <;> cases c
  exact ⟨b, e1, by unfold dtB; rw [a]; rfl, k⟩
theorem wt_not {t : DT} (h : WT t env fun b e1 => QT (!b) e1) : WT (dtNot t) env QT := by
  obtain ⟨b, e1, a, k⟩ := h
  exact ⟨!b, e1, by unfold dtNot; rw [a]; rfl, k⟩
theorem wt_and {s t : DT} (h : WT s env fun b e1 => Br b (WT t e1 QT) (QT false e1)) : WT (dtAnd s t) env QT := by
  obtain ⟨b, e1, a, h1, h2⟩ := h
  cases b with
  | true =>
    obtain ⟨c, e2, r, k⟩ := h1 rfl
    exact ⟨c, e2, by unfold dtAnd; rw [a]; exact r, k⟩
  | false => exact ⟨false, e1, by unfold dtAnd; rw [a]; rfl, h2 rfl⟩
theorem wt_or {s t : DT} (h : WT s env fun b e1 => Br b (QT true e1) (WT t e1 QT)) : WT (dtOr s t) env QT := by
  obtain ⟨b, e1, a, h1, h2⟩ := h
  cases b with
  | false =>
    obtain ⟨c, e2, r, k⟩ := h2 rfl
    exact ⟨c, e2, by unfold dtOr; rw [a]; exact r, k⟩
  | true => exact ⟨true, e1, by unfold dtOr; rw [a]; rfl, h1 rfl⟩
theorem wt_yes (k : QT true env) : WT dtYes env QT := ⟨_, _, rfl, k⟩
theorem we_and {a b : DE} (h : WT (dtB a) env fun c e1 => Br c (WE b e1 Q) (Q (.val (.bl false)) e1)) : WE (dAndV a b) env Q := by
  obtain ⟨c, e1, q, h1, h2⟩ := h
  cases c with
  | true =>
    obtain ⟨l, e, r, k⟩ := h1 rfl
    exact ⟨l, e, by unfold dAndV; rw [q]; exact r, k⟩
  | false => exact ⟨_, e1, by unfold dAndV; rw [q]; rfl, h2 rfl⟩
theorem we_not {a : DE} (h : WT (dtB a) env fun c e1 => Q (.val (.bl (!c))) e1) : WE (dNotV a) env Q := by
  obtain ⟨c, e1, q, k⟩ := h
  exact ⟨_, e1, by unfold dNotV; rw [q]; rfl, k⟩
theorem we_tup {da : DA} (h : WA da env fun ls e1 => WFs ls e1 fun ds e2 => Nr ds.length fun n => n ≤ LIM ∧ Q (.val (.tup ds)) e2) : WE (dTup da) env Q := by
  obtain ⟨ls, e1, a, ds, e2, b, c, k⟩ := h
  exact ⟨_, _, tup_v a b c, k⟩
theorem we_lst {da : DA} (h : WA da env fun ls e1 => WFs ls e1 fun ds e2 => Nr ds.length fun n => n ≤ LIM ∧ WRs (some (.new (.lst ds))) e2 Q) : WE (dLst da) env Q := by
  obtain ⟨ls, e1, a, ds, e2, b, c, rs, g, k⟩ := h
  cases g
  exact ⟨_, _, lst_v a b c, k⟩
theorem we_callP {df : DFp} {da : DA} (h : WA da env fun ls e1 => WFs ls e1 fun ds e2 => FP df ds fun r => WRv r e2 Q) : WE (dCallP df da) env Q := by
  obtain ⟨ls, e1, a, ds, e2, b, r, c, k⟩ := h
  refine ⟨_, _, ?_, k⟩
  unfold dCallP
  rw [a, Option.bind_some, b, Option.bind_some, c]
  rfl
theorem we_callM {df : DFm} {d0 : DE} {da : DA} (h : WE d0 env fun l0 e0 => Wp (atOf l0) fun j => WA da e0 fun ls e1 => WFs ls e1 fun ds e2 => Wp (ownAt e2 j) fun po => FM df po.2 ds fun r o' => Nr (e2.set j (some (.own po.1 o'))) fun e3 => WRv r e3 Q) : WE (dCallM df d0 da) env Q := by
  obtain ⟨l0, e0, a0, j, aj, ls, e1, a, ds, e2, b, po, c, r, o', d, k⟩ := h
  refine ⟨_, _, ?_, k⟩
  unfold dCallM
  rw [a0, Option.bind_some, aj, Option.bind_some, a, Option.bind_some, b, Option.bind_some, c, Option.bind_some, d]
  rfl
theorem and_of {A B : Prop} (h : A) (k : B) : A ∧ B := ⟨h, k⟩
theorem we_isi {cs : List Nat} {Ts : List Ty} {de : DE} (h : WE de env fun l e1 => WLk e1 l fun d => Wp (match isIns d with | some c => if cs.contains c = true then some false else none | none => if isExc d = false then some (Ts.any fun T => isTy T d) else none) fun b => Q (.val (.bl b)) e1) : WE (dIsi cs Ts de) env Q := by
  obtain ⟨l, e1, a, d, b, x, g, q⟩ := h
  refine ⟨_, _, ?_, q⟩
  unfold dIsi
  rw [a, Option.bind_some, b, Option.bind_some]
  cases z : isIns d with
  | none =>
    rw [z] at g
    simp only at g ⊢
    by_cases y : isExc d = false
    · rw [if_pos y] at g ⊢
      cases g
      rfl
    · rw [if_neg y] at g
      cases g
  | some c =>
    rw [z] at g
    simp only at g ⊢
    by_cases y : cs.contains c = true
    · rw [if_pos y] at g ⊢
      cases g
      rfl
    · rw [if_neg y] at g
      cases g
/-! statements -/
theorem ws_seq {a b : DS} (h : WS a env (Sq b QS)) : WS (dSeq a b) env QS := by
  obtain ⟨o, q, k⟩ := h
  cases o with
  | nx e1 =>
    obtain ⟨o2, r, k2⟩ := k
    exact ⟨o2, by unfold dSeq; rw [q]; exact r, k2⟩
  | rt l e1 => exact ⟨_, by unfold dSeq; rw [q]; rfl, k⟩
  | bk e1 => exact ⟨_, by unfold dSeq; rw [q]; rfl, k⟩
  | ct e1 => exact ⟨_, by unfold dSeq; rw [q]; rfl, k⟩
  | xc c xs e1 => exact ⟨_, by unfold dSeq; rw [q]; rfl, k⟩
theorem ws_if {t : DT} {a b : DS} (h : WT t env fun c e1 => Br c (Nr (e1.take env.length) fun e2 => WS a e2 QS) (Nr (e1.take env.length) fun e2 => WS b e2 QS)) : WS (dIfS t a b) env QS := by
  obtain ⟨c, e1, q, h1, h2⟩ := h
  cases c with
  | true =>
    obtain ⟨o, r, k⟩ := h1 rfl
    exact ⟨o, ifS_t q r, k⟩
  | false =>
    obtain ⟨o, r, k⟩ := h2 rfl
    exact ⟨o, ifS_f q r, k⟩
theorem ws_next (k : QS (.nx env)) : WS dNext env QS := ⟨_, rfl, k⟩
theorem ws_ret {de : DE} (h : WE de env fun l e1 => QS (.rt l e1)) : WS (dRet de) env QS := by
  obtain ⟨l, e1, q, k⟩ := h
  exact ⟨_, ret_v q, k⟩
theorem ws_drop {de : DE} (h : WE de env fun l e1 => Nr (e1.take env.length) fun e2 => QS (.nx e2)) : WS (dDrop de) env QS := by
  obtain ⟨l, e1, q, k⟩ := h
  exact ⟨_, drop_v q, k⟩
theorem ws_asg {i : Nat} {de : DE} (h : WE de env fun l e1 => Nr env.length fun n => WPut n i l e1 fun e2 => Nr (e2.take n) fun e3 => QS (.nx e3)) : WS (dAsg i de) env QS := by
  obtain ⟨l, e1, q, e2, r, k⟩ := h
  exact ⟨_, by unfold dAsg; rw [q, Option.bind_some, r]; rfl, k⟩
theorem ws_asgP {p : Pat} {de : DE} (h : WE de env fun l e1 => WFc l e1 fun d e2 => Wp (bindP p d e2) fun e3 => Nr (e3.take env.length) fun e4 => QS (.nx e4)) : WS (dAsgP p de) env QS := by
  obtain ⟨l, e1, q, d, e2, r, e3, s, k⟩ := h
  exact ⟨_, by unfold dAsgP dd; rw [q, Option.bind_some, r, Option.bind_some, s]; rfl, k⟩
theorem ws_multi {is : List Nat} {da : DA} (h : WA da env fun ls e1 => Wp (pin env.length ls e1) fun r => Wp (puts env.length is r.1 r.2) fun e3 => Nr (e3.take env.length) fun e4 => QS (.nx e4)) : WS (dMulti is da) env QS := by
  obtain ⟨ls, e1, q, r, s, e3, t, k⟩ := h
  exact ⟨_, multi_v q s t, k⟩
theorem ws_store {d0 di de : DE} (h : WE de env fun l e1 => WFc l e1 fun d e2 => WE d0 e2 fun l0 e3 => Wp (atOf l0) fun j => WE di e3 fun l1 e4 => WLk e4 l1 fun i => Wp (ownAt e4 j) fun po => Wp (storeO po.2 i d) fun o => Nr ((e4.set j (some (.own po.1 o))).take env.length) fun e5 => QS (.nx e5)) : WS (dStore d0 di de) env QS := by
  obtain ⟨l, e1, q, d, e2, r, l0, e3, s, j, t, l1, e4, u, i, v, po, w, o, x, k⟩ := h
  exact ⟨_, by unfold dStore dd; rw [q, Option.bind_some, r, Option.bind_some, s, Option.bind_some, t, Option.bind_some, u, Option.bind_some, v, Option.bind_some, w, Option.bind_some, x]; rfl, k⟩
theorem wi_seqS {de : DE} (h : WE de env fun l e1 => WFc l e1 fun d e2 => Wp (seqS d) fun xs => QI xs e2) : WI (diSeqS de) env QI := by
  obtain ⟨l, e1, q, d, e2, r, xs, s, k⟩ := h
  exact ⟨_, _, seqS_v q r s, k⟩
theorem wi_r1 {de : DE} (h : WE de env fun l e1 => Wp (inOf l) fun j => okR j = true ∧ QI (rngD 0 j) e1) : WI (diR1 de) env QI := by
  obtain ⟨l, e1, q, j, s, r, k⟩ := h
  unfold inOf at s
  split at s <;> cases s
  exact ⟨_, _, r1_v q r, k⟩
/-- a loop: by what holds between the turns -/
theorem ws_for {p : Pat} {di : DI} {body : DS} (h : WI di env fun xs e1 => Nr (e1.take env.length) fun e0 => ∃ P : Nat → Env → Prop, P 0 e0 ∧
    (∀ (j : Nat) (x : D) (e : Env), xs[j]? = some x → P j e → Wp (bindP p x e) fun e2 => WS body e2 (FoK (P (j + 1)) QS)) ∧
    ∀ e, P xs.length e → QS (.nx e)) : WS (dFor p di body) env QS := by
  obtain ⟨xs, e1, q, P, p0, ps, pe⟩ := h
  have gen : ∀ (ys : List D) (i : Nat) (e : Env), (∀ j x, ys[j]? = some x → xs[i + j]? = some x) → i + ys.length = xs.length → P i e → ∃ o, dLoop (bindP p) body ys e = some o ∧ QS o := by
    intro ys
    induction ys with
    | nil => exact fun i e _ hl hp => ⟨.nx e, rfl, pe e (by rw [← hl]; exact hp)⟩
    | cons y ys ih =>
      intro i e hx hl hp
      obtain ⟨e2, b, o, w, k⟩ := ps i y e (hx 0 y rfl) hp
      have nxt : ∀ e3, P (i + 1) e3 → ∃ o, dLoop (bindP p) body ys e3 = some o ∧ QS o := fun e3 hp3 => ih (i + 1) e3 (fun j x hj => by rw [show i + 1 + j = i + (j + 1) by omega]; exact hx (j + 1) x hj) (by rw [← hl, List.length_cons]; omega) hp3
      cases o with
      | nx e3 =>
        obtain ⟨o2, h2, k2⟩ := nxt e3 k
        exact ⟨o2, by unfold dLoop; rw [b, Option.bind_some, w]; exact h2, k2⟩
      | ct e3 =>
        obtain ⟨o2, h2, k2⟩ := nxt e3 k
        exact ⟨o2, by unfold dLoop; rw [b, Option.bind_some, w]; exact h2, k2⟩
      | bk e3 => exact ⟨_, by unfold dLoop; rw [b, Option.bind_some, w]; rfl, k⟩
      | rt l e3 => exact ⟨_, by unfold dLoop; rw [b, Option.bind_some, w]; rfl, k⟩
      | xc c xs e3 => exact ⟨_, by unfold dLoop; rw [b, Option.bind_some, w]; rfl, k⟩
  obtain ⟨o, h1, h2⟩ := gen xs 0 (e1.take env.length) (fun j x hj => by rw [Nat.zero_add]; exact hj) (by omega) p0
  exact ⟨o, for_v q h1, h2⟩
theorem wl {own : List Nat} {m : Nat} {p : Pat} {dt : DT} {de : DE} {x : D} {K : Option D → Env → Prop} (h : Wp (bindP p x env) fun e1 => WT dt e1 fun b e2 => Br b (WE de e2 fun l e3 => WFc l e3 fun d e4 => Nr (wipesE (e4.take m) own) (K (some d))) (Nr (wipesE (e2.take m) own) (K none))) : WL own m p dt de x env K := by
  obtain ⟨e1, a, b, e2, c, h1, h2⟩ := h
  cases b with
  | true =>
    obtain ⟨l, e3, q, d, e4, r, k⟩ := h1 rfl
    refine ⟨_, _, ?_, k⟩
    unfold lcStep dd
    rw [a, Option.bind_some, c, Option.bind_some]
    simp only [if_true]
    rw [q, Option.bind_some, r]
    rfl
  | false =>
    refine ⟨_, _, ?_, h2 rfl⟩
    unfold lcStep
    rw [a, Option.bind_some, c, Option.bind_some]
    simp
theorem we_lc {own : List Nat} {di : DI} {p : Pat} {dt : DT} {de : DE} (h : WI di env fun xs e1 => Nr (wipesE e1 own) fun e0 => Nr e1.length fun m => ∃ P : Nat → List D → Env → Prop, xs.length ≤ LIM ∧ P 0 [] e0 ∧
    (∀ (j : Nat) (x : D) (a : List D) (e : Env), xs[j]? = some x → P j a e → WL own m p dt de x e fun o e' => P (j + 1) (a ++ o.toList) e') ∧
    ∀ a e, P xs.length a e → Nr (restore e1 own e) fun e2 => WRs (some (.new (.lst a))) e2 Q) : WE (dLc own di p dt de) env Q := by
  obtain ⟨xs, e1, q, P, hl, p0, ps, pe⟩ := h
  obtain ⟨a, e, h1, h2⟩ := lc_inv (own := own) (m := e1.length) (p := p) (dt := dt) (de := de) P (xs := xs) (acc := []) (i := 0) (env := wipesE e1 own) p0 (by simpa using hl) (fun j x a e hx hp => by
    rw [Nat.zero_add] at hp ⊢
    obtain ⟨o, e', h3, h4⟩ := ps j x a e hx hp
    exact ⟨(o, e'), h3, h4⟩)
  rw [Nat.zero_add] at h2
  obtain ⟨rs, g, k⟩ := pe a e h2
  cases g
  exact ⟨_, _, lc_v q h1, k⟩
/-- .. whose turns leave all as it was -/
theorem we_map {own : List Nat} {di : DI} {p : Pat} {dt : DT} {de : DE} (h : WI di env fun xs e1 => Nr (wipesE e1 own) fun e0 => Nr e1.length fun m => ∃ f : D → D, xs.length ≤ LIM ∧
    (∀ x ∈ xs, WL own m p dt de x e0 fun o e' => o = some (f x) ∧ e' = e0) ∧
    Nr (restore e1 own e0) fun e2 => WRs (some (.new (.lst (xs.map f)))) e2 Q) : WE (dLc own di p dt de) env Q := by
  obtain ⟨xs, e1, q, f, hl, ps, rs, g, k⟩ := h
  cases g
  have h1 := lc_map (own := own) (m := e1.length) (p := p) (dt := dt) (de := de) (f := f) (env := wipesE e1 own) (xs := xs) hl (fun x hx => by
    obtain ⟨o, e', h3, rfl, rfl⟩ := ps x hx
    exact h3)
  exact ⟨_, _, lc_v q h1, k⟩
def keepIf (b : Bool) (d : D) : Option D := match b with
  | true => some d
  | false => none
theorem we_filter {own : List Nat} {di : DI} {p : Pat} {dt : DT} {de : DE} (h : WI di env fun xs e1 => Nr (wipesE e1 own) fun e0 => Nr e1.length fun m => ∃ (f : D → D) (t : D → Bool), xs.length ≤ LIM ∧
    (∀ x ∈ xs, WL own m p dt de x e0 fun o e' => o = keepIf (t x) (f x) ∧ e' = e0) ∧
    Nr (restore e1 own e0) fun e2 => WRs (some (.new (.lst ((xs.filter t).map f)))) e2 Q) : WE (dLc own di p dt de) env Q := by
  obtain ⟨xs, e1, q, f, t, hl, ps, rs, g, k⟩ := h
  cases g
  have h1 := lc_filter (own := own) (m := e1.length) (p := p) (dt := dt) (de := de) (f := f) (t := t) (env := wipesE e1 own) (xs := xs) hl (fun x hx => by
    obtain ⟨o, e', h3, rfl, rfl⟩ := ps x hx
    rw [h3]
    cases t x <;> rfl)
  exact ⟨_, _, lc_v q h1, k⟩
theorem we_lcV {own : List Nat} {i : Nat} {p : Pat} {dt : DT} {de : DE} {kvs : List (Key × D)} (h : env[i]? = some (some (.val (.dic kvs)))) (k : WE (dLc own (diKeys kvs) p dt de) env Q) : WE (dLcV own i p dt de) env Q := by
  obtain ⟨l, e, a, b⟩ := k
  exact ⟨l, e, by unfold dLcV; rw [h]; exact a, b⟩
theorem wi_keys {kvs : List (Key × D)} (k : QI (kvs.map fun kv => keyD kv.1) env) : WI (diKeys kvs) env QI := ⟨_, _, rfl, k⟩
/-- some slots are other ones -/
def sets (e : Env) : List Nat → List (Option Sl) → Env
  | i :: is, s :: ss => (sets e is ss).set i s
  | _, _ => e
/-- a loop that changes some slots alone: what holds of these between the turns -/
theorem ws_forS {p : Pat} {di : DI} {body : DS} (h : WI di env fun xs e1 => Nr (e1.take env.length) fun e0 => ∃ (K : List Nat) (P : Nat → List (Option Sl) → Prop), (∃ ss, e0 = sets e0 K ss ∧ P 0 ss) ∧
    (∀ (j : Nat) (x : D) (ss : List (Option Sl)), xs[j]? = some x → P j ss → Nr (sets e0 K ss) fun e => Wp (bindP p x e) fun e2 => WS body e2 (FoK (fun e3 => ∃ ss', e3 = sets e0 K ss' ∧ P (j + 1) ss') QS)) ∧
    ∀ ss, P xs.length ss → Nr (sets e0 K ss) fun e => QS (.nx e)) : WS (dFor p di body) env QS := by
  obtain ⟨xs, e1, q, K, P, ⟨ss, e0, p0⟩, ps, pe⟩ := h
  refine ws_for ⟨xs, e1, q, fun j e => ∃ ss, e = sets (e1.take env.length) K ss ∧ P j ss, ⟨ss, e0, p0⟩, fun j x e hx ⟨ss, he, hp⟩ => ?_, fun e ⟨ss, he, hp⟩ => ?_⟩
  · subst he
    exact ps j x ss hx hp
  · subst he
    exact pe ss hp
theorem we_lcS {own : List Nat} {di : DI} {p : Pat} {dt : DT} {de : DE} (h : WI di env fun xs e1 => Nr (wipesE e1 own) fun e0 => Nr e1.length fun m => ∃ (K : List Nat) (P : Nat → List D → List (Option Sl) → Prop), xs.length ≤ LIM ∧ (∃ ss, e0 = sets e0 K ss ∧ P 0 [] ss) ∧
    (∀ (j : Nat) (x : D) (a : List D) (ss : List (Option Sl)), xs[j]? = some x → P j a ss → Nr (sets e0 K ss) fun e => WL own m p dt de x e fun o e' => ∃ ss', e' = sets e0 K ss' ∧ P (j + 1) (a ++ o.toList) ss') ∧
    ∀ a ss, P xs.length a ss → Nr (restore e1 own (sets e0 K ss)) fun e2 => WRs (some (.new (.lst a))) e2 Q) : WE (dLc own di p dt de) env Q := by
  obtain ⟨xs, e1, q, K, P, hl, ⟨ss, e0, p0⟩, ps, pe⟩ := h
  refine we_lc ⟨xs, e1, q, fun j a e => ∃ ss, e = sets (wipesE e1 own) K ss ∧ P j a ss, hl, ⟨ss, e0, p0⟩, fun j x a e hx ⟨ss, he, hp⟩ => ?_, fun a e ⟨ss, he, hp⟩ => ?_⟩
  · subst he
    exact ps j x a ss hx hp
  · subst he
    exact pe a ss hp
theorem fp_def {np nn : Nat} {body : DS} {ds : List D} {R : Rv → Prop} (hl : ds.length = np) (h : Nr (ds.map (fun d => some (Sl.val d)) ++ List.replicate (nn - np) none) fun e => WS body e (RtP R)) : FP (defP np nn body) ds R := by
  obtain ⟨o, q, k⟩ := h
  cases o with
  | nx e => exact ⟨_, by unfold defP; rw [if_pos hl, q]; rfl, k⟩
  | rt l e =>
    obtain ⟨rv, r, k⟩ := k
    exact ⟨rv, by unfold defP; rw [if_pos hl, q]; exact r, k⟩
  | bk e => exact k.elim
  | ct e => exact k.elim
  | xc c xs e => exact k.elim
theorem fm_def {np nn : Nat} {body : DS} {o : Ob} {ds : List D} {R : Rv → Ob → Prop} (hl : ds.length + 1 = np) (h : Nr (some (.own true o) :: ds.map (fun d => some (Sl.val d)) ++ List.replicate (nn - np) none) fun e => WS body e (RtM R)) : FM (defM np nn body) o ds R := by
  obtain ⟨r, q, k⟩ := h
  cases r with
  | nx e =>
    obtain ⟨o', a, k⟩ := k
    exact ⟨_, o', by unfold defM; rw [if_pos hl, q, Option.bind_some]; show ((own0 e).bind _) = _; rw [a]; rfl, k⟩
  | rt l e =>
    obtain ⟨rv, a, o', b, k⟩ := k
    exact ⟨rv, o', by unfold defM; rw [if_pos hl, q, Option.bind_some]; show ((rvOf l e).bind _) = _; rw [a, Option.bind_some, b]; rfl, k⟩
  | bk e => exact k.elim
  | ct e => exact k.elim
  | xc c xs e => exact k.elim
end
end Sim
namespace Sim
open PySem PySem.Spec PyProof.Rows L2
/-! == of nested plain things -/
mutual
/-- ints, texts, lists and tuples of these, no deeper than n -/
def pl : Nat → D → Bool
  | _, .int _ => true
  | _, .non => true
  | _, .str x => PyData.strOk x
  | n + 1, .lst xs => pls n xs
  | n + 1, .tup xs => pls n xs
  | _, _ => false
def pls : Nat → List D → Bool
  | _, [] => true
  | n, x :: xs => pl n x && pls n xs
end
mutual
theorem pl_toP : ∀ (n : Nat) (d : D), pl n d = true → ∃ p, toP d = some p ∧ p.canLay0 = true ∧ p.depth ≤ n
  | n, .int i, _ => ⟨_, rfl, rfl, Nat.zero_le _⟩
  | n, .non, _ => ⟨_, rfl, rfl, Nat.zero_le _⟩
  | n, .str x, h => ⟨_, rfl, (by cases n <;> exact h), Nat.zero_le _⟩
  | n + 1, .lst xs, h => by
    obtain ⟨ps, a, b, c⟩ := pls_toP n xs h
    exact ⟨.list ps, by show (toPs xs).map _ = _; rw [a]; rfl, b, Nat.succ_le_succ c⟩
  | n + 1, .tup xs, h => by
    obtain ⟨ps, a, b, c⟩ := pls_toP n xs h
    exact ⟨.tuple ps, by show (toPs xs).map _ = _; rw [a]; rfl, b, Nat.succ_le_succ c⟩
  | 0, .lst xs, h => nomatch h
  | 0, .tup xs, h => nomatch h
  | 0, .bl b, h => nomatch h
  | n + 1, .bl b, h => nomatch h
  | 0, .dic b, h => nomatch h
  | n + 1, .dic b, h => nomatch h
  | 0, .ins _ b, h => nomatch h
  | n + 1, .ins _ b, h => nomatch h
theorem pls_toP : ∀ (n : Nat) (xs : List D), pls n xs = true → ∃ ps, toPs xs = some ps ∧ PyData.canLayAll0 ps = true ∧ PyData.depthAll ps ≤ n
  | n, [], _ => ⟨[], rfl, rfl, Nat.zero_le _⟩
  | n, x :: xs, h => by
    have h' : (pl n x && pls n xs) = true := h
    obtain ⟨h1, h2⟩ := Bool.and_eq_true_iff.mp h'
    obtain ⟨p, a, b, c⟩ := pl_toP n x h1
    obtain ⟨ps, a2, b2, c2⟩ := pls_toP n xs h2
    refine ⟨p :: ps, ?_, ?_, ?_⟩
    · show (toP x).bind (fun p => (toPs xs).map fun ps => p :: ps) = _
      rw [a, Option.bind_some, a2]
      rfl
    · show (p.canLay0 && PyData.canLayAll0 ps) = true
      rw [b, b2]
      rfl
    · show max p.depth (PyData.depthAll ps) ≤ n
      omega
end
mutual
theorem toP_inj : ∀ (n : Nat) (x y : D) (p q : PyData), pl n x = true → toP x = some p → toP y = some q → (∃ m, pl m y = true) → (PyData.eqv p q = true ↔ x = y)
  | n, x, y, p, q, h, e1, e2, ⟨m, h2⟩ => by
    cases x with
    | int i =>
      cases e1
      cases y <;> first | (cases m <;> cases h2; done) | skip
      · cases e2; simp [PyData.eqv]
      · cases e2; simp [PyData.eqv]
      · cases e2; simp [PyData.eqv]
      · rename_i xs; obtain ⟨ps, a, b⟩ := Option.map_eq_some_iff.mp (show (toPs xs).map PyData.tuple = some q from e2); subst b; simp [PyData.eqv]
      · rename_i xs; obtain ⟨ps, a, b⟩ := Option.map_eq_some_iff.mp (show (toPs xs).map PyData.list = some q from e2); subst b; simp [PyData.eqv]
    | non =>
      cases e1
      cases y <;> first | (cases m <;> cases h2; done) | skip
      · cases e2; simp [PyData.eqv]
      · cases e2; simp [PyData.eqv]
      · cases e2; simp [PyData.eqv]
      · rename_i xs; obtain ⟨ps, a, b⟩ := Option.map_eq_some_iff.mp (show (toPs xs).map PyData.tuple = some q from e2); subst b; simp [PyData.eqv]
      · rename_i xs; obtain ⟨ps, a, b⟩ := Option.map_eq_some_iff.mp (show (toPs xs).map PyData.list = some q from e2); subst b; simp [PyData.eqv]
    | str i =>
      cases e1
      cases y <;> first | (cases m <;> cases h2; done) | skip
      · cases e2; simp [PyData.eqv]
      · cases e2; simp [PyData.eqv]
      · cases e2; simp [PyData.eqv]
      · rename_i xs; obtain ⟨ps, a, b⟩ := Option.map_eq_some_iff.mp (show (toPs xs).map PyData.tuple = some q from e2); subst b; simp [PyData.eqv]
      · rename_i xs; obtain ⟨ps, a, b⟩ := Option.map_eq_some_iff.mp (show (toPs xs).map PyData.list = some q from e2); subst b; simp [PyData.eqv]
    | lst xs =>
      obtain ⟨ps, a, b⟩ := Option.map_eq_some_iff.mp (show (toPs xs).map PyData.list = some p from e1)
      subst b
      cases n with
      | zero => cases h
      | succ n =>
        cases y <;> first | (cases m <;> cases h2; done) | skip
        · cases e2; simp [PyData.eqv]
        · cases e2; simp [PyData.eqv]
        · cases e2; simp [PyData.eqv]
        · rename_i ys; obtain ⟨qs, a2, b⟩ := Option.map_eq_some_iff.mp (show (toPs ys).map PyData.tuple = some q from e2); subst b; simp [PyData.eqv]
        · rename_i ys
          obtain ⟨qs, a2, b⟩ := Option.map_eq_some_iff.mp (show (toPs ys).map PyData.list = some q from e2)
          subst b
          cases m with
          | zero => cases h2
          | succ m =>
            have := toPs_inj n xs ys ps qs h a a2 ⟨m, h2⟩
            show PyData.eqvAll ps qs = true ↔ _
            rw [this]
            simp
    | tup xs =>
      obtain ⟨ps, a, b⟩ := Option.map_eq_some_iff.mp (show (toPs xs).map PyData.tuple = some p from e1)
      subst b
      cases n with
      | zero => cases h
      | succ n =>
        cases y <;> first | (cases m <;> cases h2; done) | skip
        · cases e2; simp [PyData.eqv]
        · cases e2; simp [PyData.eqv]
        · cases e2; simp [PyData.eqv]
        · rename_i ys
          obtain ⟨qs, a2, b⟩ := Option.map_eq_some_iff.mp (show (toPs ys).map PyData.tuple = some q from e2)
          subst b
          cases m with
          | zero => cases h2
          | succ m =>
            have := toPs_inj n xs ys ps qs h a a2 ⟨m, h2⟩
            show PyData.eqvAll ps qs = true ↔ _
            rw [this]
            simp
        · rename_i ys; obtain ⟨qs, a2, b⟩ := Option.map_eq_some_iff.mp (show (toPs ys).map PyData.list = some q from e2); subst b; simp [PyData.eqv]
    | bl b => cases n <;> cases h
    | dic b => cases n <;> cases h
    | ins _ b => cases n <;> cases h
    | exc _ b => cases n <;> cases h
theorem toPs_inj : ∀ (n : Nat) (xs ys : List D) (ps qs : List PyData), pls n xs = true → toPs xs = some ps → toPs ys = some qs → (∃ m, pls m ys = true) → (PyData.eqvAll ps qs = true ↔ xs = ys)
  | n, [], ys, ps, qs, h, e1, e2, _ => by
    cases e1
    cases ys with
    | nil => cases e2; simp [PyData.eqvAll]
    | cons y ys =>
      obtain ⟨q, _, z⟩ := Option.bind_eq_some_iff.mp (show (toP y).bind (fun p => (toPs ys).map fun ps => p :: ps) = some qs from e2)
      obtain ⟨rs, _, z⟩ := Option.map_eq_some_iff.mp z
      subst z
      simp [PyData.eqvAll]
  | n, x :: xs, ys, ps, qs, h, e1, e2, ⟨m, h2⟩ => by
    obtain ⟨p, a1, z⟩ := Option.bind_eq_some_iff.mp (show (toP x).bind (fun p => (toPs xs).map fun ps => p :: ps) = some ps from e1)
    obtain ⟨ps', a2, z⟩ := Option.map_eq_some_iff.mp z
    subst z
    have h' : (pl n x && pls n xs) = true := h
    obtain ⟨k1, k2⟩ := Bool.and_eq_true_iff.mp h'
    cases ys with
    | nil => cases e2; simp [PyData.eqvAll]
    | cons y ys =>
      obtain ⟨q, b1, z⟩ := Option.bind_eq_some_iff.mp (show (toP y).bind (fun p => (toPs ys).map fun ps => p :: ps) = some qs from e2)
      obtain ⟨qs', b2, z⟩ := Option.map_eq_some_iff.mp z
      subst z
      have h2' : (pl m y && pls m ys) = true := h2
      obtain ⟨k3, k4⟩ := Bool.and_eq_true_iff.mp h2'
      show (PyData.eqv p q && PyData.eqvAll ps' qs') = true ↔ _
      rw [Bool.and_eq_true_iff, toP_inj n x y p q k1 a1 b1 ⟨m, k3⟩, toPs_inj n xs ys ps' qs' k2 a2 b2 ⟨m, k4⟩]
      simp
end
theorem scD_iff {x y : D} {b : Bool} (h : scD x y = some b) (hx : ∀ c, x ≠ .bl c) : b = true ↔ x = y := by
  cases x <;> cases y <;> first | (cases h; done) | (cases h; simp; done) | exact absurd rfl (hx _)
theorem eqA_pl {n m : Nat} {x y : D} (hn : n ≤ 64) (hm : m ≤ 64) (h1 : pl n x = true) (h2 : pl m y = true) : ∃ b, eqA x y = some b ∧ (b = true ↔ x = y) := by
  unfold eqA
  cases e : scD x y with
  | some b => exact ⟨b, rfl, scD_iff e fun c z => by subst z; cases n <;> cases h1⟩
  | none =>
    obtain ⟨p, a1, a2, a3⟩ := pl_toP n x h1
    obtain ⟨q, b1, b2, b3⟩ := pl_toP m y h2
    refine ⟨PyData.eqv p q, ?_, toP_inj n x y p q h1 a1 b1 ⟨m, h2⟩⟩
    simp only [eqD]
    rw [a1, Option.bind_some, b1, Option.bind_some]
    have s : (SeqAt.shaped p && SeqAt.shaped q) = true := by
      unfold SeqAt.shaped
      rw [a2, b2, decide_eq_true (by omega), decide_eq_true (by omega)]
      rfl
    rw [if_pos s]
open Classical in
theorem dEq_pl {n m : Nat} {x y : D} (hn : n ≤ 64) (hm : m ≤ 64) (h1 : pl n x = true) (h2 : pl m y = true) : dEq x y = some (.val (.bl (decide (x = y)))) := by
  obtain ⟨b, e, i⟩ := eqA_pl hn hm h1 h2
  unfold dEq
  rw [e]
  have : b = decide (x = y) := by
    cases b with
    | true => rw [decide_eq_true (i.mp rfl)]
    | false => rw [decide_eq_false fun z => Bool.false_ne_true (i.mpr z)]
  rw [this]
  rfl
open Classical in
theorem dNe_pl {n m : Nat} {x y : D} (hn : n ≤ 64) (hm : m ≤ 64) (h1 : pl n x = true) (h2 : pl m y = true) : dNe x y = some (.val (.bl (!decide (x = y)))) := by
  obtain ⟨b, e, i⟩ := eqA_pl hn hm h1 h2
  unfold dNe
  rw [e]
  have : b = decide (x = y) := by
    cases b with
    | true => rw [decide_eq_true (i.mp rfl)]
    | false => rw [decide_eq_false fun z => Bool.false_ne_true (i.mpr z)]
  rw [this]
  rfl
theorem pls_all {n : Nat} : ∀ {xs : List D}, (∀ x ∈ xs, pl n x = true) → pls n xs = true
  | [], _ => rfl
  | x :: xs, h => by
    show (pl n x && pls n xs) = true
    rw [h x (List.mem_cons_self ..), pls_all fun y hy => h y (List.mem_cons_of_mem _ hy)]
    rfl
open Classical in
theorem pl_same {n : Nat} {x : D} (hn : n ≤ 64) (h : pl n x = true) : dEq x x = some (.val (.bl true)) ∧ dNe x x = some (.val (.bl false)) := by
  have a := dEq_pl hn hn h h
  have b := dNe_pl hn hn h h
  rw [decide_eq_true rfl] at a b
  exact ⟨a, b⟩
end Sim
namespace Sim
open PySem PySem.Spec PyProof.Rows L2
/-! what operations come to, by what is known of their sides -/
theorem mod_v {i j : Int} (h : j ≠ 0) : dMod (.int i) (.int j) = some (.val (.int (i.fmod j))) := if_pos h
theorem divW_v {i j : Int} (h : 0 < j) (k : j.natAbs.log2 < 9000) : dDivW (.int i) (.int j) = some (.val (.int (i / j))) := if_pos (okDiv_of ⟨h, k⟩)
theorem log_lt {n b : Nat} (h : n < 2 ^ b) (hb : 0 < b) : n.log2 < b := PySem.Flt.log2_lt_of hb h
theorem divW_s {i j : Int} (h : 0 < j) (k : j < 18446744073709551616) : dDivW (.int i) (.int j) = some (.val (.int (i / j))) :=
  divW_v h (Nat.lt_trans (log_lt (b := 64) (by omega) (by decide)) (by decide))
theorem mulW_v {i j : Int} (h : CMulW i j) : dMulW (.int i) (.int j) = some (.val (.int (i * j))) := if_pos (okMul_of h)
theorem mulW_b {i j : Int} {a b : Nat} (h1 : i.natAbs < 2 ^ a) (h2 : j.natAbs < 2 ^ b) (ha : 0 < a) (hb : 0 < b) (h : a + b ≤ 1000000) : dMulW (.int i) (.int j) = some (.val (.int (i * j))) := mulW_v (wide_mul h1 h2 ha hb h)
theorem mulW_s {i j : Int} (h1 : i.natAbs < 18446744073709551616) (h2 : j.natAbs < 18446744073709551616) : dMulW (.int i) (.int j) = some (.val (.int (i * j))) := mulW_b (a := 64) (b := 64) h1 h2 (by decide) (by decide) (by decide)
theorem pow_v {i j : Int} (h : 0 ≤ j ∧ j ≤ 1000000 ∧ i.natAbs < 2 ^ 64) : dPow (.int i) (.int j) = some (.val (.int (i ^ j.toNat))) := @if_pos _ (Classical.propDecidable _) h _ _ _
theorem ix_at (xs : List D) (i : Int) (h0 : 0 ≤ i) (h1 : i < xs.length) : ∃ y ∈ xs, xs[i.toNat]? = some y ∧ dIxA (.tup xs) (.int i) = some (.val y) ∧ dIxA (.lst xs) (.int i) = some (.val y) := by
  obtain ⟨k, rfl⟩ := Int.eq_ofNat_of_zero_le h0
  have hk : k < xs.length := by omega
  refine ⟨xs[k], List.getElem_mem hk, ?_, ?_, ?_⟩
  · show xs[k]? = _
    rw [List.getElem?_eq_getElem hk]
  all_goals
    simp only [dIxA, dIx, L2.atI, L2.ixN]
    rw [if_pos (by omega), if_pos (by omega)]
    simp
theorem add_lstX (xs ys : List D) (h : xs.length + ys.length ≤ 100000) : dAddX (.lst xs) (.lst ys) = some (.new (.lst (xs ++ ys))) := by
  rw [addX_lst, if_pos (le_LIM (by omega))]
end Sim
namespace Sim
open PySem PySem.Spec PyProof.Rows L2 RZ
/-! ### zip of a list and a tuple -/
def sqOf3 : D → D → Option (List D × List D)
  | .lst xs, .tup ys => some (xs, ys)
  | x, y => sqOf2 x y
/-! ### a tuple once, or not at all -/
theorem tuple_mul0 (l : Addr) (items : Array Value) (n : Nat) (dd : Option Addr) (sl : Array (Option Value)) (x : Int) (u : Tok) (c0 : (decide (x < -(2 ^ 63)) || decide (x ≥ 2 ^ 63)) = false) (c1 : (items.isEmpty || x == 1) = false) (c2 : (decide (x ≤ 0) || items.isEmpty) = true) :
    Meets (Builtin.«tuple.__mul__» ⟨[.ref l, .int x u], []⟩) (fun _ R s => s.heap.get? l = some { cls := .type "tuple", dict := dd, data := .seq items n, slots := sl } ∧ R (.ok (.ret (.ref s.heap.objs.size))) { s with heap := s.heap.push { cls := Value.type "tuple", data := Data.seq #[] }, toks := s.toks }) :=
  .of_wp fun prog w A R s h => by
    obtain ⟨hp, g, d, tk, os⟩ := s
    obtain ⟨hl, h⟩ := h
    have f1 := AutoSeq1.idx_int
    have f2 : ((#[] : Array Value).size) ≤ sizeLine := Nat.zero_le _
    wp_walk using wpAny_loadPart' hl
    repeat (first
      | (refine wpAny_ite_false (decide_eq_false (by rw [c0]; exact Bool.false_ne_true)) ?_; wp_walk using wpAny_loadPart' hl)
      | (refine wpAny_ite_false (decide_eq_false (by rw [c1]; exact Bool.false_ne_true)) ?_; wp_walk using wpAny_loadPart' hl)
      | (refine wpAny_ite_true (decide_eq_true c2) ?_; wp_walk using wpAny_loadPart' hl)
      | (refine wpAny_ite_false (decide_eq_false (Nat.not_lt.mpr f2)) ?_; wp_walk using wpAny_loadPart' hl))
    exact ⟨_, rfl, h⟩
/-- by a number up to 1 -/
def rRepS (K : PySem.W.Frag) : R2 := fun x y H Q => ∃ l k xs, x = .ref l ∧ y = .int k ∧ SqT K H l xs ∧ xs ≠ [] ∧ -1000 ≤ k ∧ k ≤ 1 ∧ (k = 1 → Q (.ref l) H) ∧ (k ≤ 0 → ∀ p, H p = none → Q (.ref p) (upd H p (.tup [])))
theorem op_repS {X : Cx} : OpR X (binaryOp .Mult) (rRepS X.K) := by
  intro pins s σ H x y v u Q I rx ry h
  obtain ⟨l, k, xs, rfl, rfl, hT, hne, h1, h2, qa, qb⟩ := h
  cases rx
  obtain ⟨t, rfl⟩ := ry
  obtain ⟨its, r, ⟨⟨cls, dd, data, sl⟩, ho, hc, n, hd⟩, hs⟩ := I.tuple hT
  simp only at hc hd
  subst hc hd
  have c0 : (decide (k < -(2 ^ 63)) || decide (k ≥ 2 ^ 63)) = false := by
    rw [decide_eq_false (by omega), decide_eq_false (by omega)] <;> rfl
  have full : its.toArray.isEmpty = false := by
    cases r with
    | nil => exact absurd rfl hne
    | cons a b => rfl
  refine wpAny_binaryOp_repeat_ref (T := "tuple") (U := "int") (by decide) ⟨_, ho, rfl⟩ (fun s2 => typeIs_int s2 k t) noFill_tuple_mul F.fills_int_mul F.slot_int_rmul repeat_tuple F.slot_int_index.lookup ?_
  refine call_meets F.slot_int_rmul (typeIs_int s k t) F.entry_int_rmul (F.args_int_rmul_2 _ _) (int_rmul_tuple k t l its.toArray n dd sl) ⟨ho, rfl, ⟨_, ho, rfl⟩, ?_⟩
  by_cases one : k = 1
  · subst one
    have c1 : (its.toArray.isEmpty || (1 : Int) == 1) = true := Bool.or_true _
    exact call_meets F.slot_tuple_mul ⟨_, ho, rfl⟩ F.entry_tuple_mul (F.args_tuple_mul_2 _ _) (tuple_mulE l its.toArray n dd sl 1 t c0 c1) ⟨ho, .ref l, H, I, rfl, qa rfl⟩
  · have c1 : (its.toArray.isEmpty || k == 1) = false := by
      rw [full, beq_eq_false_iff_ne.mpr one]
      rfl
    have c2 : (decide (k ≤ 0) || its.toArray.isEmpty) = true := by
      rw [decide_eq_true (show k ≤ 0 by omega)]
      rfl
    refine call_meets F.slot_tuple_mul ⟨_, ho, rfl⟩ F.entry_tuple_mul (F.args_tuple_mul_2 _ _) (tuple_mul0 l its.toArray n dd sl k t c0 c1 c2) ⟨ho, ?_⟩
    refine ⟨.ref s.heap.objs.size, _, I.laid (t' := s.toks) (o := .tup []) (fun b o q => Heap.get?_push_of_some _ q) (Nat.le_refl _) ?_, rfl, qb (by omega) _ (I.hok.fresh (Nat.le_refl _))⟩
    exact ⟨Nat.zero_le _, [], .nil, IsTup.new _ _⟩
def okMix (n : Nat) (k : Int) : Bool := @decide (n ≤ 1000 ∧ -1000 ≤ k ∧ k ≤ 1000) (Classical.propDecidable _)
/-- x * y: a tuple by any number, great numbers too -/
def dMulM (x y : D) : Option Rs := match x with
  | .tup xs => match y with
    | .int k => if okMix xs.length k = true then some (if xs.isEmpty = true ∨ k = 1 then .val (.tup xs) else .tup (List.replicate k.toNat xs).flatten) else none
    | _ => none
  | x => dMulW x y
def rMulM (K : PySem.W.Frag) : R2 := fun x y H Q => rRepS K x y H Q ∨ ((rI CMulW fun i j => .int (i * j)) x y H Q ∨ (rMulD x y H Q ∨ (rRepT K x y H Q ∨ rRepE K x y H Q)))
theorem op_mulM {X : Cx} : OpR X (binaryOp .Mult) (rMulM X.K) := op_repS.or op_mulW2
theorem sem_mulM {g : G} : Op2 g (rMulM g.K) dMulM := fun F H x y dx dy Q s hx hy sa => by
  cases dx with
  | tup xs =>
    cases dy with
    | int k =>
      obtain ⟨a, vs, rfl, h1, l1⟩ := viewT s hx
      rw [viewI hy]
      obtain ⟨c, sa⟩ := sat_if sa
      obtain ⟨c0, c1, c2⟩ := @of_decide_eq_true _ (Classical.propDecidable _) c
      have q := sat_some sa
      cases l1 with
      | nil =>
        rw [if_pos (show ([] : List D).isEmpty = true ∨ k = 1 from Or.inl rfl)] at q
        exact .inr (.inr (.inr (.inr ⟨a, k, rfl, rfl, h1, by omega, by omega, q _ (isT hx)⟩)))
      | @cons v d vs' ds' i1 t1 =>
        have l2 := IsL.cons i1 t1
        by_cases k2 : 2 ≤ k
        · rw [if_neg (fun z => z.elim (fun z => nomatch z) (fun z => by omega))] at q
          exact .inr (.inr (.inr (.inl ⟨a, k, _, rfl, rfl, h1, (fun z => nomatch z), k2, c2, by rw [l2.len]; exact c0, fun p n => q p _ n (l2.reps _)⟩)))
        · refine .inl ⟨a, k, _, rfl, rfl, h1, (fun z => nomatch z), c1, by omega, fun e => ?_, fun e p n => ?_⟩
          · subst e
            rw [if_pos (Or.inr rfl)] at q
            exact q _ (isT hx)
          · rw [if_neg (fun z => z.elim (fun z => nomatch z) (fun z => by omega))] at q
            have e0 : k.toNat = 0 := by omega
            rw [e0] at q
            exact q p _ n .nil
    | _ => exact (sat_none sa).elim
  | _ => exact .inr (sem_mulW2 F H x y _ dy Q s hx hy sa)
/-! ### steps -/
theorem mulM_s {i j : Int} (h1 : i.natAbs < 18446744073709551616) (h2 : j.natAbs < 18446744073709551616) : dMulM (.int i) (.int j) = some (.val (.int (i * j))) := mulW_s h1 h2
end Sim
namespace Sim
open PySem PySem.Spec PyProof.Rows L2
/-! ### errors: expressions that may raise -/
abbrev Xr := Nat × List D
abbrev DX := Env → Option ((Vl × Env) ⊕ (Xr × Env))
def XOk (g : G) (B : Base) (F : Hp) (W : WX) (n : Nat) (σ ρ : L2.St) (Q : VK) : (Vl × Env) ⊕ (Xr × Env) → Prop
  | .inl r => ∀ (F' H' : Hp) (v : V) (ρ' : L2.St), Wd B F' H' → Ex F F' → ρ <+: ρ' → EnvIs g B F' H' ρ' r.2 → VIs g F' ρ' v r.1 → Q v H'
  | .inr r => ∀ (F' H' : Hp) (cls : Value) (d : Option Addr), Wd B F' H' → Ex F F' → EnvIs g B F' H' σ (r.2.take n) → XcIs g F' cls d r.1.1 r.1.2 → W cls d σ H'
def SimX (g : G) (W : WX) (n : Nat) (te : TE) (dx : DX) : Prop := ∀ (B : Base) (F H : Hp) (σ ρ : L2.St) (env : Env) (Q : VK), Wd B F H → σ.length = n → σ <+: ρ → EnvIs g B F H ρ env → Sat (dx env) (XOk g B F W n σ ρ Q) → te σ H Q
structure SX (CT : CTab) (X : Cx) (e : Expr) (dx : DX) : Prop where
  ex : ∃ te, PE X e te ∧ SimX (gX CT X) (wMax X) X.N.length te dx
abbrev DFx := List D → Option (Rv ⊕ Xr)
def spX (g : G) (df : DFx) : Sp := fun vs H Q X => ∃ (F : Hp) (ds : List D) (L : List (Addr × HO)), Sub F H ∧ (∀ p ∈ L, H p.1 = some p.2 ∧ F p.1 ≠ none) ∧ IsL g F vs ds ∧
  Sat (df ds) (fun r => match r with
    | .inl rv => ∀ (F' H' : Hp) (v : V), Wd ⟨H, F, none, L⟩ F' H' → RvIs g F H F' H' v rv → Q v H'
    | .inr y => ∀ (F' H' : Hp) (cls : Value) (d : Option Addr), Wd ⟨H, F, none, L⟩ F' H' → XcIs g F' cls d y.1 y.2 → X cls d H')
section
variable {g : G} {W : WX} {n : Nat}
end
/-! statements -/
def dDropX (dx : DX) : DS := fun env => (dx env).bind fun z => match z with
  | .inl r => some (.nx (r.2.take env.length))
  | .inr r => some (.xc r.1.1 r.1.2 (r.2.take env.length))
section
variable {g : G} {W : WX} {n i : Nat} {te : TE} {dx : DX}
theorem simDropX (h : SimX g W n te dx) : SimS g W n (tDrop te) (dDropX dx) := fun B F H σ env T w l E s => by
  have ln : env.length = n := E.len.symm.trans l
  refine h B F H σ σ env _ w l List.prefix_rfl E (s.bind.mono fun z sz => ?_)
  cases z with
  | inl r =>
    obtain ⟨o, eo, k⟩ := sz
    cases eo
    intro F1 H1 v ρ1 w1 e1 p1 E1 i1
    refine k F1 H1 σ w1 e1 l ?_
    rw [← E.len]
    obtain ⟨τ, rfl⟩ := p1
    exact E1.take
  | inr r =>
    obtain ⟨o, eo, k⟩ := sz
    cases eo
    intro F1 H1 cls d w1 e1 E1 hx
    exact k F1 H1 σ cls d w1 e1 l (by rw [ln]; exact E1) hx
end
/-! ### raise -/
/-- an error class without an own __init__ -/
def dRaise0 (c : Nat) : DS := fun env => some (.xc c [] env)
theorem ss_raise0 {CT : CTab} {X : Cx} {C : Addr} {bmB : List Value} {B newId initId : String} {x m : Str} {c j : Nat} {p p2 pos pos2 : Pos} (hc : X.calm = true) (F : ExcBaseFacts B newId initId bmB) (q : PySem.W.excIn X.K C bmB newId = true) (gC : X.mg x = some (.ref C)) (kC : PySem.W.keepIn X.K (.ref C) = true)
    (r : Raises X (.ref C)) (hg : Gl X x) (h1 : (CT c).1 = x) (hdb : (x == ("__debug__" : Str)) = false := by decide) : SS CT X (.Raise (some (.Call (.Name x p) [.Constant (.str m) j p2] [] pos)) none pos2) (dRaise0 c) := by
  refine ⟨_, ps_raise hc (takes_max X) (pmk_own F q gC kC r hg hdb), fun B F H σ env T w l E s => ?_⟩
  obtain ⟨o, e, k⟩ := s
  cases e
  exact k F H σ _ _ w (Ex.refl F) l E ⟨C, by show X.mg (CT c).1 = _; rw [h1]; exact gC, rfl, .inl ⟨rfl, rfl⟩⟩
/-- what such an __init__ does -/
def spI (C : Addr) (ns : List Str) : Sp := fun vs H Q _ => ∃ (a : Addr) (ys : List V), vs = .ref a :: ys ∧ ys.length = ns.length ∧ H a = some (exo a C none) ∧
  ∀ (H' : Hp) (d : Addr) (fs : List (Str × V)), H d = none → d ≠ a → (∀ (i : Nat) (f : Str), ns[i]? = some f → fs.lookup f = ys[i]?) → H' a = some (exo a C (some d)) → H' d = some (exd d fs) → (∀ b, b ≠ a → b ≠ d → H' b = H b) → Q .non H'
structure XMk (CT : CTab) (P : Program) (w : World) (K : PySem.W.Frag) (mg : Str → Option Value) (base : Heap) (k : Nat) (x : Str) (c : Nat) : Prop where
  ex : ∃ (C f : Addr) (fd : FuncData) (ps : List Str), OexC K C ∧ PySem.W.findIn K (.ref C) "__init__" = some (some (.ref f)) ∧ PySem.W.typeIn K (.ref f) = some (.type "function") ∧ FnOk P w K mg base CX0 k f fd ps (spI C (CT c).2) ∧ Binds K fd ps [] ∧ mg x = some (.ref C) ∧ (CT c).1 = x
end Sim
namespace Sim
open PySem PySem.Spec PyProof.Rows L2
/-! ### try .. except C as n: the error stays a thing of ours -/
/-- the body's wish -/
def wKeep (K : PySem.W.Frag) (c : Value) (i : Nat) (ts : TS) (Wout : WX) (D : Ends) : WX := fun cls d σ H => ∃ b, PySem.W.exmOne K cls c = some b ∧
  (b = true → ∀ a, H a = none → ∃ C, cls = .ref C ∧ ts { nx := fun σ' H' => D.nx (σ'.set i none) H', rt := D.rt, bk := fun σ' H' => D.bk (σ'.set i none) H', ct := fun σ' H' => D.ct (σ'.set i none) H' } (σ.set i (some (.ref a))) (upd H a (ExT a C d))) ∧
  (b = false → Wout cls d σ H)
theorem inv_hot {X : Cx} {pins : List (Addr × Obj)} {σ : L2.St} {H : Hp} {s : Shared} (I : Inv X pins σ H s) (a : Addr) : Inv (X.suite a (X.pn ++ pins)) [] σ H s :=
  ⟨I.ok.suite a _, I.os, I.bare, I.base, I.loc, I.cell, I.free, I.freeC, fun p hp => I.pin p (by rw [List.append_nil] at hp; exact hp), I.hok, I.len⟩
theorem inv_cold {X : Cx} {pins pn : List (Addr × Obj)} {σ : L2.St} {H : Hp} {s : Shared} {a : Addr} (I : Inv (X.suite a (X.pn ++ pins)) pn σ H s) (ok : X.Ok) : Inv X pins σ H s :=
  ⟨ok, I.os, I.bare, I.base, I.loc, I.cell, I.free, I.freeC, fun pr mem => I.pin pr (List.mem_append_left _ mem), I.hok, I.len⟩
/-- an error that has landed is tracked -/
theorem inv_keep {X : Cx} {pins : List (Addr × Obj)} {σ : L2.St} {H : Hp} {sI s' : Shared} {B : Heap} {a C : Addr} {d : Option Addr} {oe : Obj} {vs : Array Value} (J : Inv X pins σ H sI) (nb : ∀ b o, sI.heap.get? b = some o → b ∉ frs X.stack → B.get? b = some o) (nB : B.get? a = none) (nfr : a ∉ frs X.stack)
    (st : B.StaysIn s'.heap) (up : sI.heap.UpToSlots s'.heap) (os : s'.os = sI.os) (ag : AllBare s'.gens) (na : H a = none) (he : s'.heap.get? a = some oe) (hz : Zc (.ref C) d oe) (hd : oe.data = .fields vs) : Inv X pins σ (upd H a (ExT a C d)) s' := by
  obtain ⟨G, g1, g2⟩ := restrict s'.heap fun b => decide (b ≠ a)
  have keepG : ∀ b, b ≠ a → G.get? b = s'.heap.get? b := fun b hb => g1 b (decide_eq_true hb)
  have noneG : G.get? a = none := g2 a (decide_eq_false fun z => z rfl)
  have nI : sI.heap.get? a = none := by
    cases q : sI.heap.get? a with
    | none => rfl
    | some o =>
      have z := nb a o q nfr
      rw [nB] at z
      cases z
  have J1 : Inv X pins σ H { s' with heap := G } := by
    refine J.landed (B := B) nb (fun b o e => ?_) (fun b o e hn => ?_) os ag
    · have away : b ≠ a := fun same => by
        rw [same, nB] at e
        cases e
      exact (keepG b away).trans (st b o e)
    · have away : b ≠ a := fun same => by
        rw [same, nI] at e
        cases e
      obtain ⟨sl, q⟩ := up b o e hn
      exact ⟨sl, (keepG b away).trans q⟩
  have fin := J1.laidN (h' := s'.heap) (a := a) (o := ExT a C d) (t' := s'.toks) (fun b u e => ?_) noneG na ⟨⟨oe, vs, he, hz, hd⟩, ⟨oe, he⟩, fun h1 h2 ⟨o, v, x, y, z⟩ k => ⟨o, v, k _ x, y, z⟩⟩
  · exact fin
  · have away : b ≠ a := fun same => by
      have e' : G.get? b = some u := e
      rw [same, noneG] at e'
      cases e'
    exact (keepG b away).symm.trans e
theorem ps_try_keep {X : Cx} {x n : Str} {c : Value} {i : Nat} {body suite : List Stmt} {b0 : Stmt} {np pos pos2 : Pos} {tb : WX → TS} {ts : TS} {Wout : WX} (hs : X.stack = X.env :: X.outer) (hf : X.env.frame = some X.env.locals) (hN : X.N.Nodup) (hi : X.N[i]? = some n) (hln : X.env.kindOf n = some .local) (hnames : Names X x c) (takes : Takes X Wout)
    (hbody : ∀ (W : WX) (pn : List (Addr × Obj)) (xe : Value → Shared → Prop), Takes (X.tr pn xe) W → PassesOwn (model X.prog X.w) X.A X.env xe → PSs (X.tr pn xe) body (tb W))
    (hsu : ∀ (a : Addr) (pn : List (Addr × Obj)), PSs (X.suite a pn) (b0 :: suite) ts) : PS X (.Try body [.ExceptHandler (some (.Name x np)) (some n) (b0 :: suite) pos2] [] [] pos) (fun D σ H => tb (wKeep X.K c i ts Wout D) D σ H) := by
  refine ⟨fun pins s σ H D I wish => ?_⟩
  have ok := I.ok
  have frames : X.A.frames = some (X.env :: X.outer) := by rw [ok.frames, hs]
  refine wpAny_Try_except (wpAny_mono ((hbody (wKeep X.K c i ts Wout D) (X.pn ++ pins) (fun e s₁ => wpAny (model X.prog X.w) X.A (noteFrame e X.env) (fun _ s₂ => wpAny (model X.prog X.w) X.A (setFlight e none) (fun _ s₃ =>
    wpAny (model X.prog X.w) X.A (handleBy e X.env [.ExceptHandler (some (.Name x np)) (some n) (b0 :: suite) pos2]) (SP X pins D) X.xe s₃) X.xe s₂) X.xe s₁) (fun u s' air => ?_) PassesOwn.looking).run [] s σ H D (I.toTry _) wish) (fun f s1 done => ?_) (fun e s1 z => z))
  · obtain ⟨a, B, s0, pv, τ, Hx, kl, d, rfl, I0, below, upto, aloft, fresh, sameOs, bareG, b, asks, yes, no⟩ := air
    have I1 : Inv X pins τ Hx s0 := I0.ofTry ok
    have aloft1 : Sky B (X.env :: X.outer) a (Zc kl d) X.env.locals s'.heap := by rw [← hs]; exact aloft
    show wpAny _ X.A (noteFrame (.ref a) X.env) _ _ _
    refine Sky.land Zc.steady frames hf aloft1 fun hp3 down3 upto3 => ?_
    have I3 : Inv X pins τ Hx { s' with heap := hp3 } := I1.landed below down3.1 (upto.trans upto3) sameOs bareG
    obtain ⟨ob3, ws3, get3, zc3, dat3⟩ := down3.there
    have nfr : a ∉ frs (X.env :: X.outer) := fun g3 => by
      obtain ⟨_, ob1, eq1, notFun⟩ := down3.2.2.1.mem g3
      rw [get3] at eq1
      cases eq1
      exact notFun _ dat3
    have hot3 := inv_hot I3 a
    refine wpAny_handleBy_cons (codeAny_handlers_test ?_) (fun z => nomatch z)
    have isCls : PySem.W.Looks (model X.prog X.w) hp3 (typeOf (.ref a)) kl := fun A Q E s k q => wpAny_typeOf_ref (k _ _ get3) (by rw [zc3.1]; exact q)
    have matches1 := PySem.W.exm_one (M := model X.prog X.w) (I3.kIn) isCls asks
    have look : ∀ {Q : Value → Shared → Prop} {E : Value → Shared → Prop}, Q c { s' with heap := hp3 } → wpAny (model X.prog X.w) (X.A.mark (some (.ref a))) (eval (.Name x np) X.env) Q E { s' with heap := hp3 } := fun {Q E} q => by
      obtain ⟨g1, g2, g3 | ⟨g3, g5, g4⟩⟩ := hnames
      · exact ld_glob (X := X.suite a (X.pn ++ pins)) hot3 g1 g3 q g2
      · exact ld_blt (X := X.suite a (X.pn ++ pins)) hot3 g1 g3 g5 q g4 g2
    refine look (matches1.here ?_)
    cases b with
    | true =>
      obtain ⟨C, rfl, y2⟩ := yes rfl a fresh
      refine codeAny_handlers_suite_as (HandSPX.lands_againZ down3 fun hp4 down4 upto4 => ?_)
      obtain ⟨ob4, ws4, get4, zc4, dat4⟩ := down4.there
      have nB : B.get? a = none := down4.2.1
      have I4 : Inv X pins τ (upd Hx a (ExT a C d)) { s' with heap := hp4 } := inv_keep (B := B) I1 below nB (by rw [hs]; exact nfr) down4.1 ((upto.trans upto3).trans upto4) sameOs bareG fresh get4 zc4 dat4
      refine store_ok (X := X.suite a (X.pn ++ pins)) (v := .ref a) (inv_hot I4 a) hN hi (.inl hln) rfl (fun t5 hot5 => ?_) (.inr hln)
      refine wpAny_mono ((hsu a (X.pn ++ pins)).run [] t5 _ _ _ hot5 y2) (fun f t6 done => ?_) (fun _ _ z => False.elim z)
      have last : ∀ {τ6 : L2.St} {Hp6 : Hp} {Q : Shared → Prop}, Inv (X.suite a (X.pn ++ pins)) [] τ6 Hp6 t6 → (∀ t7, Inv X pins (τ6.set i none) Hp6 t7 → Q t7) →
          wpAny (model X.prog X.w) X.A (do bindName X.env n .none; unbindBehindTheSuite X.env n pos2) (fun _ t7 => Q t7) X.xe t6 := fun {τ6 Hp6 Q} hot6 hq => gone_ok (inv_cold hot6 ok) hN hi hln hq
      cases f with
      | next => obtain ⟨τ6, Hp6, hot6, r6⟩ := done; exact last hot6 fun t7 I7 => ⟨_, _, I7, r6⟩
      | brk => obtain ⟨τ6, Hp6, hot6, r6⟩ := done; exact last hot6 fun t7 I7 => ⟨_, _, I7, r6⟩
      | cont => obtain ⟨τ6, Hp6, hot6, r6⟩ := done; exact last hot6 fun t7 I7 => ⟨_, _, I7, r6⟩
      | ret u => obtain ⟨v6, τ6, Hp6, hot6, rel6, r6⟩ := done; exact last hot6 fun t7 I7 => ⟨_, _, _, I7, rel6, r6⟩
    | false =>
      refine (wpAny_handleBy_nil ?_ : wpAny _ X.A (handleBy (.ref a) X.env []) _ _ _)
      obtain ⟨z1, z2, z3, oe, vs, T, obT, rest, he, hz, hd, z4, z5⟩ := id down3
      unfold PySem.passOn
      refine wpAny_bind (wpAny_field he hd z4 ?_)
      rw [if_neg (show ¬ ((Value.ref T == Value.none) = true) by simp)]
      have away : wpAny (model X.prog X.w) X.A (setFlight (.ref a) X.env.frame) (fun _ s4 => wpAny (model X.prog X.w) X.A (throw (.ref a) : Sem Flow) (SP X pins D) X.xe s4) X.xe { s' with heap := hp3 } := by
        rw [hf]
        refine HandSPX.setFlight_upZ down3 fun hp4 hh4 upto4 => wpAny_throw (takes _ _ ?_)
        exact ⟨a, B, s0, pins, τ, Hx, kl, d, rfl, I1, below, (upto.trans upto3).trans upto4, .inr (.inr (by rw [hs]; exact hh4)), fresh, sameOs, bareG, no rfl⟩
      first
        | exact wpAny_bind (wpAny_pure (wpAny_bind away))
        | exact wpAny_bind away
  · cases f with
    | next => obtain ⟨τ, Hx, I0, q⟩ := done; exact wpAny_execs_nil ⟨τ, Hx, I0.ofTry ok, q⟩
    | brk => obtain ⟨τ, Hx, I0, q⟩ := done; exact ⟨τ, Hx, I0.ofTry ok, q⟩
    | cont => obtain ⟨τ, Hx, I0, q⟩ := done; exact ⟨τ, Hx, I0.ofTry ok, q⟩
    | ret u => obtain ⟨v, τ, Hx, I0, r, q⟩ := done; exact ⟨v, τ, Hx, I0.ofTry ok, r, q⟩
theorem SimS.weak {g : G} {W W' : WX} {n : Nat} {ts : TS} {ds : DS} (h : SimS g W' n ts ds) (k : ∀ c d σ H, W c d σ H → W' c d σ H) : SimS g W n ts ds := fun B F H σ env T w l E s => h B F H σ env T w l E (s.mono fun o q => by
  cases o with
  | xc c xs e => exact fun F' H' σ' cl d w' x' l' E' hx => k _ _ _ _ (q F' H' σ' cl d w' x' l' E' hx)
  | nx e => exact q
  | rt v e => exact q
  | bk e => exact q
  | ct e => exact q)
theorem EnvIs.clear {g : G} {B : Base} {F H : Hp} {σ : L2.St} {env : Env} (E : EnvIs g B F H σ env) (i : Nat) : EnvIs g B F H (σ.set i none) (env.set i none) := by
  have old : ∀ (j : Nat) (s : Sl), (env.set i none)[j]? = some (some s) → i ≠ j ∧ env[j]? = some (some s) := fun j s e => by
    rw [List.getElem?_set] at e
    by_cases c : i = j
    · rw [if_pos c] at e
      split at e <;> cases e
    · rw [if_neg c] at e
      exact ⟨c, e⟩
  have same : ∀ j, i ≠ j → (σ.set i none)[j]? = σ[j]? := fun j c => by rw [List.getElem?_set, if_neg c]
  refine ⟨by rw [List.length_set, List.length_set]; exact E.len, fun j s e => ?_, fun j k b p q o1 o2 e1 e2 s1 s2 => ?_⟩
  · obtain ⟨c, e⟩ := old j s e
    rw [same j c]
    exact E.sl j s e
  · obtain ⟨c1, e1⟩ := old j _ e1
    obtain ⟨c2, e2⟩ := old k _ e2
    rw [same j c1] at s1
    rw [same k c2] at s2
    exact E.dis j k b _ _ _ _ e1 e2 s1 s2
/-- the name goes behind the suite -/
def endOut (i : Nat) : Out → Option Out
  | .nx e => some (.nx (e.set i none))
  | .bk e => some (.bk (e.set i none))
  | .ct e => some (.ct (e.set i none))
  | .rt l e => some (.rt l e)
  | .xc _ _ _ => none
def dTry (i : Nat) (cs : List Nat) (caught : Nat → Bool) (body suite : DS) : DS := fun env => (body env).bind fun o => match o with
  | .xc c xs e => if cs.contains c = true then (if caught c = true then (suite (e.set i (some (.val (.exc c xs))))).bind (endOut i) else some (.xc c xs e)) else none
  | o => some o
theorem ss_try {CT : CTab} {X : Cx} {x n : Str} {cv : Value} {i : Nat} {cs : List Nat} {caught : Nat → Bool} {body suite : List Stmt} {b0 : Stmt} {np pos pos2 : Pos} {db dsu : DS} (hs : X.stack = X.env :: X.outer) (hf : X.env.frame = some X.env.locals) (hN : X.N.Nodup) (hi : X.N[i]? = some n) (hln : X.env.kindOf n = some .local) (hc : Names X x cv)
    (hk : ∀ c, cs.contains c = true → ∀ C, X.mg (CT c).1 = some (.ref C) → PySem.W.exmOne X.K (.ref C) cv = some (caught c))
    (hb : ∀ (pn : List (Addr × Obj)) (xe : Value → Shared → Prop), PassesOwn (model X.prog X.w) X.A X.env xe → SSs CT (X.tr pn xe) body db) (hsu : ∀ (a : Addr) (pn : List (Addr × Obj)), SSs CT (X.suite a pn) (b0 :: suite) dsu) :
    SS CT X (.Try body [.ExceptHandler (some (.Name x np)) (some n) (b0 :: suite) pos2] [] [] pos) (dTry i cs caught db dsu) := by
  have li := (List.getElem?_eq_some_iff.mp hi).1
  refine ⟨_, ps_try_keep (c := cv) (i := i) (tb := fun W D σ H => ∀ (pn : List (Addr × Obj)) (xe : Value → Shared → Prop) (t : TS), PSs (X.tr pn xe) body t → SimS (gX CT X) W X.N.length t db → t D σ H)
    (ts := fun D σ H => ∀ (a : Addr) (pn : List (Addr × Obj)) (t : TS), PSs (X.suite a pn) (b0 :: suite) t → SimS (gX CT X) (fun _ _ _ _ => False) X.N.length t dsu → t D σ H) hs hf hN hi hln hc (takes_max X) (fun W pn xe tk po => ?_) (fun a pn => ?_), fun B F H σ env T w l E s => ?_⟩
  · obtain ⟨t, p, q⟩ := (hb pn xe po).ex
    exact ⟨fun pins s σ H D I wish => p.run pins s σ H D I (wish pn xe t p (q.weak fun _ _ _ _ h => max_of tk h))⟩
  · obtain ⟨t, p, q⟩ := (hsu a pn).ex
    exact ⟨fun pins s σ H D I wish => p.run pins s σ H D I (wish a pn t p (q.weak fun _ _ _ _ h => h.elim))⟩
  · intro pn xe t _ sim
    refine sim B F H σ env T w l E (s.bind.mono fun o so => ?_)
    cases o with
    | nx e => obtain ⟨_, z, k⟩ := so; cases z; exact k
    | rt v e => obtain ⟨_, z, k⟩ := so; cases z; exact k
    | bk e => obtain ⟨_, z, k⟩ := so; cases z; exact k
    | ct e => obtain ⟨_, z, k⟩ := so; cases z; exact k
    | xc c xs e =>
      intro F1 H1 σ1 cls d w1 x1 l1 E1 hx
      obtain ⟨C, hm, rfl, hd⟩ := hx
      obtain ⟨c1, s1⟩ := sat_if so
      refine ⟨caught c, hk c c1 C hm, fun yes a na => ⟨C, rfl, fun a2 pn2 t2 _ sim2 => ?_⟩, fun no => ?_⟩
      · have nf := w1.nF na
        have isx : Is (gX CT X) (upd F1 a (ExT a C d)) (.ref a) (.exc c xs) := by
          rcases hd with ⟨rfl, rfl⟩ | ⟨dd, fs, vs, rfl, h1, h2, h3⟩
          · exact .exc0 hm upd_same
          · exact .exc hm upd_same (Ex.new nf _ _ h1) (h2.mono (Ex.new nf)) h3
        rw [if_pos yes] at s1
        refine sim2 B (upd F1 a (ExT a C d)) _ _ (e.set i (some (.val (.exc c xs)))) _ (w1.laidF na) (by rw [List.length_set]; exact l1) ((E1.laidF w1 na).setV i isx) (s1.bind.mono fun o2 s2 => ?_)
        have x2 := x1.trans (Ex.new (o := ExT a C d) nf)
        cases o2 with
        | nx e2 =>
          obtain ⟨_, z, k⟩ := s2
          cases z
          exact fun F3 H3 σ3 w3 x3 l3 E3 => k F3 H3 _ w3 (x2.trans x3) (by rw [List.length_set]; exact l3) (E3.clear i)
        | bk e2 =>
          obtain ⟨_, z, k⟩ := s2
          cases z
          exact fun F3 H3 σ3 w3 x3 l3 E3 => k F3 H3 _ w3 (x2.trans x3) (by rw [List.length_set]; exact l3) (E3.clear i)
        | ct e2 =>
          obtain ⟨_, z, k⟩ := s2
          cases z
          exact fun F3 H3 σ3 w3 x3 l3 E3 => k F3 H3 _ w3 (x2.trans x3) (by rw [List.length_set]; exact l3) (E3.clear i)
        | rt v e2 =>
          obtain ⟨_, z, k⟩ := s2
          cases z
          exact fun F3 H3 v ρ3 w3 x3 E3 i3 => k F3 H3 v ρ3 w3 (x2.trans x3) E3 i3
        | xc c2 xs2 e2 => obtain ⟨_, z, _⟩ := s2; cases z
      · rw [if_neg (by rw [no]; exact Bool.false_ne_true)] at s1
        obtain ⟨_, z, k⟩ := s1
        cases z
        exact k F1 H1 σ1 _ d w1 x1 l1 E1 ⟨C, hm, rfl, hd⟩
/-! ### isinstance of a caught error; its fields -/
theorem inst_exc {X : Cx} {pins : List (Addr × Obj)} {σ : L2.St} {H : Hp} {s : Shared} {a C : Addr} {d : Option Addr} (I : Inv X pins σ H s) (ea : H a = some (ExT a C d)) (ed : ∀ dd, d = some dd → ∃ fs, H dd = some (.xd fs)) :
    ∃ oe od, PySem.W.InstAt s.heap a oe C od ∧ (∀ dd fs, d = some dd → H dd = some (.xd fs) → ∃ (mA : Str → Option Value) (ob : Obj), od = some ob ∧ (∀ f, RelO (fs.lookup f) (mA f)) ∧ ∀ f, PySem.W.lookIn f ob = some (mA f)) := by
  obtain ⟨⟨oe, vs, he, hz, hd⟩, _⟩ := I.hok a _ ea
  have plain : PySem.W.notCls oe = true := by
    unfold PySem.W.notCls
    rw [hd] <;> rfl
  cases d with
  | none => exact ⟨oe, none, ⟨he, hz.1, plain, by rw [hz.2]; trivial⟩, fun dd fs z => nomatch z⟩
  | some dd =>
    obtain ⟨fs, hf⟩ := ed dd rfl
    obtain ⟨mA, hns, hr⟩ := I.hok dd _ hf
    obtain ⟨ob, ho, hl⟩ := lookIn_ns hns
    refine ⟨oe, some ob, ⟨he, hz.1, plain, by rw [hz.2]; exact ho⟩, fun d2 f2 z1 z2 => ?_⟩
    cases z1
    rw [hf] at z2
    cases z2
    exact ⟨mA, ob, rfl, hr, fun f => hl f⟩
def rIsX (K : PySem.W.Frag) : List V → Hp → VK → Prop := fun xs H Q => ∃ (a C : Addr) (d : Option Addr) (c : V) (u : Value) (b : Bool), xs = [.ref a, c] ∧ ClsV c u ∧ H a = some (ExT a C d) ∧ (∀ dd, d = some dd → ∃ fs, H dd = some (.xd fs)) ∧ ExcC K C ∧ PySem.W.kitOne K (.ref C) u = some b ∧ Q (.bl b) H
theorem call_isX {X : Cx} : CallR X (.builtin "isinstance") (rIsX X.K) := by
  intro pins s σ H xs us Q I r want
  obtain ⟨a, C, d, c, u, b, rfl, isC, ea, ed, facts, e, q⟩ := want
  obtain ⟨_, w2, rfl, r1, r2⟩ := vals2 r
  cases r1
  have same := isC.eq r2
  subst same
  obtain ⟨oe, od, J, _⟩ := inst_exc I ea ed
  have hcl : (PySem.W.clsIn X.K C).isSome = true := by
    obtain ⟨cd, hc, _⟩ := PySem.W.any_some facts.hd
    rw [hc]
    rfl
  exact PySem.W.kia_one (PySem.W.kitx_exc hcl facts.hg facts.hk facts.hs facts.ha facts.hn facts.ht facts.hm) I.kIn J e (fun z => nomatch z) fun tk => ⟨.bl b, H, I.kept (t' := tk) fun _ _ z => z, rfl, q⟩
theorem viewX {g : G} {F H : Hp} (s : Sub F H) {v : V} {c : Nat} {ds : List D} (h : View g F H v (.exc c ds)) : ∃ (a C : Addr) (d : Option Addr), v = .ref a ∧ g.mg (g.CT c).1 = some (.ref C) ∧ H a = some (ExT a C d) ∧
    (∀ dd, d = some dd → ∃ fs, H dd = some (.xd fs)) ∧ (ds = [] ∨ ∃ (dd : Addr) (fs : List (Str × V)) (vs : List V), d = some dd ∧ H dd = some (.xd fs) ∧ IsL g F vs ds ∧ ∀ (i : Nat) (f : Str), (g.CT c).2[i]? = some f → fs.lookup f = vs[i]?) := by
  have down : ∀ {b : Addr} {o : HO}, F b = some o → lockable o = false → H b = some o := fun {b o} e n => by
    rcases s b o e with z | ⟨z, _⟩
    · exact z
    · rw [n] at z
      cases z
  generalize e : D.exc c ds = dd at h
  cases h with
  | is i =>
    subst e
    cases i with
    | exc0 m h => exact ⟨_, _, none, rfl, m, down h rfl, (fun dd z => nomatch z), .inl rfl⟩
    | exc m h hd l k => exact ⟨_, _, _, rfl, m, down h rfl, (fun dd z => by cases z; exact ⟨_, down hd rfl⟩), .inr ⟨_, _, _, rfl, down hd rfl, l, k⟩⟩
  | own n hh r => cases r <;> cases e
/-- isinstance(e, C), e a caught error or None -/
def dIsX (cs : List Nat) (yes : Nat → Bool) (de : DE) : DE := fun env => (de env).bind fun r => (look r.2 r.1).bind fun d => match d with
  | .exc c _ => if cs.contains c = true then some (.val (.bl (yes c)), r.2) else none
  | .non => some (.val (.bl false), r.2)
  | _ => none
structure XIs (g : G) (cs : List Nat) (yes : Nat → Bool) (u : Value) : Prop where
  ex : ∀ c, cs.contains c = true → ∃ C, g.mg (g.CT c).1 = some (.ref C) ∧ ExcC g.K C ∧ PySem.W.kitOne g.K (.ref C) u = some (yes c)
  non : PySem.W.kitOne g.K (.type "NoneType") u = some false
theorem sim_isX {g : G} {n : Nat} {te : TE} {de : DE} {cs : List Nat} {yes : Nat → Bool} {c : V} {u : Value} (A : XIs g cs yes u) (kc : ClsV c u) (b : SimE g n te de) :
    SimE g n (fun σ H Q => (te σ H fun x H1 => rIsi g.K [x, c] H1 Q) ∨ te σ H fun x H1 => rIsX g.K [x, c] H1 Q) (dIsX cs yes de) := fun B F H σ ρ env Q w l p E s => by
  obtain ⟨r, er, s1⟩ := s.bind
  obtain ⟨d, ed, s2⟩ := s1.bind
  cases d with
  | non =>
    obtain ⟨_, z, k⟩ := s2
    cases z
    refine .inl (b B F H σ ρ env _ w l p E ⟨r, er, fun F1 H1 v ρ1 w1 x1 p1 E1 i1 => ?_⟩)
    exact ⟨v, c, _, _, _, rfl, kc, tyx_of w1.sub (look_ok E1 i1 ed) rfl rfl, A.non, k F1 H1 _ ρ1 w1 x1 p1 E1 (.val (.bl false))⟩
  | exc c0 ds =>
    obtain ⟨c1, s3⟩ := sat_if s2
    obtain ⟨_, z, k⟩ := s3
    cases z
    refine .inr (b B F H σ ρ env _ w l p E ⟨r, er, fun F1 H1 v ρ1 w1 x1 p1 E1 i1 => ?_⟩)
    obtain ⟨a, C, dd, rfl, m, h1, h2, _⟩ := viewX w1.sub (look_ok E1 i1 ed)
    obtain ⟨C', m', facts, kit⟩ := A.ex c0 c1
    rw [m] at m'
    cases m'
    exact ⟨a, C, dd, c, u, _, rfl, kc, h1, h2, facts, kit, k F1 H1 _ ρ1 w1 x1 p1 E1 (.val (.bl _))⟩
  | _ => exact (sat_none s2).elim
theorem se_isX {CT : CTab} {X : Cx} {e : Expr} {x : Str} {p p2 pos : Pos} {de : DE} {cs : List Nat} {yes : Nat → Bool} {C0 : Addr} (A : XIs (gX CT X) cs yes (.ref C0)) (hC0 : X.mg x = some (.ref C0)) (hg : Gl X "isinstance") (hm : X.mg "isinstance" = none) (hg2 : Gl X x) (h : SE CT X e de)
    (hdb : (x == ("__debug__" : Str)) = false := by decide) (hs1 : starEach [.Name x p2] X.env = (false, eval (.Name x p2) X.env) :: starEach [] X.env := by rfl)
    (he : starEach [e, .Name x p2] X.env = (false, eval e X.env) :: starEach [.Name x p2] X.env := by rfl) (hpl : (backTo pos (starEach [.Name x p2] X.env)).any (·.1) = false := by rfl) :
    SE CT X (.Call (.Name "isinstance" p) [e, .Name x p2] [] pos) (dIsX cs yes de) := by
  obtain ⟨te, a, b⟩ := h
  have args : PA X [e, .Name x p2] _ := pa_cons a (pa_cons (pe_glob (v := .ref C0) hg2 hC0 rfl hdb) pa_nil hs1) he
  exact ⟨_, PE.or (pe_callB call_isi hg hm boot_isinstance args (by decide) (by decide) he hpl) (pe_callB call_isX hg hm boot_isinstance args (by decide) (by decide) he hpl), sim_isX A (.own C0) b⟩
theorem se_isXB {CT : CTab} {X : Cx} {e : Expr} {x : Str} {T : String} {p p2 pos : Pos} {de : DE} {cs : List Nat} {yes : Nat → Bool} (A : XIs (gX CT X) cs yes (.type T)) (hg : Gl X "isinstance") (hm : X.mg "isinstance" = none) (hg2 : Gl X x) (hm2 : X.mg x = none) (hv : bootBuiltins x = some (.type T)) (h : SE CT X e de)
    (hn : x ≠ "__name__" := by decide) (hdb : (x == ("__debug__" : Str)) = false := by decide) (hs1 : starEach [.Name x p2] X.env = (false, eval (.Name x p2) X.env) :: starEach [] X.env := by rfl)
    (he : starEach [e, .Name x p2] X.env = (false, eval e X.env) :: starEach [.Name x p2] X.env := by rfl) (hpl : (backTo pos (starEach [.Name x p2] X.env)).any (·.1) = false := by rfl) :
    SE CT X (.Call (.Name "isinstance" p) [e, .Name x p2] [] pos) (dIsX cs yes de) := by
  obtain ⟨te, a, b⟩ := h
  have args : PA X [e, .Name x p2] _ := pa_cons a (pa_cons (pe_bltn (v := .ty T) hg2 hm2 hv rfl hn hdb) pa_nil hs1) he
  exact ⟨_, PE.or (pe_callB call_isi hg hm boot_isinstance args (by decide) (by decide) he hpl) (pe_callB call_isX hg hm boot_isinstance args (by decide) (by decide) he hpl), sim_isX A (.ty T) b⟩
structure XFld (g : G) (cs : List Nat) (k : Nat) (f : Str) : Prop where
  ex : ∀ c, cs.contains c = true → (g.CT c).2[k]? = some f ∧ ∃ C, g.mg (g.CT c).1 = some (.ref C) ∧ XfC g.K C ∧ PySem.W.findIn g.K (.ref C) f = some none
end Sim
namespace Sim
open PySem PySem.Spec PyProof.Rows L2
/-! ### defs that raise -/
section
variable {CT : CTab} {P : Program} {w : World} {K : PySem.W.Frag} {mg : Str → Option Value} {base : Heap}
def BodyX (CT : CTab) (P : Program) (w : World) (K : PySem.W.Frag) (mg : Str → Option Value) (base : Heap) (N : List Str) (qual : Str) (st : Stmt) (f : Addr) (k : Nat) (body : DS) : Prop :=
  ∀ (cdv : Value) (A : Around) (outer : List PySem.Env) (s : Shared) (H : Hp) (E : XK), Room k (A.deeper (envOfC qual (defScope st) s.heap.objs.size f cdv)) →
    SSs CT (cxOf (L2.CX P w) P w K mg base N qual (defScope st) f cdv A outer s H E) (defBody st) body
end
/-- a def of the module that may raise -/
structure CalX (CT : CTab) (P : Program) (w : World) (K : PySem.W.Frag) (mg : Str → Option Value) (base : Heap) (k : Nat) (x : Str) (df : DFx) : Prop where
  ex : ∃ (f : Addr) (fd : FuncData) (ps : List Str), FnOk P w K mg base (L2.CX P w) k f fd ps (spX ⟨K, mg, CT⟩ df) ∧ mg x = some (.ref f) ∧ PySem.W.keepIn K (.ref f) = true ∧ Binds K fd ps []
theorem CalX.of {CT : CTab} {P : Program} {w : World} {K : PySem.W.Frag} {mg : Str → Option Value} {base h : Heap} {k : Nat} {x : Str} {st : Stmt} {df : DFx} {ps : List Str} (Td : TopDef K x st) (X : K.In h) (G : h.Ns mainGlobals mg) (ok : ∀ (f : Addr) (fd : FuncData), Fun K x x st f fd → FnOk P w K mg base (L2.CX P w) k f fd ps (spX ⟨K, mg, CT⟩ df)) (hb : ∀ (f : Addr) (fd : FuncData), Fun K x x st f fd → Binds K fd ps []) : CalX CT P w K mg base k x df := by
  obtain ⟨f, fd, a, F⟩ := Td
  exact ⟨f, fd, ps, ok f fd F, PySem.W.mg_of X G a, F.kp, hb f fd F⟩
section
variable {CT : CTab} {X : Cx} {k j : Nat} {x : Str} {e : Expr} {es : List Expr} {p pos : Pos} {da : DA}
theorem ss_exprX {dx : DX} (h : SX CT X e dx) (hs : swapsWith e none pos.line X.env = pure false := by rfl) : SS CT X (.Expr e pos) (dDropX dx) := by
  obtain ⟨_, a, b⟩ := h
  exact ⟨_, ps_expr a hs, simDropX b⟩
end
/-! ### __init__ of an error class that keeps one thing, or two -/
/-! ### what a law's text needs of the error classes -/
structure XCat (g : G) (cs : List Nat) (caught : Nat → Bool) (x : Str) : Prop where
  ex : ∃ C0, g.mg x = some (.ref C0) ∧ ∀ c, cs.contains c = true → ∀ C, g.mg (g.CT c).1 = some (.ref C) → PySem.W.exmOne g.K (.ref C) (.ref C0) = some (caught c)
theorem ss_tryN {CT : CTab} {X : Cx} {x n : Str} {i : Nat} {cs : List Nat} {caught : Nat → Bool} {body suite : List Stmt} {b0 : Stmt} {np pos pos2 : Pos} {db dsu : DS} (A : XCat (gX CT X) cs caught x) (hg : Gl X x) (hs : X.stack = X.env :: X.outer) (hf : X.env.frame = some X.env.locals) (hN : X.N.Nodup) (hi : X.N[i]? = some n) (hln : X.env.kindOf n = some .local)
    (hb : ∀ (pn : List (Addr × Obj)) (xe : Value → Shared → Prop), PassesOwn (model X.prog X.w) X.A X.env xe → SSs CT (X.tr pn xe) body db) (hsu : ∀ (a : Addr) (pn : List (Addr × Obj)), SSs CT (X.suite a pn) (b0 :: suite) dsu) (hdb : (x == ("__debug__" : Str)) = false := by decide) :
    SS CT X (.Try body [.ExceptHandler (some (.Name x np)) (some n) (b0 :: suite) pos2] [] [] pos) (dTry i cs caught db dsu) := by
  obtain ⟨C0, h1, h2⟩ := A
  exact ss_try (cv := .ref C0) hs hf hN hi hln ⟨hg, hdb, .inl h1⟩ h2 hb hsu
structure XIsN (g : G) (cs : List Nat) (yes : Nat → Bool) (x : Str) : Prop where
  ex : ∃ C0, g.mg x = some (.ref C0) ∧ XIs g cs yes (.ref C0)
theorem se_isXN {CT : CTab} {X : Cx} {e : Expr} {x : Str} {p p2 pos : Pos} {de : DE} {cs : List Nat} {yes : Nat → Bool} (A : XIsN (gX CT X) cs yes x) (hg : Gl X "isinstance") (hm : X.mg "isinstance" = none) (hg2 : Gl X x) (h : SE CT X e de)
    (hdb : (x == ("__debug__" : Str)) = false := by decide) (hs1 : starEach [.Name x p2] X.env = (false, eval (.Name x p2) X.env) :: starEach [] X.env := by rfl)
    (he : starEach [e, .Name x p2] X.env = (false, eval e X.env) :: starEach [.Name x p2] X.env := by rfl) (hpl : (backTo pos (starEach [.Name x p2] X.env)).any (·.1) = false := by rfl) :
    SE CT X (.Call (.Name "isinstance" p) [e, .Name x p2] [] pos) (dIsX cs yes de) := by
  obtain ⟨C0, h1, h2⟩ := A
  exact se_isX h2 h1 hg hm hg2 h hdb hs1 he hpl
/-! ### forward -/
def FX (df : DFx) (ds : List D) (R : Rv → Prop) (E : Nat → List D → Prop) : Prop := ∃ z, df ds = some z ∧ match z with
  | .inl r => R r
  | .inr y => E y.1 y.2
theorem FX.mono {df : DFx} {ds : List D} {R R' : Rv → Prop} {E E' : Nat → List D → Prop} (h : FX df ds R E) (k : ∀ r, R r → R' r) (k2 : ∀ c xs, E c xs → E' c xs) : FX df ds R' E' := by
  obtain ⟨z, a, b⟩ := h
  cases z with
  | inl r => exact ⟨_, a, k r b⟩
  | inr y => exact ⟨_, a, k2 _ _ b⟩
/-- an expression that may raise: what of its value, what of its error -/
def WX1 (dx : DX) (env : Env) (Q : Vl → Env → Prop) (E : Nat → List D → Env → Prop) : Prop := ∃ z, dx env = some z ∧ match z with
  | .inl r => Q r.1 r.2
  | .inr r => E r.1.1 r.1.2 r.2
section
variable {env : Env} {Q : Vl → Env → Prop} {E : Nat → List D → Env → Prop} {QS : Out → Prop}
theorem ws_dropX {dx : DX} (h : WX1 dx env (fun l e1 => Nr (e1.take env.length) fun e2 => QS (.nx e2)) fun c xs e1 => Nr (e1.take env.length) fun e2 => QS (.xc c xs e2)) : WS (dDropX dx) env QS := by
  obtain ⟨z, a, k⟩ := h
  cases z with
  | inl r => exact ⟨_, by unfold dDropX; rw [a]; rfl, k⟩
  | inr r => exact ⟨_, by unfold dDropX; rw [a]; rfl, k⟩
theorem ws_raise0 {c : Nat} (h : QS (.xc c [] env)) : WS (dRaise0 c) env QS := ⟨_, rfl, h⟩
/-- what of a try's body -/
def TrK (i : Nat) (cs : List Nat) (caught : Nat → Bool) (suite : DS) (QS : Out → Prop) : Out → Prop
  | .xc c xs e => cs.contains c = true ∧ Br (caught c) (Nr (e.set i (some (.val (.exc c xs)))) fun e2 => WS suite e2 fun o => Wp (endOut i o) QS) (QS (.xc c xs e))
  | o => QS o
theorem ws_try {i : Nat} {cs : List Nat} {caught : Nat → Bool} {body suite : DS} (h : WS body env (TrK i cs caught suite QS)) : WS (dTry i cs caught body suite) env QS := by
  obtain ⟨o, a, k⟩ := h
  cases o with
  | nx e => exact ⟨_, by unfold dTry; rw [a]; rfl, k⟩
  | rt l e => exact ⟨_, by unfold dTry; rw [a]; rfl, k⟩
  | bk e => exact ⟨_, by unfold dTry; rw [a]; rfl, k⟩
  | ct e => exact ⟨_, by unfold dTry; rw [a]; rfl, k⟩
  | xc c xs e =>
    obtain ⟨c1, y, n⟩ := k
    cases q : caught c with
    | true =>
      obtain ⟨o2, b, o3, d, k3⟩ := y q
      refine ⟨o3, ?_, k3⟩
      unfold dTry
      rw [a, Option.bind_some]
      show (if cs.contains c = true then (if caught c = true then (suite (e.set i (some (.val (.exc c xs))))).bind (endOut i) else some (.xc c xs e)) else none) = some o3
      rw [if_pos c1, if_pos q, b]
      exact d
    | false =>
      refine ⟨_, ?_, n q⟩
      unfold dTry
      rw [a, Option.bind_some]
      show (if cs.contains c = true then (if caught c = true then (suite (e.set i (some (.val (.exc c xs))))).bind (endOut i) else some (.xc c xs e)) else none) = _
      rw [if_pos c1, if_neg (by rw [q]; exact Bool.false_ne_true)]
theorem we_isX {cs : List Nat} {yes : Nat → Bool} {de : DE} (h : WE de env fun l e1 => WLk e1 l fun d => Wp (match d with | .exc c _ => if cs.contains c = true then some (yes c) else none | .non => some false | _ => none) fun b => Q (.val (.bl b)) e1) : WE (dIsX cs yes de) env Q := by
  obtain ⟨l, e1, a, d, b, x, g, q⟩ := h
  refine ⟨_, _, ?_, q⟩
  unfold dIsX
  rw [a, Option.bind_some, b, Option.bind_some]
  cases d with
  | exc c fs =>
    simp only at g ⊢
    by_cases y : cs.contains c = true
    · rw [if_pos y] at g ⊢
      cases g
      rfl
    · rw [if_neg y] at g
      cases g
  | non => cases g; rfl
  | _ => cases g
end
end Sim
namespace Sim
open PySem PySem.Spec PyProof.Rows L2
/-! ### xs.count(True), of truths -/
def rCnt (K : PySem.W.Frag) : V → List V → Hp → VK → Prop := fun x xs H Q => ∃ (l : Addr) (bs : List Bool) (b : Bool), x = .ref l ∧ xs = [.bl b] ∧ SqL K H l (bs.map V.bl) ∧ Q (.int ((bs.count b : Nat) : Int)) H
theorem reads_bls {h : Heap} : ∀ {bs : List Bool} {us : List Value}, Vals (bs.map V.bl) us → ReadsAll h us (bs.map PyData.bool) []
  | [], _, .nil => .nil
  | b :: bs, _, .cons r t => by
    cases r
    exact ReadsAll.cons (as := []) (.bool b) (reads_bls t)
theorem plain_bls : ∀ bs : List Bool, PyData.plainAll (bs.map PyData.bool) = true
  | [] => rfl
  | _ :: bs => plain_bls bs
theorem count_bools (b : Bool) : ∀ bs : List Bool, (bs.map PyData.bool).countP (fun y => PyData.eqv y (.bool b)) = bs.count b
  | [] => rfl
  | c :: bs => by
    rw [List.map_cons, List.countP_cons, count_bools b bs, List.count_cons]
    cases b <;> cases c <;> simp [PyData.eqv]
theorem mt_cnt {X : Cx} (hu : X.A.units + 64 < cLine) : MtR X "list.count" (rCnt X.K) := by
  intro pins s σ H x xs v us Q I rx rv want
  obtain ⟨l, bs, b, rfl, rfl, hl, q⟩ := want
  cases rx
  obtain ⟨u, rfl, ru⟩ := rv.one
  cases ru
  obtain ⟨its, r, pl, hz⟩ := I.list hl
  refine PySem.SeqAt.count_list_data (vs := its.toArray) (xs := bs.map PyData.bool) (d := .bool b) pl.isList (by simpa using reads_bls r) (.bool b) (plain_bls bs) rfl (by show _ + 1 + min _ 0 < _; omega) ⟨.int _, H, I.tok _, ⟨_, by rw [count_bools]⟩, q⟩
def boolsOf : List D → Option (List Bool)
  | [] => some []
  | .bl b :: ds => (boolsOf ds).map fun bs => b :: bs
  | _ => none
theorem bools_vals {g : G} {F : Hp} : ∀ {vs : List V} {ds : List D} {bs : List Bool}, IsL g F vs ds → boolsOf ds = some bs → vs = bs.map V.bl
  | _, _, _, .nil, e => by cases e; rfl
  | _, _, _, .cons (d := d) h t, e => by
    cases h with
    | bl b =>
      obtain ⟨bs', e1, rfl⟩ := Option.map_eq_some_iff.mp (show (boolsOf _).map _ = some _ from e)
      rw [bools_vals t e1]
      rfl
    | _ => cases e
def dCntT (b : Bool) (de : DE) : DE := fun env => (de env).bind fun r => (look r.2 r.1).bind fun d => match d with
  | .lst ds => (boolsOf ds).bind fun bs => some (.val (.int ((bs.count b : Nat) : Int)), r.2)
  | _ => none
theorem se_cntT {CT : CTab} {X : Cx} {o : Expr} {b : Bool} {j : Nat} {apos cpos p : Pos} {de : DE} (hu : X.A.units + 64 < cLine) (ho : SE CT X o de) (hbase : attributeBase o "count" X.env (eval o X.env) = eval o X.env := by rfl)
    (hfew : ((backTo cpos (starEach [.Constant (.bool b) j p] X.env)).all (fun x => !x.1) && (backToKw cpos (keywordEach [] X.env)).all (fun x => x.1.isSome)
      && decide (([.Constant (.bool b) j p] : List Expr).length + ([] : List Keyword).length + (if ([] : List Keyword).isEmpty then 0 else 1) < 30)) = true := by rfl)
    (hline : (apos.endLine == cpos.line) = true := by rfl) (hst : starEach [.Constant (.bool b) j p] X.env = (false, eval (.Constant (.bool b) j p) X.env) :: starEach [] X.env := by rfl) (hplain : (backTo cpos (starEach [] X.env)).any (·.1) = false := by rfl) :
    SE CT X (.Call (.Attribute o "count" apos) [.Constant (.bool b) j p] [] cpos) (dCntT b de) := by
  obtain ⟨_, a0, b0⟩ := ho
  refine ⟨_, pe_bm PySem.F.plainAttrs_list PySem.F.slot_list_count PySem.F.type_list_count (mt_cnt hu) a0 (pa_cons pe_bl pa_nil hst) hbase hfew hline hst hplain, fun B F H σ ρ env Q w l p E s => ?_⟩
  refine b0 B F H σ ρ env _ w l p E (s.bind.mono fun r1 s1 F1 H1 x ρ1 w1 x1 p1 E1 i1 => ?_)
  obtain ⟨d, ed, s2⟩ := s1.bind
  have vw := look_ok E1 i1 ed
  cases d with
  | lst ds =>
    obtain ⟨a, vs, rfl, h1, l1⟩ := viewL w1.sub vw
    obtain ⟨bs, eb, z, ez, k⟩ := s2.bind
    cases ez
    rw [bools_vals l1 eb] at h1
    exact ⟨.inl ⟨rfl, _, h1⟩, a, bs, b, rfl, rfl, h1, k F1 H1 _ ρ1 w1 x1 p1 E1 (.val (.int _))⟩
  | _ => exact (sat_none s2).elim
end Sim
namespace Sim
open PySem PySem.Spec PyProof.Rows L2
/-! ### what the top has written: error classes -/
theorem excC {K : PySem.W.Frag} {C : Addr} (a : PySem.W.findIn K (.ref C) "__getattribute__" = some (some (.builtin "BaseException.__getattribute__"))) (b : PySem.W.findIn K (.ref C) "__getattr__" = some none) (c : PySem.W.subIn K (.ref C) (.type "BaseException") = some true) (d : PySem.W.hasDictIn K C = true)
    (e : PySem.W.findIn K (.ref C) "__class__" = some (some (.builtin "object.__class__"))) (f : PySem.W.specialIn K (.builtin "object.__class__") "__get__" = some (some (.builtin "getset_descriptor.__get__"))) (g : PySem.W.takesIn K (.builtin "object.__class__") = some true) (h : PySem.W.mroIn K C (.type "object") = some true) : ExcC K C := ⟨a, b, c, d, e, f, g, h⟩
structure XInit (K : PySem.W.Frag) (C : Addr) (qual : Str) (st : Stmt) : Prop where
  ex : ∃ (f : Addr) (fd : FuncData), PySem.W.findIn K (.ref C) "__init__" = some (some (.ref f)) ∧ PySem.W.typeIn K (.ref f) = some (.type "function") ∧ Fun K "__init__" qual st f fd
/-! ### more forward steps -/
theorem sq_xc {b : DS} {QS : Out → Prop} {e : Env} {c : Nat} {xs : List D} (k : QS (.xc c xs e)) : Sq b QS (.xc c xs e) := k
theorem tk_nx {i : Nat} {cs : List Nat} {caught : Nat → Bool} {suite : DS} {QS : Out → Prop} {e : Env} (k : QS (.nx e)) : TrK i cs caught suite QS (.nx e) := k
theorem tk_xc {i : Nat} {cs : List Nat} {caught : Nat → Bool} {suite : DS} {QS : Out → Prop} {c : Nat} {xs : List D} {e : Env} (h : cs.contains c = true) (h2 : caught c = true) (k : Nr (e.set i (some (.val (.exc c xs)))) fun e2 => WS suite e2 fun o => Wp (endOut i o) QS) : TrK i cs caught suite QS (.xc c xs e) :=
  ⟨h, fun _ => k, fun z => by rw [h2] at z; cases z⟩
theorem we_cntT {b : Bool} {de : DE} {env : Env} {Q : Vl → Env → Prop} (h : WE de env fun l e1 => WLk e1 l fun d => Wp (match d with | .lst ds => boolsOf ds | _ => none) fun bs => Q (.val (.int ((bs.count b : Nat) : Int))) e1) : WE (dCntT b de) env Q := by
  obtain ⟨l, e1, a, d, k, bs, g, q⟩ := h
  refine ⟨_, _, ?_, q⟩
  unfold dCntT
  rw [a, Option.bind_some, k, Option.bind_some]
  cases d with
  | lst ds =>
    show (boolsOf ds).bind _ = _
    rw [show boolsOf ds = some bs from g]
    rfl
  | _ => cases g
end Sim
namespace Sim
open PySem PySem.Spec PyProof.Rows L2
/-! ### signs and names, as data -/
def signOk (c : Nat) : Bool := decide (32 ≤ c) && decide (c ≤ 126)
def SignsOk (L : List Nat) : Prop := ∀ c ∈ L, signOk c = true
def signsB (z : Str) : Bool := between 32 126 z
theorem signsB_ok {L : List Nat} (h : SignsOk L) : signsB (mkS L) = true := List.all_eq_true.mpr fun c hc => h c hc
def nameOk (z : Str) : Bool := decide (1 ≤ z.length) && decide (z.length ≤ 6) && (TL.tl z).all fun c => decide (97 ≤ c) && decide (c ≤ 122)
def smallW : Str := "abcdefghijklmnopqrstuvwxyz"
def tailsW : List Str := ["", "x", "qx", "qxq", "qxqx", "xxqxq"]
def ownW : List Str := ["shape", "field", "keys", "source", "levels", "boxes", "flags", "step", "line", "total", "detail", "set", "on", "off", "leave", "ask", "under", "same", "over", "none", "text", "number", "times", "land", "out", "end"]
def strA : Str := "shape field keys source levels boxes flags step line total detail set on off leave"
def strB : Str := " ask under same over none text number times land out end"
theorem splitW : Txt.split (strA ++ strB) " " = ownW := by decide +kernel
theorem splitA : dAddX (.str strA) (.str strB) = some (.val (.str (strA ++ strB))) := by
  rw [addX_str, if_pos (by rw [LIM_eq]; decide +kernel)]
theorem splitD : dSplit (strA ++ strB) [.str " "] = some (.new (.lst (ownW.map D.str))) := by
  show (if ((" " : Str).length == 0) = false ∧ (strA ++ strB).length + 2 ≤ LIM then some (Rs.new (.lst ((Txt.split (strA ++ strB) " ").map D.str))) else none) = _
  rw [splitW, if_pos (by rw [LIM_eq]; decide +kernel)]
def nameG (l t k : Int) : Str := mkS [97 + ((l + 5 * k).fmod 26).toNat] ++ (tailsW[((t + k * k).fmod 6).toNat]?).getD ""
theorem nameG_all : ∀ (a : Fin 26) (b : Fin 6), nameOk (mkS [97 + a.val] ++ (tailsW[b.val]?).getD "") = true := by decide +kernel
theorem nameG_ok (l t k : Int) : nameOk (nameG l t k) = true := by
  have a1 := Int.fmod_nonneg_of_pos (l + 5 * k) (show (0 : Int) < 26 by decide)
  have a2 := Int.fmod_lt_of_pos (l + 5 * k) (show (0 : Int) < 26 by decide)
  have b1 := Int.fmod_nonneg_of_pos (t + k * k) (show (0 : Int) < 6 by decide)
  have b2 := Int.fmod_lt_of_pos (t + k * k) (show (0 : Int) < 6 by decide)
  exact nameG_all ⟨((l + 5 * k).fmod 26).toNat, by omega⟩ ⟨((t + k * k).fmod 6).toNat, by omega⟩
theorem nameG_inj {l t : Int} {j k : Nat} (hj : j < 26) (hk : k < 26) (h : nameG l t j = nameG l t k) : j = k := by
  have e : TL.tl (nameG l t j) = TL.tl (nameG l t k) := by rw [h]
  unfold nameG at e
  rw [TL.tl_append, TL.tl_append, tl_mk, tl_mk] at e
  have e2 := (List.cons.inj e).1
  rw [Int.fmod_eq_emod_of_nonneg _ (by decide), Int.fmod_eq_emod_of_nonneg _ (by decide)] at e2
  omega
theorem smallW_tl : TL.tl smallW = (List.range 26).map (97 + ·) := by decide +kernel
theorem ix_str {z : Str} {i : Int} (h0 : 0 ≤ i) (h1 : i < z.length) (hz : z.length ≤ 10000) : ∃ c, (TL.tl z)[i.toNat]? = some c ∧ dIxA (.str z) (.int i) = some (.val (.str (mkS [c]))) := by
  obtain ⟨k, rfl⟩ := Int.eq_ofNat_of_zero_le h0
  have hk : k < (TL.tl z).length := by rw [tl_len]; omega
  refine ⟨(TL.tl z)[k], by show (TL.tl z)[k]? = _; rw [List.getElem?_eq_getElem hk], ?_⟩
  show (if z.length ≤ LIM then (atI (TL.tl z) (k : Int)).map fun c => Rs.val (.str (mkS [c])) else none) = _
  rw [if_pos (le_LIM (by omega))]
  have : atI (TL.tl z) (k : Int) = some (TL.tl z)[k] := by
    simp only [L2.atI, L2.ixN]
    rw [if_pos (by omega), if_pos (by omega), Option.bind_some, Int.toNat_natCast, List.getElem?_eq_getElem hk]
  rw [this]
  rfl
theorem ix_small {i : Int} (h0 : 0 ≤ i) (h1 : i < 26) : dIxA (.str smallW) (.int i) = some (.val (.str (mkS [97 + i.toNat]))) := by
  have hl : smallW.length = 26 := by decide +kernel
  obtain ⟨c, hc, e⟩ := ix_str (z := smallW) h0 (by rw [hl]; exact h1) (by rw [hl]; decide)
  rw [smallW_tl, List.getElem?_map, List.getElem?_range (by omega)] at hc
  cases hc
  exact e
theorem ix_tails {i : Int} (h0 : 0 ≤ i) (h1 : i < 6) : dIxA (.lst (tailsW.map D.str)) (.int i) = some (.val (.str ((tailsW[i.toNat]?).getD ""))) := by
  obtain ⟨y, _, e1, _, e2⟩ := ix_at (tailsW.map D.str) i h0 (by rw [List.length_map]; exact h1)
  rw [e2]
  rw [List.getElem?_map] at e1
  obtain ⟨z, hz, rfl⟩ := Option.map_eq_some_iff.mp e1
  rw [hz]
  rfl
theorem tails_len : ∀ (b : Fin 6), ((tailsW[b.val]?).getD "").length ≤ 5 := by decide +kernel
theorem add_nameG (l t k : Int) : dAddX (.str (mkS [97 + ((l + 5 * k).fmod 26).toNat])) (.str ((tailsW[((t + k * k).fmod 6).toNat]?).getD "")) = some (.val (.str (nameG l t k))) := by
  have b1 := Int.fmod_nonneg_of_pos (t + k * k) (show (0 : Int) < 6 by decide)
  have b2 := Int.fmod_lt_of_pos (t + k * k) (show (0 : Int) < 6 by decide)
  have b3 : ((tailsW[((t + k * k).fmod 6).toNat]?).getD "").length ≤ 5 := tails_len ⟨((t + k * k).fmod 6).toNat, by omega⟩
  rw [addX_str, if_pos (le_LIM (by rw [mk_len]; show 1 + _ ≤ _; omega))]
  rfl
theorem cut_to {α : Type} (xs : List α) (k : Nat) : cutD xs none (some (k : Int)) = xs.take k := by
  unfold cutD
  rw [HT.sIx_none, HT.sIx_nat, List.drop_zero, Nat.sub_zero]
  by_cases h : k ≤ xs.length
  · rw [Nat.min_eq_left h]
  · rw [Nat.min_eq_right (by omega), List.take_of_length_le (Nat.le_refl _), List.take_of_length_le (by omega)]
theorem cut_fr {α : Type} (xs : List α) (k : Nat) : cutD xs (some (k : Int)) none = xs.drop k := by
  unfold cutD
  rw [HT.sIx_none, HT.sIx_nat]
  by_cases h : k ≤ xs.length
  · rw [Nat.min_eq_left h, List.take_of_length_le (by rw [List.length_drop]; omega)]
  · rw [Nat.min_eq_right (by omega), Nat.sub_self, List.take_zero, List.drop_of_length_le (by omega)]
def ownR (l : Nat) : List Str := ownW.drop l ++ ownW.take l
theorem ownR_ok : ∀ l : Fin 26, (ownR l.val).length = 26 ∧ (ownR l.val).Nodup ∧ ∀ z ∈ ownR l.val, nameOk z = true := by decide +kernel
/-- as many names as are asked for -/
structure Names (m : Nat) (zs : List Str) : Prop where
  len : zs.length = m
  nodup : zs.Nodup
  ok : ∀ z ∈ zs, nameOk z = true
theorem names_own {l m : Nat} (hl : l < 26) (hm : m ≤ 26) : Names m ((ownR l).take m) := by
  obtain ⟨a, b, c⟩ := ownR_ok ⟨l, hl⟩
  exact ⟨by rw [List.length_take, a]; exact Nat.min_eq_left hm, b.sublist (List.take_sublist ..), fun z h => c z (List.mem_of_mem_take h)⟩
theorem names_made {l t : Int} {m : Nat} (hm : m ≤ 26) : Names m ((List.range m).map fun (k : Nat) => nameG l t (k : Int)) := by
  refine ⟨by rw [List.length_map, List.length_range], ?_, fun z h => ?_⟩
  · refine List.pairwise_map.mpr (List.Pairwise.imp_of_mem ?_ List.nodup_range)
    intro a b ha hb ne e
    exact ne (nameG_inj (by have := List.mem_range.mp ha; omega) (by have := List.mem_range.mp hb; omega) e)
  · obtain ⟨k, _, rfl⟩ := List.mem_map.mp h
    exact nameG_ok _ _ _

/-! ### lengths, slices, numbers in signs -/
theorem len_v {z : Str} (h : z.length ≤ 10000) : dLen [.str z] = some (.val (.int z.length)) := if_pos (le_LIM (by omega))
theorem lenL {L : List Nat} (h : L.length ≤ 10000) : dLen [.str (mkS L)] = some (.val (.int L.length)) := by
  rw [len_v (by rw [mk_len]; exact h), mk_len]
theorem tilde_is : (Str.ofString "~") = mkS [126] := by decide +kernel
theorem a_is : (Str.ofString "a") = mkS [97] := by decide +kernel
theorem z_is : (Str.ofString "z") = mkS [122] := by decide +kernel
/-! ### shapes, as data -/
def kindS (b : Bool) : Str := if b then "text" else "number"
structure Fd where
  nm : Str
  at_ : Int
  lg : Int
  tx : Bool
def fdD (f : Fd) : D := .tup [.str f.nm, .int f.at_, .int f.lg, .str (kindS f.tx)]
def markD : Option (Int × Nat) → D
  | none => .non
  | some (c, g) => .tup [.int c, .str (mkS [g])]
def mkI : Option (Int × Nat) → List Int
  | none => []
  | some (c, _) => [c]
def takI (fs : List Fd) : List Int := (fs.map fun f => rngI f.at_ (f.at_ + f.lg)).flatten
structure FdOk (f : Fd) : Prop where
  nm : nameOk f.nm = true
  lg1 : 1 ≤ f.lg
  lg : f.lg ≤ if f.tx then 20 else 9
  c1 : 1 ≤ f.at_
  c60 : f.at_ + f.lg ≤ 61
structure ShapeOk (nm : Str) (mk : Option (Int × Nat)) (fs : List Fd) : Prop where
  name : nameOk nm = true
  mark : ∀ c g, mk = some (c, g) → 1 ≤ c ∧ c ≤ 60 ∧ signOk g = true
  few : fs.length ≤ 8
  each : ∀ f ∈ fs, FdOk f
  nodup : (fs.map Fd.nm).Nodup
  apart : (mkI mk ++ takI fs).Nodup
theorem FdOk.le20 {f : Fd} (h : FdOk f) : f.lg ≤ 20 := by
  have := h.lg
  split at this <;> omega
theorem takI_len {fs : List Fd} (h : ∀ f ∈ fs, f.lg ≤ 20) : (takI fs).length ≤ 20 * fs.length := by
  induction fs with
  | nil => exact Nat.le_refl _
  | cons f fs ih =>
    have e : takI (f :: fs) = rngI f.at_ (f.at_ + f.lg) ++ takI fs := rfl
    have := ih fun g hg => h g (List.mem_cons_of_mem _ hg)
    have := h f (List.mem_cons_self ..)
    rw [e, List.length_append, rngI_len, List.length_cons]
    omega
theorem takI_snoc (gs : List Fd) (f : Fd) : takI (gs ++ [f]) = takI gs ++ rngI f.at_ (f.at_ + f.lg) := by
  unfold takI
  rw [List.map_append, List.flatten_append]
  simp
theorem rngI_nodup (lo hi : Int) : (rngI lo hi).Nodup := by
  unfold rngI
  exact List.Pairwise.map _ (fun a b q w => q (by omega)) List.nodup_range
theorem uniq_nodup {κ : Type} [DecidableEq κ] (ks : List κ) (h : ks.Nodup) : uniq ks = ks := by
  have gen : ∀ (ks acc : List κ), (acc ++ ks).Nodup → List.foldl addK acc ks = acc ++ ks := by
    intro ks
    induction ks with
    | nil => intro acc _; simp
    | cons k ks ih =>
      intro acc hn
      have nk : k ∉ acc := fun q => (List.nodup_append.mp hn).2.2 k q k (by simp) rfl
      have e : addK acc k = acc ++ [k] := by
        unfold addK
        simp [nk]
      show List.foldl addK (addK acc k) ks = _
      rw [e, ih (acc ++ [k]) (by rw [List.append_assoc]; exact hn), List.append_assoc]
      rfl
  exact gen ks [] h
theorem keysOf_strs : ∀ zs : List Str, keysOf (zs.map D.str) = some (zs.map Sum.inr)
  | [] => rfl
  | z :: zs => by
    show (some (Sum.inr z)).bind (fun k => (keysOf (zs.map D.str)).map fun ks => k :: ks) = _
    rw [keysOf_strs zs]
    rfl
theorem keysOf_ints : ∀ zs : List Int, keysOf (zs.map D.int) = some (zs.map Sum.inl)
  | [] => rfl
  | z :: zs => by
    show (some (Sum.inl z)).bind (fun k => (keysOf (zs.map D.int)).map fun ks => k :: ks) = _
    rw [keysOf_ints zs]
    rfl
theorem longest_ok (b : Bool) : ([("text", 20), ("number", 9)] : List (Str × Int)).lookup (kindS b) = some (if b then 20 else 9) := by
  cases b
  · show List.lookup ("number" : Str) _ = some 9
    decide +kernel
  · show List.lookup ("text" : Str) _ = some 20
    decide +kernel
/-! ### records, as data -/
structure Plain (d : D) : Prop where
  ins : isIns d = none
  exc : isExc d = false
  str : ∀ z, d = .str z → z.length ≤ 10000
theorem SignsOk.take {L : List Nat} (h : SignsOk L) (k : Nat) : SignsOk (L.take k) := fun c hc => h c (List.mem_of_mem_take hc)
theorem mulS_M (c : Nat) {n : Int} (h0 : 0 ≤ n) (h1 : n ≤ 1000) : dMulM (.str (mkS [c])) (.int n) = some (.val (.str (mkS (List.replicate n.toNat c)))) := mulS_v c h0 h1
/-- kinds and lengths by name -/
structure Form (kvs : KD) (z : Str) : Prop where
  ex : ∃ (b : Bool) (l : Int), valK kvs (.inr z) = some (.tup [.str (kindS b), .int l]) ∧ 1 ≤ l ∧ l ≤ if b = true then 20 else 9
theorem takI_perm {fs gs : List Fd} (h : fs.Perm gs) : (takI fs).Perm (takI gs) := (h.map _).flatten
structure FldsOk (fs : List Fd) (zs : List Str) : Prop where
  few : fs.length ≤ zs.length
  each : ∀ f ∈ fs, FdOk f
  sub : ∀ f ∈ fs, f.nm ∈ zs
  nodup : (fs.map Fd.nm).Nodup
  apart : (takI fs).Nodup
  hi : ∀ c ∈ takI fs, 1 ≤ c ∧ c ≤ 59
end Sim
namespace Sim
open PySem PySem.Spec PyProof.Rows L2
/-! ### more forward steps -/
def WRb (r : Option Rs) (K : Bool → Prop) : Prop := ∃ b, r = some (.val (.bl b)) ∧ K b
theorem wrb {r : Option Rs} {b : Bool} {K : Bool → Prop} (h : r = some (.val (.bl b))) (k : K b) : WRb r K := ⟨b, h, k⟩
def intOf : D → Option Int
  | .int i => some i
  | _ => none
def keysL : D → Option (List L2.Key)
  | .lst xs => keysOf xs
  | _ => none
theorem betw_lc {A B : Str} {a b i : Nat} (hA : A = mkS [a]) (hB : B = mkS [b]) {de : DE} {env : Env} {z : Str} (hz : z.length ≤ 10000) (h : de env = some (.val (.str z), env)) (hi : i < env.length) (hn : env[i]? = some none) :
    dLc [i] (diSeqS de) (.nm i) dtYes (dChain dLe dLe (dC (.str A)) (dVar i) (dC (.str B))) env = some (.at env.length, env ++ [some (.own false (.lst ((TL.tl z).map fun c => D.bl (decide (a ≤ c) && decide (c ≤ b)))))]) := by
  have w : wipesE env [i] = env := by
    show (env.set i none) = env
    apply List.ext_getElem?
    intro k
    rw [List.getElem?_set]
    by_cases q : i = k
    · subst q
      rw [if_pos rfl, if_pos hi, hn]
    · rw [if_neg q]
  have st : ∀ c : Nat, lcStep [i] env.length (.nm i) dtYes (dChain dLe dLe (dC (.str A)) (dVar i) (dC (.str B))) (.str (mkS [c])) env = some (some (.bl (decide (a ≤ c) && decide (c ≤ b))), env) := fun c => by
    have hv : dVar i (env.set i (some (.val (.str (mkS [c]))))) = some (.val (.str (mkS [c])), env.set i (some (.val (.str (mkS [c]))))) := by
      unfold dVar
      rw [List.getElem?_set, if_pos rfl, if_pos hi]
    show ((dd (dChain dLe dLe (dC (.str A)) (dVar i) (dC (.str B))) (env.set i (some (.val (.str (mkS [c])))))).bind fun y => some (some y.1, wipesE (y.2.take env.length) [i])) = _
    unfold dd
    rw [betw_v hA hB hv]
    show some (some (D.bl (decide (a ≤ c) && decide (c ≤ b))), ((env.set i (some (Sl.val (.str (mkS [c]))))).take env.length).set i none) = _
    rw [List.take_of_length_le (by rw [List.length_set]; exact Nat.le_refl _), List.set_set]
    exact congrArg (fun e => some (some (D.bl (decide (a ≤ c) && decide (c ≤ b))), e)) w
  have lp := lc_map (own := [i]) (m := env.length) (p := .nm i) (dt := dtYes) (de := dChain dLe dLe (dC (.str A)) (dVar i) (dC (.str B))) (f := fun d => match d with | .str y => D.bl (between a b y) | d => d) (env := env) (xs := signsOf z) (by
      unfold signsOf
      rw [List.length_map]
      show (TL.tl z).length ≤ _
      rw [tl_len]
      exact le_LIM (by omega)) (fun x hx => by
    unfold signsOf at hx
    obtain ⟨c, _, rfl⟩ := List.mem_map.mp hx
    refine (st c).trans ?_
    show _ = some (some (D.bl (([c] : List Nat).all fun c => decide (a ≤ c) && decide (c ≤ b))), env)
    rw [List.all_cons, List.all_nil, Bool.and_true])
  have em : (signsOf z).map (fun d => match d with | .str y => D.bl (between a b y) | d => d) = (TL.tl z).map fun c => D.bl (decide (a ≤ c) && decide (c ≤ b)) := by
    unfold signsOf
    rw [List.map_map]
    refine List.map_congr_left fun c _ => ?_
    show D.bl (([c] : List Nat).all fun c => decide (a ≤ c) && decide (c ≤ b)) = _
    rw [List.all_cons, List.all_nil, Bool.and_true]
  rw [em] at lp
  have re : restore env [i] env = env := by
    show env.set i (match env[i]? with | some (some (.val d)) => some (.val d) | _ => none) = env
    rw [hn]
    exact w
  have lv := lc_v (own := [i]) (di := diSeqS de) (p := .nm i) (dt := dtYes) (de := dChain dLe dLe (dC (.str A)) (dVar i) (dC (.str B))) (env := env) (e1 := env) (e := env) (xs := signsOf z) (seqS_v h rfl rfl) (by rw [w]; exact lp)
  rw [re] at lv
  exact lv
section
variable {env e e' : Env} {Q : Vl → Env → Prop} {QS : Out → Prop} {QI : List D → Env → Prop}
theorem we_chain {f f' : D → D → Option Rs} {da db dc : DE} (h : WE da env fun l1 e1 => WE db e1 fun l2 e2 => WLk e2 l1 fun x => WLk e2 l2 fun y => WRb (f x y) fun b => Br b (WE dc e2 fun l3 e3 => WLk e3 l2 fun y' => WLk e3 l3 fun w => WRs (f' y' w) e3 Q) (Q (.val (.bl false)) e2)) : WE (dChain f f' da db dc) env Q := by
  obtain ⟨l1, e1, a, l2, e2, b, x, c, y, d, t, g, h1, h2⟩ := h
  cases t with
  | true =>
    obtain ⟨l3, e3, a3, y', c3, w, d3, rs, g3, k⟩ := h1 rfl
    refine ⟨_, _, ?_, k⟩
    unfold dChain
    rw [a, Option.bind_some, b, Option.bind_some, c, Option.bind_some, d, Option.bind_some, g, Option.bind_some]
    simp only
    rw [a3, Option.bind_some, c3, Option.bind_some, d3, Option.bind_some, g3]
    rfl
  | false =>
    refine ⟨_, _, ?_, h2 rfl⟩
    unfold dChain
    rw [a, Option.bind_some, b, Option.bind_some, c, Option.bind_some, d, Option.bind_some, g, Option.bind_some]
theorem we_lenSet {de : DE} (h : WE de env fun l e1 => WLk e1 l fun d => Wp (keysL d) fun ks => ks.length ≤ 4000 ∧ Q (.val (.int ((uniq ks).length : Nat))) e1) : WE (dLenSet de) env Q := by
  obtain ⟨l, e1, a, d, b, ks, c, hl, k⟩ := h
  refine ⟨_, _, ?_, k⟩
  unfold dLenSet
  rw [a, Option.bind_some, b, Option.bind_some]
  cases d with
  | lst xs =>
    simp only
    rw [show keysOf xs = some ks from c, Option.bind_some, if_pos hl]
  | _ => cases c
theorem we_listR2 {da db : DE} (h : WE da env fun l e1 => WE db e1 fun l2 e2 => WLk e2 l fun x => WLk e2 l2 fun y => Wp (intOf x) fun i => Wp (intOf y) fun j => (okR i = true ∧ okR j = true ∧ (j - i).toNat ≤ LIM) ∧ WRs (some (.new (.lst (rngD i j)))) e2 Q) : WE (dListR2 da db) env Q := by
  obtain ⟨l, e1, a, l2, e2, a2, x, b, y, b2, i, c, j, c2, hj, rs, g, k⟩ := h
  cases g
  refine ⟨_, _, ?_, k⟩
  unfold dListR2
  rw [a, Option.bind_some, a2, Option.bind_some, b, Option.bind_some, b2, Option.bind_some]
  cases x <;> cases c
  cases y <;> cases c2
  simp only
  rw [if_pos hj]
theorem we_ext {d0 da : DE} (h : WE d0 env fun l0 e0 => Wp (atOf l0) fun j => Wp (lstAt e0 j) fun _ => WE da e0 fun l1 e1 => Wp (atOf l1) fun jv => Wp (lstAt e1 j) fun px => Wp (lstAt e1 jv) fun py => (j ≠ jv ∧ px.2.length + py.2.length ≤ LIM) ∧ Nr (e1.set j (some (.own px.1 (.lst (px.2 ++ py.2))))) (Q (.val .non))) : WE (dExt d0 da) env Q := by
  obtain ⟨l0, e0, a, j, b, p0, c, l1, e1, a1, jv, b1, px, c1, py, c2, hj, k⟩ := h
  refine ⟨_, _, ?_, k⟩
  unfold dExt
  rw [a, Option.bind_some, b, Option.bind_some, c, Option.bind_some, a1, Option.bind_some, b1, Option.bind_some, c1, Option.bind_some, c2, Option.bind_some, if_pos hj]
theorem ws_setF {c k : Nat} {d0 de : DE} (h : WE de env fun l e1 => WFc l e1 fun d e2 => WE d0 e2 fun l0 e3 => Wp (atOf l0) fun j => Wp (ownAt e3 j) fun po => Wp (setF c k d po.2) fun o => Nr ((e3.set j (some (.own po.1 o))).take env.length) fun e4 => QS (.nx e4)) : WS (dSetF c k d0 de) env QS := by
  obtain ⟨l, e1, a, d, e2, b, l0, e3, a0, j, b0, po, c1, o, g, k⟩ := h
  exact ⟨_, by unfold dSetF dd; rw [a, Option.bind_some, b, Option.bind_some, a0, Option.bind_some, b0, Option.bind_some, c1, Option.bind_some, g]; rfl, k⟩
theorem we_inG {neg : Bool} {kv : List (Str × Int)} {da : DE} (h : WE da env fun l e1 => WLk e1 l fun x => WRs (gIn neg kv x) e1 Q) : WE (dInG neg kv da) env Q := we_d1 h
theorem we_ixG {kv : List (Str × Int)} {da : DE} (h : WE da env fun l e1 => WLk e1 l fun x => WRs (gIx kv x) e1 Q) : WE (dIxG kv da) env Q := we_d1 h
/-- all([A <= sign <= B for sign in text]), the text a variable -/
theorem we_allb {A B : Str} {a b i j : Nat} {z : Str} (hA : A = mkS [a]) (hB : B = mkS [b]) (hz : z.length ≤ 10000) (h : env[j]? = some (some (.val (.str z)))) (hn : env[i]? = some none) (k : Nr (env ++ [some (.own false (.lst ((TL.tl z).map fun c => D.bl (decide (a ≤ c) && decide (c ≤ b)))))]) (Q (.val (.bl (between a b z))))) :
    WE (dLc [i] (diSeqS (dVar j)) (.nm i) dtYes (dChain dLe dLe (dC (.str A)) (dVar i) (dC (.str B)))) env fun l e1 => WA dNil e1 fun ls e2 => WLs e2 (l :: ls) fun xs => WRs (dAll xs) e2 Q := by
  refine ⟨_, _, betw_lc hA hB hz (by unfold dVar; rw [h]) (List.getElem?_eq_some_iff.mp hn).1 hn, [], _, rfl, [.lst ((TL.tl z).map fun c => D.bl (decide (a ≤ c) && decide (c ≤ b)))], ?_, _, all_v _ _, k⟩
  unfold looks look
  simp
  rfl
end
end Sim
namespace Sim
open PySem PySem.Spec PyProof.Rows L2
/-! ### str() of ints and texts -/
def dStrX : List D → Option Rs
  | [.int i] => if i.natAbs.log2 < 1920 then some (.val (.str (toString i))) else none
  | [.str z] => some (.val (.str z))
  | _ => none
def numS (i : Int) : List Nat := TL.tl (Str.ofString (toString i))
theorem strX_str (z : Str) : dStrX [.str z] = some (.val (.str z)) := rfl
/-! ### records laid, as data -/
/-- what is laid into a field, where it can be -/
def shownF (f : Fd) (d : D) : Option (List Nat) := if f.tx = true then (match d with
    | .str z => if signsB z = true ∧ (z.length : Int) ≤ f.lg then some (TL.tl z ++ List.replicate (f.lg.toNat - z.length) 32) else none
    | _ => none)
  else match d with
    | .int i => if ((numS i).length : Int) ≤ f.lg then some (List.replicate (f.lg.toNat - (numS i).length) 32 ++ numS i) else none
    | _ => none
def laidF (w : Fd → D) : List Fd → List Nat → List Nat ⊕ Str
  | [], L => .inl L
  | f :: fs, L => match shownF f (w f) with
    | none => .inr f.nm
    | some t => laidF w fs (putL L (f.at_ - 1).toNat t)
/-! ### things that are handed in -/
structure Wv (d : D) : Prop where
  ins : isIns d = none
  exc : isExc d = false
  str : ∀ z, d = .str z → z.length ≤ 10000 ∧ ∀ c ∈ TL.tl z, c < 1114112
  int : ∀ i, d = .int i → i.natAbs < 1099511627776
theorem Wv.plain {d : D} (h : Wv d) : Plain d := ⟨h.ins, h.exc, fun z e => (h.str z e).1⟩
theorem Wv.of_non : Wv .non := ⟨rfl, rfl, (fun _ e => nomatch e), (fun _ e => nomatch e)⟩
theorem SignsOk.lt {L : List Nat} (h : SignsOk L) : ∀ c ∈ L, c < 1114112 := fun c hc => by
  have := h c hc
  unfold signOk at this
  simp only [Bool.and_eq_true, decide_eq_true_eq] at this
  omega
structure KOk (kvs : KD) (n : Nat) : Prop where
  len : kvs.length ≤ n
  each : ∀ p ∈ kvs, (∃ z, p.1 = .inr z ∧ PyData.strOk z = true) ∧ Wv p.2
theorem KOk.nil : KOk [] 0 := ⟨Nat.le_refl _, fun _ h => nomatch h⟩
theorem KOk.mono {kvs : KD} {n m : Nat} (h : KOk kvs n) (l : n ≤ m) : KOk kvs m := ⟨Nat.le_trans h.len l, h.each⟩
theorem KOk.get {kvs : KD} {n : Nat} (h : KOk kvs n) (k : L2.Key) : Wv ((valK kvs k).getD .non) := by
  unfold valK
  cases e : kvs.find? (fun p => decide (p.1 = k)) with
  | none => exact Wv.of_non
  | some p => exact (h.each p (List.mem_of_find?_eq_some e)).2
theorem mem_put {kvs : KD} {k : L2.Key} {d : D} {p : L2.Key × D} (h : p ∈ putKD kvs k d) : p ∈ kvs ∨ p = (k, d) := by
  unfold putKD at h
  by_cases c : (kvs.any fun p => decide (p.1 = k)) = true
  · rw [if_pos c] at h
    obtain ⟨q, hq, e⟩ := List.mem_map.mp h
    by_cases e2 : q.1 = k
    · rw [if_pos e2] at e
      rw [← e, e2]
      exact .inr rfl
    · rw [if_neg e2] at e
      rw [← e]
      exact .inl hq
  · rw [if_neg c] at h
    rcases List.mem_append.mp h with h | h
    · exact .inl h
    · exact .inr (List.mem_singleton.mp h)
theorem KOk.put {kvs : KD} {n : Nat} (h : KOk kvs n) {z : Str} (hz : PyData.strOk z = true) {d : D} (hd : Wv d) : KOk (putKD kvs (.inr z) d) (n + 1) := by
  refine ⟨?_, fun p hp => ?_⟩
  · have := put_len kvs (.inr z) d
    have := h.len
    omega
  · rcases mem_put hp with hp | rfl
    · exact h.each p hp
    · exact ⟨⟨z, rfl, hz⟩, hd⟩
theorem KOk.drop {kvs : KD} {n : Nat} (h : KOk kvs n) (k : L2.Key) : KOk (dropKD kvs k) n :=
  ⟨Nat.le_trans (List.length_filter_le _ _) h.len, fun p hp => h.each p (List.mem_filter.mp hp).1⟩
theorem KOk.keys {kvs : KD} {n : Nat} (h : KOk kvs n) : pl 1 (.lst (kvs.map fun kv => keyD kv.1)) = true := pls_all fun x hx => by
  obtain ⟨kv, hk, rfl⟩ := List.mem_map.mp hx
  obtain ⟨⟨z, e, hz⟩, _⟩ := h.each kv hk
  rw [e]
  exact hz
/-! a field's signs put one by one; a mark beside all fields -/
/-! ### slices of records -/
/-- worths that are told -/
structure Cuts (kvs : KD) (n : Nat) : Prop where
  nd : (kvs.map (·.1)).Nodup
  len : kvs.length ≤ n
  each : ∀ p ∈ kvs, (∃ z, p.1 = .inr z ∧ PyData.strOk z = true) ∧ ((∃ i, p.2 = .int i) ∨ ∃ z, p.2 = .str z)
theorem Cuts.nil : Cuts [] 0 := ⟨List.Pairwise.nil, Nat.le_refl _, fun _ h => nomatch h⟩
theorem Cuts.put {kvs : KD} {n : Nat} (h : Cuts kvs n) {z : Str} (hz : PyData.strOk z = true) {d : D} (hd : (∃ i, d = .int i) ∨ ∃ z, d = .str z) : Cuts (putKD kvs (.inr z) d) (n + 1) := by
  refine ⟨?_, ?_, fun p hp => ?_⟩
  · rw [put_keys]
    by_cases c : (kvs.any fun p => decide (p.1 = .inr z)) = true
    · rw [if_pos c]
      exact h.nd
    · rw [if_neg c, List.nodup_append]
      refine ⟨h.nd, by simp, fun a ha b hb e => ?_⟩
      rw [List.mem_singleton.mp hb] at e
      subst e
      obtain ⟨q, hq, e⟩ := List.mem_map.mp ha
      exact c (List.any_eq_true.mpr ⟨q, hq, by simp [e]⟩)
  · have := put_len kvs (.inr z) d
    have := h.len
    omega
  · rcases mem_put hp with hp | rfl
    · exact h.each p hp
    · exact ⟨⟨z, rfl, hz⟩, hd⟩
end Sim
namespace Sim
open PySem PySem.Spec PyProof.Rows L2
/-! ### enumerate over a text -/
def ItES (z : Str) : It :=
  ⟨fun i _ => i < z.cps.size, fun i H v H' => ∃ T c, v = .ref T ∧ H T = none ∧ H' = upd H T (.tup [.int ((i : Nat) : Int), .str ⟨#[c]⟩]) ∧ z.cps[i]? = some c, fun i _ => z.cps.size ≤ i⟩
theorem walkES {z : Str} : Walk (ItES z) z.cps.size (fun _ => True) (YPair (fun i => some (.int ((i : Nat) : Int))) (fun i => (z.cps[i]?).map fun c => .str ⟨#[c]⟩)) := by
  refine ⟨fun i _ hi _ => hi, fun _ _ => Nat.le_refl _, fun i H v H' _ _ y => ?_⟩
  obtain ⟨T, c, rfl, n, e, g⟩ := y
  exact ⟨T, _, .str ⟨#[c]⟩, rfl, n, e, rfl, by show (z.cps[i]?).map _ = _; rw [g]; rfl⟩
theorem turnES {P : Program} {w : World} {K : PySem.W.Frag} {elts : List Expr} {kk : Nat} {tpos : Pos} (e it : Addr) (z : Str) (t : Tok) :
    Turn P w K (.Tuple elts kk tpos) (ItES z) [e, it] e (fun i h => (∃ old, IsEnum h e it (i : Int) old) ∧ h.IsStrIter it (strIterType z) z t i ∧ e ≠ it) where
  mem := List.mem_cons_self ..
  obj := fun i h st b hb => by
    obtain ⟨⟨old, he⟩, ⟨o, ho, hc, hd⟩, _⟩ := st
    rcases List.mem_cons.mp hb with q | hb
    · rw [q]; exact ⟨_, he, fun v q => nomatch q⟩
    · rw [List.mem_singleton.mp hb]; exact ⟨o, ho, fun v q => by rw [hd] at q; cases q⟩
  keep := fun i h h' ⟨⟨old, he⟩, ⟨o, ho, r⟩, ne⟩ k => ⟨⟨old, k e (List.mem_cons_self ..) _ he⟩, ⟨o, k it (by simp) o ho, r⟩, ne⟩
  item := by
    intro X hP hw hK hc i pins s σ H E I hf st hg
    subst hP hw hK
    obtain ⟨⟨old, he⟩, hit, n1⟩ := st
    have hlt : i < z.cps.size := hg
    have le := Heap.lt_size he
    have li : it < s.heap.objs.size := by obtain ⟨_, q, _⟩ := hit; exact Heap.lt_size q
    refine wpAny_pyNext_enum_itemC (Draws.text (prog := X.prog) (w := X.w) (A := X.A.in1) (I.ok.hd hc) it z t) he hit hlt n1 (by simp [n1]) fun y h' tk hy ho st' hT hsz hk => ?_
    obtain ⟨c, u, hcx, rfl⟩ := hy
    refine ⟨_, rfl, wpAny_letOwnedTupleGo_enum (s := { s with heap := h', toks := tk + 1 }) ho fun h'' he' sb => ?_⟩
    have hT2 : h''.get? s.heap.objs.size = some { cls := .type "tuple", data := .seq #[.int (i : Int) tk, .str ⟨#[c]⟩ u] } := (sb.2 _ (Nat.ne_of_gt le)).trans hT
    have new : ObjOk X.prog X.w (upd H s.heap.objs.size (.tup [.int ((i : Nat) : Int), .str ⟨#[c]⟩])) h'' s.heap.objs.size (.tup [.int ((i : Nat) : Int), .str ⟨#[c]⟩]) :=
      ⟨by show 2 ≤ sizeLine; decide, [.int (i : Int) tk, .str ⟨#[c]⟩ u], .cons ⟨_, rfl⟩ (.cons ⟨_, rfl⟩ .nil), ⟨_, hT2, rfl, _, rfl⟩⟩
    have I1 : Inv X pins σ (upd H s.heap.objs.size (.tup [.int ((i : Nat) : Int), .str ⟨#[c]⟩])) { s with heap := h'', toks := tk + 1 } :=
      I.turnedNew (ch := [e, it]) (fun b ob hb q => (sb.2 b (fun z => hb (by simp [z]))).trans (hk b ob (fun z => hb (by simp [z])) (fun z => hb (by simp [z])) q)) hf (Nat.le_refl _) new
    refine ⟨.ref s.heap.objs.size, _, I1, rfl, ⟨_, c, rfl, I.hok.fresh (Nat.le_refl _), rfl, hcx⟩, ⟨⟨.str ⟨#[c]⟩ u, ?_⟩, ?_, n1⟩, fun b hb => ?_⟩
    · rw [show ((i + 1 : Nat) : Int) = (i : Int) + 1 by omega]
      exact he'
    · obtain ⟨o, q, r⟩ := st'
      exact ⟨o, (sb.2 it (Ne.symm n1)).trans q, r⟩
    · have hb2 : b < s.heap.objs.size := by
        rcases List.mem_cons.mp hb with q | hb
        · rw [q]; exact le
        · rw [List.mem_singleton.mp hb]; exact li
      rw [upd_ne (Nat.ne_of_lt hb2)]
      exact (hf b hb).1
  done := by
    intro X hP hw hK hc i pins s σ H E I hf st hg
    subst hP hw hK
    obtain ⟨⟨old, he⟩, hit, n1⟩ := st
    obtain ⟨f0, f1, f2, f3, f4, f5⟩ := hf it (by simp)
    have hx : z.cps[i]? = none := Array.getElem?_eq_none hg
    have D : Draws X.prog X.w X.A.in1 it [it] i (fun _ _ => False) (fun j h => j = i ∧ h.IsStrIter it (strIterType z) z t i) :=
      { live := fun _ _ st => let ⟨o, ho, _⟩ := st.2; ⟨o, ho⟩
        frame := fun _ _ _ st hk => ⟨st.1, let ⟨o, ho, r⟩ := st.2; ⟨o, hk it (by simp) o ho, r⟩⟩
        item := fun j s Q E hj st _ => absurd (st.1 ▸ hj) (Nat.lt_irrefl _)
        done := fun s Q E st hE => by
          have h2 := st.2
          cases ha : z.cps.all (· < 128)
          · simp only [strIterType, ha, Bool.false_eq_true, if_false] at h2
            exact wpAny_nextOf_wide_end (show X.A.in1.handled = none from I.ok.hd hc) h2 hx hE
          · simp only [strIterType, ha, if_true] at h2
            exact wpAny_nextOf_ascii_end (show X.A.in1.handled = none from I.ok.hd hc) h2 hx hE }
    exact wpAny_pyNext_enum_endD D he ⟨rfl, hit⟩ fun h' eb => ⟨rfl, I.turned (t' := s.toks) (fun b o hb q => eb b o hb q) f0 f1 f3 f4 f5⟩
  self := fun A i s Q E ⟨⟨_, he⟩, _⟩ h => wpAny_pyIter_enum he h
def iES (ta : TA) : TI := fun σ H R => ta σ H fun vs H1 => ∃ z, vs = [.str z] ∧ R (ItES z) H1
theorem pi_ES {X : Cx} {e : Expr} {ta : TA} {p pos tpos : Pos} {elts : List Expr} {kk : Nat} (hg : Gl X "enumerate") (hm : X.mg "enumerate" = none) (ha : PA X [e] ta) (hs : starEach [e] X.env = [(false, eval e X.env)] := by rfl) :
    PI X (.Tuple elts kk tpos) (.Call (.Name "enumerate" p) [e] [] pos) (iES ta) := by
  refine ⟨fun pins s σ H R I h => ?_⟩
  refine Call_ (ld_blt I hg hm boot_enumerate (PyProof.Rows.callWith_type1 (thn (ha.run pos pins s σ H _ I h) fun us s1 ⟨vs, H1, I1, r1, q1⟩ => ?_) hs rfl))
  obtain ⟨z, ex, q⟩ := q1
  subst ex
  cases r1 with
  | cons r rr =>
    cases rr
    obtain ⟨t, rfl⟩ := r
    refine call_enumerate_str fun h' he hit hsz hk => wpAny_pyIter_enum he ?_
    have I2 : Inv X pins σ H1 { s1 with heap := h' } := I1.kept (t' := s1.toks) hk
    refine ⟨s1.heap.objs.size + 1, [s1.heap.objs.size + 1, s1.heap.objs.size], _, _, H1, rfl, I2, turnES (s1.heap.objs.size + 1) s1.heap.objs.size z t, ⟨⟨.none, he⟩, hit, Nat.succ_ne_self _⟩, fun b hb => ?_, q⟩
    have e' : b = s1.heap.objs.size + 1 ∨ b = s1.heap.objs.size := by simpa using hb
    have hle : s1.heap.objs.size ≤ b := by
      rcases e' with q | q
      · rw [q]; exact Nat.le_add_right _ _
      · rw [q]; exact Nat.le_refl _
    exact I1.fpOk hle (I1.hok.fresh hle)
def diEnumX (de : DE) : DI := fun env => (dd de env).bind fun r => match r.1 with
  | .lst ds => some (enumD 0 ds, r.2)
  | .str z => some (enumD 0 (signsOf z), r.2)
  | _ => none
theorem si_enumX {CT : CTab} {X : Cx} {e : Expr} {de : DE} {p pos tpos : Pos} {elts : List Expr} {kk : Nat} (hg : Gl X "enumerate") (hm : X.mg "enumerate" = none) (h : SE CT X e de) (hs : starEach [e] X.env = [(false, eval e X.env)] := by rfl) : SI CT X (.Tuple elts kk tpos) (.Call (.Name "enumerate" p) [e] [] pos) (diEnumX de) := by
  obtain ⟨te, a, b⟩ := h
  refine ⟨_, PI.or (pi_enum hg hm (pa_cons a pa_nil hs) hs) (pi_ES hg hm (pa_cons a pa_nil hs) hs), fun B F H σ ρ env R w l p E s => ?_⟩
  obtain ⟨r, er, s2⟩ := s.bind
  obtain ⟨q, eq, k⟩ := s2
  obtain ⟨d, e1⟩ := r
  cases d with
  | lst ds =>
    cases eq
    refine .inl (b.d B F H σ ρ env _ w l p E ⟨_, er, fun F' H' v ρ' w' x' p' E' i => ?_⟩)
    cases i with
    | @lst a vs ds ea il =>
      refine ⟨a, vs, rfl, sqL_sub w'.sub ea, k F' H' ρ' _ w' x' p' E' (wk_pair (n := vs.length) (by show (enumD 0 ds).length = _; rw [enumD_len, il.len]) walk_enum (fun F2 H2 x2 s2 => sqL_sub s2 (sqL_ex x2 ea)) fun i x y h1 h2 => ?_)⟩
      cases h1
      obtain ⟨d, ed, id⟩ := il.getV h2
      refine ⟨_, d, ?_, .int _, id⟩
      rw [enumD_get, ed]
      simp
  | str z =>
    cases eq
    refine .inr (b.d B F H σ ρ env _ w l p E ⟨_, er, fun F' H' v ρ' w' x' p' E' i => ?_⟩)
    cases i
    have hl : (signsOf z).length = z.cps.size := by unfold signsOf; rw [List.length_map, Array.length_toList]
    refine ⟨z, rfl, k F' H' ρ' _ w' x' p' E' (wk_pair (n := z.cps.size) (by show (enumD 0 (signsOf z)).length = _; rw [enumD_len, hl]) walkES (fun F2 H2 x2 s2 => trivial) fun i x y h1 h2 => ?_)⟩
    cases h1
    obtain ⟨c, hc, rfl⟩ := Option.map_eq_some_iff.mp h2
    refine ⟨_, .str ⟨#[c]⟩, ?_, .int _, .str _⟩
    rw [enumD_get]
    unfold signsOf
    rw [List.getElem?_map, Array.getElem?_toList, hc]
    simp
  | _ => cases eq
theorem wi_enumX {de : DE} {env : Env} {QI : List D → Env → Prop} (h : WE de env fun l e1 => WFc l e1 fun d e2 => Wp (match d with | .lst ds => some ds | .str z => some (signsOf z) | _ => none) fun xs => QI (enumD 0 xs) e2) : WI (diEnumX de) env QI := by
  obtain ⟨l, e1, q, d, e2, r, xs, s, k⟩ := h
  cases d <;> cases s
  · exact ⟨_, _, by unfold diEnumX dd; rw [q, Option.bind_some, r]; rfl, k⟩
  · exact ⟨_, _, by unfold diEnumX dd; rw [q, Option.bind_some, r]; rfl, k⟩
end Sim
namespace Sim
open PySem PySem.Spec PyProof.Rows L2
/-! ### x.clear() of a list or dict of our own -/
/-! ### d.setdefault(k, v) -/
end Sim
namespace Sim
open PySem PySem.Spec PyProof.Rows L2
/-! ### makers that may raise -/
abbrev DFmx := Ob → List D → Option ((Rv × Ob) ⊕ Xr)
def spMX (g : G) (df : DFmx) : Sp := fun vs H Q X => ∃ (F : Hp) (a : Addr) (ho : HO) (o : Ob) (us : List V) (ds : List D) (L : List (Addr × HO)), vs = .ref a :: us ∧ Sub F H ∧ (∀ p ∈ L, H p.1 = some p.2 ∧ F p.1 ≠ none) ∧ F a = none ∧ H a = some ho ∧ ObIs g F ho o ∧ IsL g F us ds ∧
  Sat (df o ds) (fun z => match z with
    | .inl r => ∀ (F' H' : Hp) (v : V) (h1 : HO), Wd ⟨H, F, some a, L⟩ F' H' → H' a = some h1 → ObIs g F' h1 r.2 → RvIs g F H F' H' v r.1 → Q v H'
    | .inr y => ∀ (F' H' : Hp) (cls : Value) (d : Option Addr), Wd ⟨H, F, some a, L⟩ F' H' → XcIs g F' cls d y.1 y.2 → X cls d H')
def defMX (np nn : Nat) (body : DS) : DFmx := fun o ds => if ds.length + 1 = np then (body (some (.own true o) :: ds.map (fun d => some (.val d)) ++ List.replicate (nn - np) none)).bind fun r => match r with
  | .nx e => (own0 e).map fun o => .inl (.val .non, o)
  | .rt l e => (rvOf l e).bind fun v => (own0 e).map fun o => .inl (v, o)
  | .xc c xs _ => some (.inr (c, xs))
  | _ => none
  else none
section
variable {CT : CTab} {P : Program} {w : World} {K : PySem.W.Frag} {mg : Str → Option Value} {base : Heap}
theorem fnMX {x qual : Str} {st : Stmt} {f : Addr} {fd : FuncData} {N ps : List Str} {k : Nat} {body : DS} (Fn : Fun K x qual st f fd) (S : FnScope N ps (defScope st)) (hn : ps.length ≤ N.length)
    (hb : BodyX CT P w K mg base N qual st f k body) : FnOk P w K mg base (L2.CX P w) (k + 1) f fd ps (spMX ⟨K, mg, CT⟩ (defMX ps.length N.length body)) := by
  refine Fn.okX S (fun vs H Q E h => ?_) (fun cdv A outer s H vs Q E hr h => ?_)
  · obtain ⟨F, a, ho, o, us, ds, L, rfl, _, _, _, _, _, il, sa⟩ := h
    rw [List.length_cons, il.len]
    exact (sat_if sa).1
  · obtain ⟨F, a, ho, o, us, ds, L, rfl, hs, hl, nf, hh, ro, il, sa⟩ := h
    obtain ⟨hlen, sa⟩ := sat_if sa
    obtain ⟨ts, x1, b⟩ := hb cdv A outer s H E hr
    refine ⟨ts, x1, ?_⟩
    have tk : Takes (cxOf (L2.CX P w) P w K mg base N qual (defScope st) f cdv A outer s H E) (fun cls d _ H => E cls d H) := takes_of rfl rfl rfl rfl
    rw [start_eq (np := ps.length) (by rw [List.length_cons, il.len]; exact hlen)]
    have w0 : Wd ⟨H, F, some a, L⟩ F H := Wd.start hs hl (fun b e => by cases e; rw [hh]; exact fun z => nomatch z)
    refine (b.weak fun cl d σ H' q => max_of tk q) ⟨H, F, some a, L⟩ F H _ _ _ w0 ?_ (env_startM il nf hh ro) (sa.bind.mono fun o so => ?_)
    · show (some (V.ref a) :: us.map some ++ _).length = N.length
      rw [List.length_append, List.length_cons, List.length_map, List.length_replicate, il.len]
      omega
    · cases o with
      | nx e =>
        obtain ⟨_, z, k⟩ := so
        obtain ⟨o1, q1, rfl⟩ := Option.map_eq_some_iff.mp z
        exact fun F' H' σ' w' x' l' E' => by
          obtain ⟨h1, e1, r1⟩ := own0_ok E' q1
          exact k F' H' .non h1 w' e1 r1 .non
      | rt l e =>
        obtain ⟨rv, q1, q2⟩ := so.bind
        obtain ⟨_, z, k⟩ := q2
        obtain ⟨o1, q3, rfl⟩ := Option.map_eq_some_iff.mp z
        exact fun F' H' v ρ' w' x' E' i' => by
          obtain ⟨h1, e1, r1⟩ := own0_ok E' q3
          exact k F' H' v h1 w' e1 r1 (rvOf_ok E' i' q1)
      | xc c xs e =>
        obtain ⟨_, z, k⟩ := so
        cases z
        exact fun F' H' σ' cls d w' x' l' E' hx => k F' H' cls d w' hx
      | bk e => obtain ⟨_, z, _⟩ := so; cases z
      | ct e => obtain ⟨_, z, _⟩ := so; cases z
/-- a class whose __init__ may raise -/
structure MakX (CT : CTab) (P : Program) (w : World) (K : PySem.W.Frag) (mg : Str → Option Value) (base : Heap) (k : Nat) (x : Str) (c : Nat) (df : DFmx) : Prop where
  ex : ∃ (C f : Addr) (fd : FuncData) (ps : List Str), Mk K C f ∧ FnOk P w K mg base (L2.CX P w) k f fd ps (spMX ⟨K, mg, CT⟩ df) ∧ mg x = some (.ref C) ∧ (CT c).1 = x ∧ Binds K fd ps []
end
/-! C(..), that may raise, where a slot's state is known -/
def tMakeS (C : Addr) (sp : Sp) (E : L2.St → XK) (t : TA) : TE := fun σ H Q => t σ H fun vs H1 => ∀ x dx, H1 x = none → H1 dx = none → dx ≠ x →
  sp (.ref x :: vs) (upd (upd H1 dx (.own x)) x (.ins C dx [])) (fun v H2 => v = .non ∧ Q (.ref x) H2) (E σ)
section
variable {X : Cx} {CX : CXT} {k : Nat} {f C : Addr} {fd : FuncData} {ps : List Str} {sp : Sp} {E : L2.St → XK} {x : Str} {p pos : Pos} {e : Expr} {es : List Expr} {t : TA}
theorem run_makeS {pins : List (Addr × Obj)} {σ : L2.St} {H : Hp} {s : Shared} {Q : VK} {us : List Value} {vs : List V} (M : Mk X.K C f) (F : FnOk X.prog X.w X.K X.mg X.base CX k f fd ps sp) (hr : Room (k + 1) X.A) (hb : Binds X.K fd ps [])
    (hx : PassesAt CX X σ (E σ)) (I : Inv X pins σ H s) (r : Vals vs us)
    (h : ∀ x dx, H x = none → H dx = none → dx ≠ x → sp (.ref x :: vs) (upd (upd H dx (.own x)) x (.ins C dx [])) (fun v H2 => v = .non ∧ Q (.ref x) H2) (E σ)) :
    wpAny (model X.prog X.w) X.A (call (.ref C) us) (EP X pins σ Q) X.xe s := by
  have hq := h (s.heap.objs.size + 1) s.heap.objs.size (I.hok.fresh (Nat.le_succ _)) (I.hok.fresh (Nat.le_refl _)) (Nat.ne_of_lt (Nat.lt_succ_self _))
  have I2 := Inv.made (C := C) I
  have r2 : Vals (V.ref (s.heap.objs.size + 1) :: vs) (Value.ref (s.heap.objs.size + 1) :: us) := .cons rfl r
  have hl : (Value.ref (s.heap.objs.size + 1) :: us).length = ps.length := by
    have e := r2.length
    rw [F.len _ _ _ _ hq] at e
    exact e.symm
  have hb' := hb _ (Value.ref (s.heap.objs.size + 1) :: us) I2.kIn (by rw [List.append_nil]; exact hl)
  rw [List.append_nil] at hb'
  refine wpAny_call (make_map (f := f) I.kIn M.makes M.init (beq_iff_eq.mp M.fn) (codeAny_mono (F.run _ X.stack _ _ ⟨Value.ref (s.heap.objs.size + 1) :: us, []⟩ (Value.ref (s.heap.objs.size + 1) :: us) _ _ (E σ) (hr.make C us [])
    (I2.env0.make C us []) hb' r2 hq) fun r s' hq' => ?_))
  cases r with
  | error e => exact hx pins _ _ e s' I2 hq'
  | ok fl =>
    cases fl with
    | ret u =>
      obtain ⟨v, H', I3, rv, ev, q3⟩ := I2.after hq'
      subst ev
      exact ⟨rv, ⟨V.ref (s.heap.objs.size + 1), H', I3, rfl, q3⟩⟩
    | next => exact False.elim hq'
    | brk => exact False.elim hq'
    | cont => exact False.elim hq'
theorem pe_makeS (M : Mk X.K C f) (F : FnOk X.prog X.w X.K X.mg X.base CX k f fd ps sp) (hr : Room (k + 1) X.A) (hg : Gl X x) (hm : X.mg x = some (.ref C)) (hb : Binds X.K fd ps []) (hx : ∀ σ, PassesAt CX X σ (E σ))
    (ha : PA X (e :: es) t) (hdb : (x == ("__debug__" : Str)) = false := by decide) (he : starEach (e :: es) X.env = (false, eval e X.env) :: starEach es X.env := by rfl) (hpl : (backTo pos (starEach es X.env)).any (·.1) = false := by rfl) :
    PE X (.Call (.Name x p) (e :: es) [] pos) (tMakeS C sp E t) := by
  refine ⟨fun pins s σ H Q I h => ?_⟩
  refine wpAny_Call_Name_kw (ld_glob I hg hm ?_ hdb)
  refine PySem.W.callWith_K (h₀ := X.base) I.ok.mod.kin M.kp (thn (ha.run pos pins s σ H _ I h) fun us s1 ⟨vs, H1, I1, r, q⟩ => ⟨I1.kIn, ?_⟩) he hpl
  exact run_makeS M F hr hb (hx σ) I1 r q
end
def dMakeX (c : Nat) (df : DFmx) (da : DA) : DX := fun env => (da env).bind fun r => (forces r.1 r.2).bind fun q => (df (.obj c []) q.1).bind fun z => match z with
  | .inl rv => (match rv.1 with
    | .val .non => some (.inl (finR q.2 (.new rv.2)))
    | _ => none)
  | .inr y => some (.inr (y, q.2))
theorem simMakeX {g : G} {W : WX} {n c : Nat} {C : Addr} {df : DFmx} {ta : TA} {da : DA} (hm : g.mg (g.CT c).1 = some (.ref C)) (h : SimA g n ta da) : SimX g W n (tMakeS C (spMX g df) (L2.WE W) ta) (dMakeX c df da) := fun B F H σ ρ env Q w l p E s => by
  refine h B F H σ ρ env _ w l p E (s.bind.mono fun r sr F1 H1 vs ρ1 w1 x1 p1 E1 i1 => ?_)
  obtain ⟨q, eq, s2⟩ := sr.bind
  obtain ⟨F2, w2, x2, E2, i2⟩ := forces_ok w1 E1 i1 eq
  intro x dx nx ndx ne
  have wa : Wd B F2 (upd H1 dx (.own x)) := w2.laid ndx
  have nx' : (upd H1 dx (.own x)) x = none := by rw [upd_ne ne.symm]; exact nx
  have wb : Wd B F2 (upd (upd H1 dx (.own x)) x (.ins C dx [])) := wa.laid nx'
  have Eb : EnvIs g B F2 (upd (upd H1 dx (.own x)) x (.ins C dx [])) ρ1 q.2 := (E2.laid ndx).laid nx'
  have nf := w2.nF nx
  have ro : ObIs g F2 (.ins C dx []) (.obj c []) := by
    have : HO.ins C dx [] = .ins C dx (zipF (g.CT c).2 []) := by unfold zipF; rw [List.zip_nil_right]
    rw [this]
    exact .obj hm .nil (Nat.zero_le _)
  have no : NoOwn ρ1 q.2 x := fun i p1 u e z => by
    obtain ⟨b', hb, y, _, _, yy, _⟩ := E2.own e
    rw [z] at y
    cases y
    rw [nx] at yy
    cases yy
  have home : ∀ {F3 H3 : Hp}, Wd ⟨upd (upd H1 dx (.own x)) x (.ins C dx []), F2, some x, B.L⟩ F3 H3 → Wd B F3 H3 ∧ EnvIs g B F3 H3 ρ1 q.2 := fun {F3 H3} w3 => by
    have w4 : Wd B F3 H3 := wb.after (A' := some x) (fun b e => by cases e; exact ⟨nf, false, by unfold Mine; rw [if_neg Bool.false_ne_true]; exact w2.nB nx⟩) w3
    refine ⟨w4, Eb.len, fun i s e => ?_, Eb.dis⟩
    obtain ⟨u, y, zz⟩ := Eb.sl i s e
    refine ⟨u, y, ?_⟩
    cases zz with
    | val zz => exact .val (zz.mono w3.ex0)
    | @own b p2 o2 ho2 n2 m2 h2 r2 =>
      have neb : b ≠ x := fun z => no i p2 o2 e (by rw [y, z])
      exact .own ((w3.fr b (by show upd _ _ _ b ≠ none; rw [h2]; exact fun z => nomatch z)).trans n2) m2 (w3.keep b ho2 h2 (fun z => by cases z; exact neb rfl) n2) (r2.mono w3.ex0)
  refine ⟨F2, x, _, .obj c [], vs, q.1, B.L, rfl, wb.sub, wb.lk, nf, upd_same, ro, i2, s2.bind.mono fun z sz => ?_⟩
  cases z with
  | inl rv =>
    intro F3 H3 v h1 w3 e3 r3 iv
    obtain ⟨r1, o1⟩ := rv
    cases r1 with
    | new o => obtain ⟨_, ez, _⟩ := sz; cases ez
    | val d =>
      cases d with
      | non =>
        obtain ⟨_, ez, k⟩ := sz
        cases ez
        cases iv
        refine ⟨rfl, ?_⟩
        obtain ⟨w4, E4⟩ := home w3
        have nf3 : F3 x = none := (w3.fr x (by show upd _ _ _ x ≠ none; rw [upd_same]; exact fun z => nomatch z)).trans nf
        refine k F3 H3 _ (ρ1 ++ [some (.ref x)]) w4 ((x1.trans x2).trans w3.ex0) (p1.trans (List.prefix_append _ _)) (E4.pushO nf3 (w2.nB nx) e3 no r3) (.at ?_)
        rw [← E4.len]
        simp
      | _ => obtain ⟨_, ez, _⟩ := sz; cases ez
  | inr y =>
    intro F3 H3 cls d w3 hx
    obtain ⟨_, ez, k⟩ := sz
    cases ez
    obtain ⟨w4, E4⟩ := home w3
    exact k F3 H3 cls d w4 ((x1.trans x2).trans w3.ex0) (E4.takeP (p.trans p1) l) hx
section
variable {CT : CTab} {X : Cx} {k j : Nat} {x : Str} {e : Expr} {es : List Expr} {p pos : Pos} {da : DA}
theorem sx_make {c : Nat} {df : DFmx} (m : MakX CT X.prog X.w X.K X.mg X.base k x c df) (hr : Room j X.A) (hk : k + 1 ≤ j) (hg : Gl X x) (ha : SA CT X (e :: es) da) (hdb : (x == ("__debug__" : Str)) = false := by decide)
    (he : starEach (e :: es) X.env = (false, eval e X.env) :: starEach es X.env := by rfl) (hpl : (backTo pos (starEach es X.env)).any (·.1) = false := by rfl) : SX CT X (.Call (.Name x p) (e :: es) [] pos) (dMakeX c df da) := by
  obtain ⟨C, f, fd, ps, M, F, hm, hc, b⟩ := m.ex
  obtain ⟨_, a1, b1⟩ := ha
  exact ⟨_, pe_makeS M F (hr.mono hk) hg hm b (fun σ => passAt (takes_max X) σ) a1 hdb he hpl, simMakeX (by show X.mg (CT c).1 = _; rw [hc]; exact hm) b1⟩
end
/-! forward -/
def FMX (df : DFmx) (o : Ob) (ds : List D) (R : Rv → Ob → Prop) (E : Nat → List D → Prop) : Prop := ∃ z, df o ds = some z ∧ match z with
  | .inl r => R r.1 r.2
  | .inr y => E y.1 y.2
theorem FMX.mono {df : DFmx} {o : Ob} {ds : List D} {R R' : Rv → Ob → Prop} {E E' : Nat → List D → Prop} (h : FMX df o ds R E) (k : ∀ r o, R r o → R' r o) (k2 : ∀ c xs, E c xs → E' c xs) : FMX df o ds R' E' := by
  obtain ⟨z, a, b⟩ := h
  cases z with
  | inl r => exact ⟨_, a, k _ _ b⟩
  | inr y => exact ⟨_, a, k2 _ _ b⟩
theorem wx_make {c : Nat} {df : DFmx} {da : DA} {env : Env} {Q : Vl → Env → Prop} {E : Nat → List D → Env → Prop} (h : WA da env fun ls e1 => WFs ls e1 fun ds e2 => FMX df (.obj c []) ds (fun r o => r = .val .non ∧ WRv (.new o) e2 Q) fun c xs => E c xs e2) : WX1 (dMakeX c df da) env Q E := by
  obtain ⟨ls, e1, a, ds, e2, b, z, g, k⟩ := h
  cases z with
  | inl r =>
    obtain ⟨r1, o1⟩ := r
    obtain ⟨rfl, k⟩ := k
    exact ⟨.inl (finR e2 (.new o1)), by unfold dMakeX; rw [a, Option.bind_some, b, Option.bind_some, g]; rfl, k⟩
  | inr y => exact ⟨.inr (y, e2), by unfold dMakeX; rw [a, Option.bind_some, b, Option.bind_some, g]; rfl, k⟩
def RtMX (R : Rv → Ob → Prop) (E : Nat → List D → Prop) : Out → Prop
  | .nx e => Wp (own0 e) fun o => R (.val .non) o
  | .rt l e => Wp (rvOf l e) fun r => Wp (own0 e) fun o => R r o
  | .xc c xs _ => E c xs
  | _ => False
theorem fmx_def {np nn : Nat} {body : DS} {o : Ob} {ds : List D} {R : Rv → Ob → Prop} {E : Nat → List D → Prop} (hl : ds.length + 1 = np) (h : Nr (some (.own true o) :: ds.map (fun d => some (Sl.val d)) ++ List.replicate (nn - np) none) fun e => WS body e (RtMX R E)) : FMX (defMX np nn body) o ds R E := by
  obtain ⟨r, q, k⟩ := h
  cases r with
  | nx e =>
    obtain ⟨o', a, k⟩ := k
    exact ⟨.inl (.val .non, o'), by unfold defMX; rw [if_pos hl, q, Option.bind_some]; show ((own0 e).map _) = _; rw [a]; rfl, k⟩
  | rt l e =>
    obtain ⟨rv, a, o', b, k⟩ := k
    exact ⟨.inl (rv, o'), by unfold defMX; rw [if_pos hl, q, Option.bind_some]; show ((rvOf l e).bind _) = _; rw [a, Option.bind_some, b]; rfl, k⟩
  | xc c xs e => exact ⟨.inr (c, xs), by unfold defMX; rw [if_pos hl, q]; rfl, k⟩
  | bk e => exact k.elim
  | ct e => exact k.elim
theorem rmx_nx {R : Rv → Ob → Prop} {E : Nat → List D → Prop} {e : Env} {o : Ob} (h : own0 e = some o) (k : R (.val .non) o) : RtMX R E (.nx e) := ⟨o, h, k⟩
theorem rmx_x {R : Rv → Ob → Prop} {E : Nat → List D → Prop} {e : Env} {c : Nat} {xs : List D} (k : E c xs) : RtMX R E (.xc c xs e) := k

/-! ### raise of a class without an own __init__ -/
def bmVE : List Value := [.type "ValueError", .type "Exception", .type "BaseException", .type "object"]
structure X0 (g : G) (c : Nat) (x : Str) : Prop where
  ex : ∃ C, g.mg x = some (.ref C) ∧ (g.CT c).1 = x ∧ PySem.W.keepIn g.K (.ref C) = true ∧ PySem.W.excIn g.K C bmVE "ValueError.__new__" = true ∧ PySem.W.subIn g.K (.ref C) (.type "BaseException") = some true ∧ PySem.W.typeIn g.K (.ref C) = some (.type "type")
theorem ss_raise0N {CT : CTab} {X : Cx} {x m : Str} {c j : Nat} {p p2 pos pos2 : Pos} (hc : X.calm = true) (A : X0 (gX CT X) c x) (hg : Gl X x) (hdb : (x == ("__debug__" : Str)) = false := by decide) : SS CT X (.Raise (some (.Call (.Name x p) [.Constant (.str m) j p2] [] pos)) none pos2) (dRaise0 c) := by
  obtain ⟨C, h1, h2, h3, h4, h5, h6⟩ := A
  exact ss_raise0 hc PySem.F.excBase_ValueError h4 h1 h3 (raises_own h5 h6) hg h2 hdb

theorem MakX.of {CT : CTab} {P : Program} {w : World} {K : PySem.W.Frag} {mg : Str → Option Value} {base h : Heap} {k : Nat} {x : Str} {st : Stmt} {df : DFmx} {ps : List Str} {c : Nat} {C : Addr} {qual : Str} (T : TopCls K x C) (Td : MetDef K C "__init__" qual st) (X : K.In h) (G : h.Ns mainGlobals mg) (hc : (CT c).1 = x) (ok : ∀ (f : Addr) (fd : FuncData), Fun K "__init__" qual st f fd → FnOk P w K mg base (L2.CX P w) k f fd ps (spMX ⟨K, mg, CT⟩ df)) (hb : ∀ (f : Addr) (fd : FuncData), Fun K "__init__" qual st f fd → Binds K fd ps []) : MakX CT P w K mg base k x c df := by
  obtain ⟨f, fd, a, i, F⟩ := Td
  exact ⟨C, f, fd, ps, ⟨T.makes, a, i, T.kp⟩, ok f fd F, PySem.W.mg_of X G T.at_, hc, hb f fd F⟩

/-! ### a, b, c = x, y, z -/
theorem simPar3 {g : G} {W : WX} {n i j m : Nat} {ta : TA} {da : DA} (h : SimA g n ta da) (hi : i < n) (hj : j < n) (hm : m < n) : SimS g W n (tPar3 i j m ta) (dMulti [i, j, m] da) := fun B F H σ env T w l E s => by
  have le : env.length = n := E.len.symm.trans l
  refine h B F H σ σ env _ w l List.prefix_rfl E (s.bind.mono fun r sr F1 H1 vs ρ1 w1 e1 p1 E1 i1 => ?_)
  obtain ⟨q, eq, s2⟩ := sr.bind
  obtain ⟨e, ee, s3⟩ := s2.bind
  obtain ⟨o, eo, k⟩ := s3
  cases eo
  rw [le] at eq ee k
  obtain ⟨F2, w2, x2, E2, i2, f2⟩ := pin_ok w1 E1 i1 eq
  obtain ⟨z, F3, ρ3, w3, x3, l3, p3, E3⟩ := puts_ok w2 l p1 E2 i2 f2 (fun k hk => by
    simp only [List.mem_cons, List.not_mem_nil, or_false] at hk
    rcases hk with rfl | rfl | rfl
    · exact hi
    · exact hj
    · exact hm) ee
  match vs, z with
  | [v, u, y], _ => exact ⟨v, u, y, rfl, k F3 _ _ w3 ((e1.trans x2).trans x3) l3 (E3.takeP p3 l3)⟩
theorem ss_par3 {CT : CTab} {X : Cx} {i j m : Nat} {x y z : Str} {a b c : Expr} {da : DA} {px py pz pt : Pos} {kt k2 : Nat} {pt2 pos : Pos} (hc : X.calm = true) (hN : X.N.Nodup) (hi : X.N[i]? = some x) (hj : X.N[j]? = some y) (hm : X.N[m]? = some z) (hij : i ≠ j) (him : i ≠ m) (hjm : j ≠ m)
    (hx : X.env.scope.names.lookup x = some .local) (hy : X.env.scope.names.lookup y = some .local) (hz : X.env.scope.names.lookup z = some .local)
    (h : SA CT X [a, b, c] da) (hw : swappedStores [.Tuple [.Name x px, .Name y py, .Name z pz] kt pt] (.Tuple [a, b, c] k2 pt2) X.env = pure (some [x, y, z]) := by rfl)
    (hs : swapsWithSole [.Tuple [.Name x px, .Name y py, .Name z pz] kt pt] (.Tuple [a, b, c] k2 pt2) pos.line X.env = pure false := by rfl) : SS CT X (.Assign [.Tuple [.Name x px, .Name y py, .Name z pz] kt pt] (.Tuple [a, b, c] k2 pt2) pos) (dMulti [i, j, m] da) := by
  obtain ⟨_, p, q⟩ := h
  exact ⟨_, ps_par3 hc hN hi hj hm hij him hjm hx hy hz p hw hs, simPar3 q (List.getElem?_eq_some_iff.mp hi).1 (List.getElem?_eq_some_iff.mp hj).1 (List.getElem?_eq_some_iff.mp hm).1⟩
end Sim
namespace Law
open PySem PySem.Spec PyProof.Rows L2 Sim
def topS (i : Nat) : Stmt := PySem.Challenge.pw_totalround_k02_shapes_at_their_bounds.main.body.getD i (.Pass ⟨0, 0, 0, 0⟩)
def c_LONGEST_FIELD : List (Str × Int) := [("text", 20), ("number", 9)]
def CT : CTab := fun c => match c with
  | 0 => ("Shape", ["name", "mark", "fields"])
  | 1 => ("RoundError", [])
  | 2 => ("NoShape", [])
  | 3 => ("NoSource", [])
  | 4 => ("NoRecord", ["name"])
  | 5 => ("NoOrder", ["name", "at"])
  | 6 => ("NoProgram", [])
  | 7 => ("NoText", ["row"])
  | 8 => ("NoEven", [])
  | 9 => ("TooLong", [])
  | _ => ("", [])
structure Txt (w : World) (K : PySem.W.Frag) (mg : Str → Option Value) : Prop where
  -- what the top leaves
  b_ValueError : mg "ValueError" = none
  b_all : mg "all" = none
  b_bool : mg "bool" = none
  b_dict : mg "dict" = none
  b_enumerate : mg "enumerate" = none
  b_int : mg "int" = none
  b_isinstance : mg "isinstance" = none
  b_len : mg "len" = none
  b_list : mg "list" = none
  b_max : mg "max" = none
  b_min : mg "min" = none
  b_range : mg "range" = none
  b_set : mg "set" = none
  b_str : mg "str" = none
  b_tuple : mg "tuple" = none
  c_LONGEST_FIELD : GDict w K mg "LONGEST_FIELD" c_LONGEST_FIELD
  c_LONGEST_NAME : ∃ t, mg "LONGEST_NAME" = some (.int (6) t)
  c_MOST_FIELDS : ∃ t, mg "MOST_FIELDS" = some (.int (8) t)
  c_WIDTH : ∃ t, mg "WIDTH" = some (.int (60) t)
  a_Shape_name : AttrF ⟨K, mg, CT⟩ 0 0 "name"
  a_Shape_mark : AttrF ⟨K, mg, CT⟩ 0 1 "mark"
  a_Shape_fields : AttrF ⟨K, mg, CT⟩ 0 2 "fields"
  ins : InsFs ⟨K, mg, CT⟩ [0]
  xc_RoundError : XCat ⟨K, mg, CT⟩ [2] (fun c => [1, 2, 3, 4, 5, 6, 7, 8, 9].contains c) "RoundError"
  xi_NoEven : XIsN ⟨K, mg, CT⟩ [2] (fun c => [8].contains c) "NoEven"
  xi_NoOrder : XIsN ⟨K, mg, CT⟩ [2] (fun c => [5].contains c) "NoOrder"
  xi_NoProgram : XIsN ⟨K, mg, CT⟩ [2] (fun c => [6].contains c) "NoProgram"
  xi_NoRecord : XIsN ⟨K, mg, CT⟩ [2] (fun c => [4].contains c) "NoRecord"
  xi_NoShape : XIsN ⟨K, mg, CT⟩ [2] (fun c => [2].contains c) "NoShape"
  xi_NoSource : XIsN ⟨K, mg, CT⟩ [2] (fun c => [3].contains c) "NoSource"
  xi_NoText : XIsN ⟨K, mg, CT⟩ [2] (fun c => [7].contains c) "NoText"
  xi_RoundError : XIsN ⟨K, mg, CT⟩ [2] (fun c => [1, 2, 3, 4, 5, 6, 7, 8, 9].contains c) "RoundError"
  xi_TooLong : XIsN ⟨K, mg, CT⟩ [2] (fun c => [9].contains c) "TooLong"
  xb_ValueError : XIs ⟨K, mg, CT⟩ [2] (fun _ => true) (.type "ValueError")
  x0_NoShape : X0 ⟨K, mg, CT⟩ 2 "NoShape"
section
variable {P : Program} {w : World} {K : PySem.W.Frag} {mg : Str → Option Value} {base : Heap}
abbrev s_is_name : Stmt := topS 15
theorem sc_is_name : FnScope ["thing", "letter"] ["thing"] (defScope s_is_name) := ⟨rfl, rfl, rfl, by decide +kernel, rfl, by decide +kernel, by decide +kernel⟩
def b_is_name : DS := dSeq (dIfS (dtOr (dtNot (dtB (dIsi [0] [.str] (dVar 0)))) (dtNot (dtB (dChain dLe dLe (dC (.int 1)) (dL dLen (dCons (dVar 0) (dNil))) (dC (.int (6))))))) (dRet (dC (.bl false))) dNext) (dRet (dL dAll (dCons (dLc [1] (diSeqS (dVar 0)) (.nm 1) dtYes (dChain dLe dLe (dC (.str "a")) (dVar 1) (dC (.str "z")))) (dNil))))
def df_is_name : DFp := defP 1 2 b_is_name
theorem ok_is_name (T : Txt w K mg)  {f : Addr} {fd : FuncData} (Fn : Fun K "is_name" "is_name" s_is_name f fd) : FnOk P w K mg base CX0 (0 + 1) f fd ["thing"] (spP ⟨K, mg, CT⟩ df_is_name) :=
  by
    show FnOk P w K mg base CX0 (0 + 1) f fd ["thing"] (spP ⟨K, mg, CT⟩ (defP 1 2 b_is_name))
    refine fnP (N := ["thing", "letter"]) (ps := ["thing"]) Fn sc_is_name (by decide) ?_
    intro cdv A outer s H E hr
    have nd := sc_is_name.nd
    refine sss_cons ?_ ?_
    · refine ss_if ?_ ?_ ?_
      · refine SW.t ?_
        · refine sw_or ?_ ?_
          · refine st_not ?_
            · refine st_val ?_
              · refine se_isi1 (T := .str) T.ins rfl T.b_isinstance rfl T.b_str (by decide +kernel) ?_
                · exact se_var 0
          · refine sw_or1 ?_
            · refine st_not ?_
              · refine st_chain op_leD sem_ord op_leD sem_ord ?_ ?_ ?_
                · exact se_int
                · refine se_callB Sim.call_lenD sem_len rfl T.b_len (by decide +kernel) ?_
                  · refine sa_cons ?_ ?_
                    · exact se_var 0
                    · exact sa_nil
                · exact se_gI rfl T.c_LONGEST_NAME
      · refine sss_one ?_
        · refine ss_ret ?_
          · exact se_bl
      · exact sss_nil
    · refine sss_one ?_
      · refine ss_ret ?_
        · refine se_callB (call_allB rfl) sem_all rfl T.b_all (by decide +kernel) ?_
          · refine sa_cons ?_ ?_
            · refine se_lc (own := [("letter", 1)]) rfl nd ?_ ?_ ?_ ?_ ?_
              · refine si_seqS ?_
                · exact se_var 0
              · exact blkOk_by (N := ["thing", "letter"]) (sc := defScope s_is_name) (own := [("letter", 1)]) (by decide +kernel)
              · intro _ _ _ _ _
                exact sg_name (i := 1) nd rfl (by first | exact Or.inl rfl | exact Or.inr rfl)
              · intro _ _ _ _ _
                exact sts_nil
              · intro _ _ _ _ _
                refine se_chain op_leD sem_ord op_leD sem_ord ?_ ?_ ?_
                · exact se_str
                · exact se_var 1
                · exact se_str
            · exact sa_nil
abbrev s_is_signs : Stmt := topS 16
theorem sc_is_signs : FnScope ["thing", "sign"] ["thing"] (defScope s_is_signs) := ⟨rfl, rfl, rfl, by decide +kernel, rfl, by decide +kernel, by decide +kernel⟩
def b_is_signs : DS := dRet (dAndV (dIsi [0] [.str] (dVar 0)) (dL dAll (dCons (dLc [1] (diSeqS (dVar 0)) (.nm 1) dtYes (dChain dLe dLe (dC (.str " ")) (dVar 1) (dC (.str "~")))) (dNil))))
def df_is_signs : DFp := defP 1 2 b_is_signs
theorem ok_is_signs (T : Txt w K mg)  {f : Addr} {fd : FuncData} (Fn : Fun K "is_signs" "is_signs" s_is_signs f fd) : FnOk P w K mg base CX0 (0 + 1) f fd ["thing"] (spP ⟨K, mg, CT⟩ df_is_signs) :=
  by
    show FnOk P w K mg base CX0 (0 + 1) f fd ["thing"] (spP ⟨K, mg, CT⟩ (defP 1 2 b_is_signs))
    refine fnP (N := ["thing", "sign"]) (ps := ["thing"]) Fn sc_is_signs (by decide) ?_
    intro cdv A outer s H E hr
    have nd := sc_is_signs.nd
    refine sss_one ?_
    · refine ss_ret ?_
      · refine se_and ?_ ?_
        · refine se_isi1 (T := .str) T.ins rfl T.b_isinstance rfl T.b_str (by decide +kernel) ?_
          · exact se_var 0
        · refine se_one ?_
          · refine se_callB (call_allB rfl) sem_all rfl T.b_all (by decide +kernel) ?_
            · refine sa_cons ?_ ?_
              · refine se_lc (own := [("sign", 1)]) rfl nd ?_ ?_ ?_ ?_ ?_
                · refine si_seqS ?_
                  · exact se_var 0
                · exact blkOk_by (N := ["thing", "sign"]) (sc := defScope s_is_signs) (own := [("sign", 1)]) (by decide +kernel)
                · intro _ _ _ _ _
                  exact sg_name (i := 1) nd rfl (by first | exact Or.inl rfl | exact Or.inr rfl)
                · intro _ _ _ _ _
                  exact sts_nil
                · intro _ _ _ _ _
                  refine se_chain op_leD sem_ord op_leD sem_ord ?_ ?_ ?_
                  · exact se_str
                  · exact se_var 1
                  · exact se_str
              · exact sa_nil
abbrev s_is_number : Stmt := topS 17
theorem sc_is_number : FnScope ["thing"] ["thing"] (defScope s_is_number) := ⟨rfl, rfl, rfl, by decide +kernel, rfl, by decide +kernel, by decide +kernel⟩
def b_is_number : DS := dRet (dAndV (dIsi [0] [.int] (dVar 0)) (dNotV (dIsi [0] [.bool] (dVar 0))))
def df_is_number : DFp := defP 1 1 b_is_number
theorem ok_is_number (T : Txt w K mg)  {f : Addr} {fd : FuncData} (Fn : Fun K "is_number" "is_number" s_is_number f fd) : FnOk P w K mg base CX0 (0 + 1) f fd ["thing"] (spP ⟨K, mg, CT⟩ df_is_number) :=
  by
    show FnOk P w K mg base CX0 (0 + 1) f fd ["thing"] (spP ⟨K, mg, CT⟩ (defP 1 1 b_is_number))
    refine fnP (N := ["thing"]) (ps := ["thing"]) Fn sc_is_number (by decide) ?_
    intro cdv A outer s H E hr
    have nd := sc_is_number.nd
    refine sss_one ?_
    · refine ss_ret ?_
      · refine se_and ?_ ?_
        · refine se_isi1 (T := .int) T.ins rfl T.b_isinstance rfl T.b_int (by decide +kernel) ?_
          · exact se_var 0
        · refine se_one ?_
          · refine se_not ?_
            · refine se_isi1 (T := .bool) T.ins rfl T.b_isinstance rfl T.b_bool (by decide +kernel) ?_
              · exact se_var 0
abbrev s_is_number_from : Stmt := topS 18
theorem sc_is_number_from : FnScope ["thing", "least", "most"] ["thing", "least", "most"] (defScope s_is_number_from) := ⟨rfl, rfl, rfl, by decide +kernel, rfl, by decide +kernel, by decide +kernel⟩
def b_is_number_from : DS := dRet (dAndV (dCallP df_is_number (dCons (dVar 0) (dNil))) (dChain dLe dLe (dVar 1) (dVar 0) (dVar 2)))
def df_is_number_from : DFp := defP 3 3 b_is_number_from
theorem ok_is_number_from (T : Txt w K mg) (C_is_number : CalP CT P w K mg base 1 "is_number" df_is_number) {f : Addr} {fd : FuncData} (Fn : Fun K "is_number_from" "is_number_from" s_is_number_from f fd) : FnOk P w K mg base CX0 (1 + 1) f fd ["thing", "least", "most"] (spP ⟨K, mg, CT⟩ df_is_number_from) :=
  by
    show FnOk P w K mg base CX0 (1 + 1) f fd ["thing", "least", "most"] (spP ⟨K, mg, CT⟩ (defP 3 3 b_is_number_from))
    refine fnP (N := ["thing", "least", "most"]) (ps := ["thing", "least", "most"]) Fn sc_is_number_from (by decide) ?_
    intro cdv A outer s H E hr
    have nd := sc_is_number_from.nd
    refine sss_one ?_
    · refine ss_ret ?_
      · refine se_and ?_ ?_
        · refine se_callP C_is_number hr (by first | decide | omega) rfl ?_
          · refine sa_cons ?_ ?_
            · exact se_var 0
            · exact sa_nil
        · refine se_one ?_
          · refine se_chain op_leD sem_ord op_leD sem_ord ?_ ?_ ?_
            · exact se_var 1
            · exact se_var 0
            · exact se_var 2
abbrev s_is_mark : Stmt := topS 19
theorem sc_is_mark : FnScope ["thing", "column", "sign"] ["thing"] (defScope s_is_mark) := ⟨rfl, rfl, rfl, by decide +kernel, rfl, by decide +kernel, by decide +kernel⟩
def b_is_mark : DS := dSeq (dIfS (dtB (d2 dIsN (dVar 0) (dC .non))) (dRet (dC (.bl true))) dNext) (dSeq (dIfS (dtOr (dtNot (dtB (dIsi [0] [.tup] (dVar 0)))) (dtB (d2 dNe (dL dLen (dCons (dVar 0) (dNil))) (dC (.int 2))))) (dRet (dC (.bl false))) dNext) (dSeq (dAsgP (.tup (.cons (.nm 1) (.cons (.nm 2) (.nil)))) (dVar 0)) (dRet (dAndV (dCallP df_is_number_from (dCons (dVar 1) (dCons (dC (.int 1)) (dCons (dC (.int (60))) (dNil))))) (dAndV (dCallP df_is_signs (dCons (dVar 2) (dNil))) (d2 dEq (dL dLen (dCons (dVar 2) (dNil))) (dC (.int 1))))))))
def df_is_mark : DFp := defP 1 3 b_is_mark
theorem ok_is_mark (T : Txt w K mg) (C_is_number_from : CalP CT P w K mg base 2 "is_number_from" df_is_number_from) (C_is_signs : CalP CT P w K mg base 1 "is_signs" df_is_signs) {f : Addr} {fd : FuncData} (Fn : Fun K "is_mark" "is_mark" s_is_mark f fd) : FnOk P w K mg base CX0 (2 + 1) f fd ["thing"] (spP ⟨K, mg, CT⟩ df_is_mark) :=
  by
    show FnOk P w K mg base CX0 (2 + 1) f fd ["thing"] (spP ⟨K, mg, CT⟩ (defP 1 3 b_is_mark))
    refine fnP (N := ["thing", "column", "sign"]) (ps := ["thing"]) Fn sc_is_mark (by decide) ?_
    intro cdv A outer s H E hr
    have nd := sc_is_mark.nd
    refine sss_cons ?_ ?_
    · refine ss_if ?_ ?_ ?_
      · refine st_cmp op_isN sem_isN ?_ ?_ (nomark _)
        · exact se_var 0
        · exact se_non
      · refine sss_one ?_
        · refine ss_ret ?_
          · exact se_bl
      · exact sss_nil
    · refine sss_cons ?_ ?_
      · refine ss_if ?_ ?_ ?_
        · refine SW.t ?_
          · refine sw_or ?_ ?_
            · refine st_not ?_
              · refine st_val ?_
                · refine se_isi1 (T := .tup) T.ins rfl T.b_isinstance rfl T.b_tuple (by decide +kernel) ?_
                  · exact se_var 0
            · refine sw_or1 ?_
              · refine st_cmp (op_neA hr.units) sem_ne ?_ ?_ (nomark _)
                · refine se_callB Sim.call_lenD sem_len rfl T.b_len (by decide +kernel) ?_
                  · refine sa_cons ?_ ?_
                    · exact se_var 0
                    · exact sa_nil
                · exact se_int
        · refine sss_one ?_
          · refine ss_ret ?_
            · exact se_bl
        · exact sss_nil
      · refine sss_cons ?_ ?_
        · refine ss_asgP ?_ ?_
          · exact se_var 0
          · refine sg_tup rfl ?_
            · refine sgs_cons ?_ ?_
              · exact sg_name (i := 1) nd rfl (by first | exact Or.inl rfl | exact Or.inr rfl)
              · refine sgs_cons ?_ ?_
                · exact sg_name (i := 2) nd rfl (by first | exact Or.inl rfl | exact Or.inr rfl)
                · exact sgs_nil
        · refine sss_one ?_
          · refine ss_ret ?_
            · refine se_and ?_ ?_
              · refine se_callP C_is_number_from hr (by first | decide | omega) rfl ?_
                · refine sa_cons ?_ ?_
                  · exact se_var 1
                  · refine sa_cons ?_ ?_
                    · exact se_int
                    · refine sa_cons ?_ ?_
                      · exact se_gI rfl T.c_WIDTH
                      · exact sa_nil
              · refine se_and ?_ ?_
                · refine se_callP C_is_signs hr (by first | decide | omega) rfl ?_
                  · refine sa_cons ?_ ?_
                    · exact se_var 2
                    · exact sa_nil
                · refine se_one ?_
                  · refine se_cmp (op_eqA hr.units) sem_eq ?_ ?_ (nomark _)
                    · refine se_callB Sim.call_lenD sem_len rfl T.b_len (by decide +kernel) ?_
                      · refine sa_cons ?_ ?_
                        · exact se_var 2
                        · exact sa_nil
                    · exact se_int
abbrev s_is_field : Stmt := topS 20
theorem sc_is_field : FnScope ["thing", "name", "column", "length", "kind"] ["thing"] (defScope s_is_field) := ⟨rfl, rfl, rfl, by decide +kernel, rfl, by decide +kernel, by decide +kernel⟩
def b_is_field : DS := dSeq (dIfS (dtOr (dtNot (dtB (dIsi [0] [.tup] (dVar 0)))) (dtB (d2 dNe (dL dLen (dCons (dVar 0) (dNil))) (dC (.int 4))))) (dRet (dC (.bl false))) dNext) (dSeq (dAsgP (.tup (.cons (.nm 1) (.cons (.nm 2) (.cons (.nm 3) (.cons (.nm 4) (.nil)))))) (dVar 0)) (dSeq (dIfS (dtOr (dtNot (dtB (dCallP df_is_name (dCons (dVar 1) (dNil))))) (dtOr (dtNot (dtB (dIsi [0] [.str] (dVar 4)))) (dtB (dInG true c_LONGEST_FIELD (dVar 4))))) (dRet (dC (.bl false))) dNext) (dSeq (dIfS (dtNot (dtB (dCallP df_is_number_from (dCons (dVar 3) (dCons (dC (.int 1)) (dCons (dIxG c_LONGEST_FIELD (dVar 4)) (dNil))))))) (dRet (dC (.bl false))) dNext) (dRet (dCallP df_is_number_from (dCons (dVar 2) (dCons (dC (.int 1)) (dCons (d2 dAddX (d2 dSub (dC (.int (60))) (dVar 3)) (dC (.int 1))) (dNil)))))))))
def df_is_field : DFp := defP 1 5 b_is_field
theorem ok_is_field (T : Txt w K mg) (C_is_name : CalP CT P w K mg base 1 "is_name" df_is_name) (C_is_number_from : CalP CT P w K mg base 2 "is_number_from" df_is_number_from) {f : Addr} {fd : FuncData} (Fn : Fun K "is_field" "is_field" s_is_field f fd) : FnOk P w K mg base CX0 (2 + 1) f fd ["thing"] (spP ⟨K, mg, CT⟩ df_is_field) :=
  by
    show FnOk P w K mg base CX0 (2 + 1) f fd ["thing"] (spP ⟨K, mg, CT⟩ (defP 1 5 b_is_field))
    refine fnP (N := ["thing", "name", "column", "length", "kind"]) (ps := ["thing"]) Fn sc_is_field (by decide) ?_
    intro cdv A outer s H E hr
    have nd := sc_is_field.nd
    refine sss_cons ?_ ?_
    · refine ss_if ?_ ?_ ?_
      · refine SW.t ?_
        · refine sw_or ?_ ?_
          · refine st_not ?_
            · refine st_val ?_
              · refine se_isi1 (T := .tup) T.ins rfl T.b_isinstance rfl T.b_tuple (by decide +kernel) ?_
                · exact se_var 0
          · refine sw_or1 ?_
            · refine st_cmp (op_neA hr.units) sem_ne ?_ ?_ (nomark _)
              · refine se_callB Sim.call_lenD sem_len rfl T.b_len (by decide +kernel) ?_
                · refine sa_cons ?_ ?_
                  · exact se_var 0
                  · exact sa_nil
              · exact se_int
      · refine sss_one ?_
        · refine ss_ret ?_
          · exact se_bl
      · exact sss_nil
    · refine sss_cons ?_ ?_
      · refine ss_asgP ?_ ?_
        · exact se_var 0
        · refine sg_tup rfl ?_
          · refine sgs_cons ?_ ?_
            · exact sg_name (i := 1) nd rfl (by first | exact Or.inl rfl | exact Or.inr rfl)
            · refine sgs_cons ?_ ?_
              · exact sg_name (i := 2) nd rfl (by first | exact Or.inl rfl | exact Or.inr rfl)
              · refine sgs_cons ?_ ?_
                · exact sg_name (i := 3) nd rfl (by first | exact Or.inl rfl | exact Or.inr rfl)
                · refine sgs_cons ?_ ?_
                  · exact sg_name (i := 4) nd rfl (by first | exact Or.inl rfl | exact Or.inr rfl)
                  · exact sgs_nil
      · refine sss_cons ?_ ?_
        · refine ss_if ?_ ?_ ?_
          · refine SW.t ?_
            · refine sw_or ?_ ?_
              · refine st_not ?_
                · refine st_val ?_
                  · refine se_callP C_is_name hr (by first | decide | omega) rfl ?_
                    · refine sa_cons ?_ ?_
                      · exact se_var 1
                      · exact sa_nil
              · refine sw_or ?_ ?_
                · refine st_not ?_
                  · refine st_val ?_
                    · refine se_isi1 (T := .str) T.ins rfl T.b_isinstance rfl T.b_str (by decide +kernel) ?_
                      · exact se_var 4
                · refine sw_or1 ?_
                  · refine st_inNG T.c_LONGEST_FIELD ?_
                    · exact se_var 4
          · refine sss_one ?_
            · refine ss_ret ?_
              · exact se_bl
          · exact sss_nil
        · refine sss_cons ?_ ?_
          · refine ss_if ?_ ?_ ?_
            · refine st_not ?_
              · refine st_val ?_
                · refine se_callP C_is_number_from hr (by first | decide | omega) rfl ?_
                  · refine sa_cons ?_ ?_
                    · exact se_var 3
                    · refine sa_cons ?_ ?_
                      · exact se_int
                      · refine sa_cons ?_ ?_
                        · refine se_ixG T.c_LONGEST_FIELD ?_
                          · exact se_var 4
                        · exact sa_nil
            · refine sss_one ?_
              · refine ss_ret ?_
                · exact se_bl
            · exact sss_nil
          · refine sss_one ?_
            · refine ss_ret ?_
              · refine se_callP C_is_number_from hr (by first | decide | omega) rfl ?_
                · refine sa_cons ?_ ?_
                  · exact se_var 2
                  · refine sa_cons ?_ ?_
                    · exact se_int
                    · refine sa_cons ?_ ?_
                      · refine se_bin op_addX sem_addX ?_ ?_
                        · refine se_bin op_sub sem_sub ?_ ?_
                          · exact se_gI rfl T.c_WIDTH
                          · exact se_var 3
                        · exact se_int
                      · exact sa_nil
abbrev s_are_unlike : Stmt := topS 21
theorem sc_are_unlike : FnScope ["things"] ["things"] (defScope s_are_unlike) := ⟨rfl, rfl, rfl, by decide +kernel, rfl, by decide +kernel, by decide +kernel⟩
def b_are_unlike : DS := dRet (d2 dEq (dLenSet (dVar 0)) (dL dLen (dCons (dVar 0) (dNil))))
def df_are_unlike : DFp := defP 1 1 b_are_unlike
theorem ok_are_unlike (T : Txt w K mg)  {f : Addr} {fd : FuncData} (Fn : Fun K "are_unlike" "are_unlike" s_are_unlike f fd) : FnOk P w K mg base CX0 (0 + 1) f fd ["things"] (spP ⟨K, mg, CT⟩ df_are_unlike) :=
  by
    show FnOk P w K mg base CX0 (0 + 1) f fd ["things"] (spP ⟨K, mg, CT⟩ (defP 1 1 b_are_unlike))
    refine fnP (N := ["things"]) (ps := ["things"]) Fn sc_are_unlike (by decide) ?_
    intro cdv A outer s H E hr
    have nd := sc_are_unlike.nd
    refine sss_one ?_
    · refine ss_ret ?_
      · refine se_cmp (op_eqA hr.units) sem_eq ?_ ?_ (nomark _)
        · refine se_lenSet rfl T.b_len rfl T.b_set rfl ?_
          · exact se_var 0
        · refine se_callB Sim.call_lenD sem_len rfl T.b_len (by decide +kernel) ?_
          · refine sa_cons ?_ ?_
            · exact se_var 0
            · exact sa_nil
def bl_taken_columns_1 : DS := dDrop (dExt (dVar 2) (dListR2 (d2 dIxA (dVar 3) (dC (.int 1))) (d2 dAddX (d2 dIxA (dVar 3) (dC (.int 1))) (d2 dIxA (dVar 3) (dC (.int 2))))))
abbrev s_taken_columns : Stmt := topS 22
theorem sc_taken_columns : FnScope ["mark", "fields", "taken", "field"] ["mark", "fields"] (defScope s_taken_columns) := ⟨rfl, rfl, rfl, by decide +kernel, rfl, by decide +kernel, by decide +kernel⟩
def b_taken_columns : DS := dSeq (dAsg 2 (dIf (dtB (d2 dIsN (dVar 0) (dC .non))) (dLst dNil) (dLst (dCons (d2 dIxA (dVar 0) (dC (.int 0))) (dNil))))) (dSeq (dFor (.nm 3) (diSeqS (dVar 1)) bl_taken_columns_1) (dRet (dVar 2)))
def df_taken_columns : DFp := defP 2 4 b_taken_columns
theorem ok_taken_columns (T : Txt w K mg)  {f : Addr} {fd : FuncData} (Fn : Fun K "taken_columns" "taken_columns" s_taken_columns f fd) : FnOk P w K mg base CX0 (0 + 1) f fd ["mark", "fields"] (spP ⟨K, mg, CT⟩ df_taken_columns) :=
  by
    show FnOk P w K mg base CX0 (0 + 1) f fd ["mark", "fields"] (spP ⟨K, mg, CT⟩ (defP 2 4 b_taken_columns))
    refine fnP (N := ["mark", "fields", "taken", "field"]) (ps := ["mark", "fields"]) Fn sc_taken_columns (by decide) ?_
    intro cdv A outer s H E hr
    have nd := sc_taken_columns.nd
    refine sss_cons ?_ ?_
    · refine ss_set (i := 2) nd rfl (by first | exact Or.inl rfl | exact Or.inr rfl) ?_
      · refine se_if ?_ ?_ ?_
        · refine st_cmp op_isN sem_isN ?_ ?_ (nomark _)
          · exact se_var 0
          · exact se_non
        · refine se_lst ?_
          · exact sa_nil
        · refine se_lst ?_
          · refine sa_cons ?_ ?_
            · refine se_ixA (hu_of hr) ?_ ?_
              · exact se_var 0
              · exact se_int
            · exact sa_nil
    · refine sss_cons ?_ ?_
      · refine ss_for PassesOwn.never rfl ?_ ?_ ?_
        · refine si_seqS ?_
          · exact se_var 1
        · exact sg_name (i := 3) nd rfl (by first | exact Or.inl rfl | exact Or.inr rfl)
        · refine sss_one ?_
          · refine ss_expr ?_
            · refine se_ext ?_ ?_
              · exact se_var 2
              · refine se_listR2 rfl rfl T.b_list rfl T.b_range ?_ ?_
                · refine se_ixA (hu_of hr) ?_ ?_
                  · exact se_var 3
                  · exact se_int
                · refine se_bin op_addX sem_addX ?_ ?_
                  · refine se_ixA (hu_of hr) ?_ ?_
                    · exact se_var 3
                    · exact se_int
                  · refine se_ixA (hu_of hr) ?_ ?_
                    · exact se_var 3
                    · exact se_int
      · refine sss_one ?_
        · refine ss_ret ?_
          · exact se_var 2
abbrev s_are_fields : Stmt := topS 23
theorem sc_are_fields : FnScope ["things", "mark", "names", "thing", "field"] ["things", "mark"] (defScope s_are_fields) := ⟨rfl, rfl, rfl, by decide +kernel, rfl, by decide +kernel, by decide +kernel⟩
def b_are_fields : DS := dSeq (dIfS (dtOr (dtNot (dtB (dIsi [0] [.tup] (dVar 0)))) (dtB (d2 dGt (dL dLen (dCons (dVar 0) (dNil))) (dC (.int (8)))))) (dRet (dC (.bl false))) dNext) (dSeq (dIfS (dtNot (dtB (dL dAll (dCons (dLc [3] (diSeqS (dVar 0)) (.nm 3) dtYes (dCallP df_is_field (dCons (dVar 3) (dNil)))) (dNil))))) (dRet (dC (.bl false))) dNext) (dSeq (dAsg 2 (dLc [4] (diSeqS (dVar 0)) (.nm 4) dtYes (d2 dIxA (dVar 4) (dC (.int 0))))) (dRet (dAndV (dCallP df_are_unlike (dCons (dVar 2) (dNil))) (dCallP df_are_unlike (dCons (dCallP df_taken_columns (dCons (dVar 1) (dCons (dVar 0) (dNil)))) (dNil)))))))
def df_are_fields : DFp := defP 2 5 b_are_fields
theorem ok_are_fields (T : Txt w K mg) (C_are_unlike : CalP CT P w K mg base 1 "are_unlike" df_are_unlike) (C_is_field : CalP CT P w K mg base 3 "is_field" df_is_field) (C_taken_columns : CalP CT P w K mg base 1 "taken_columns" df_taken_columns) {f : Addr} {fd : FuncData} (Fn : Fun K "are_fields" "are_fields" s_are_fields f fd) : FnOk P w K mg base CX0 (3 + 1) f fd ["things", "mark"] (spP ⟨K, mg, CT⟩ df_are_fields) :=
  by
    show FnOk P w K mg base CX0 (3 + 1) f fd ["things", "mark"] (spP ⟨K, mg, CT⟩ (defP 2 5 b_are_fields))
    refine fnP (N := ["things", "mark", "names", "thing", "field"]) (ps := ["things", "mark"]) Fn sc_are_fields (by decide) ?_
    intro cdv A outer s H E hr
    have nd := sc_are_fields.nd
    refine sss_cons ?_ ?_
    · refine ss_if ?_ ?_ ?_
      · refine SW.t ?_
        · refine sw_or ?_ ?_
          · refine st_not ?_
            · refine st_val ?_
              · refine se_isi1 (T := .tup) T.ins rfl T.b_isinstance rfl T.b_tuple (by decide +kernel) ?_
                · exact se_var 0
          · refine sw_or1 ?_
            · refine st_cmp op_gtD sem_ord ?_ ?_ (nomark _)
              · refine se_callB Sim.call_lenD sem_len rfl T.b_len (by decide +kernel) ?_
                · refine sa_cons ?_ ?_
                  · exact se_var 0
                  · exact sa_nil
              · exact se_gI rfl T.c_MOST_FIELDS
      · refine sss_one ?_
        · refine ss_ret ?_
          · exact se_bl
      · exact sss_nil
    · refine sss_cons ?_ ?_
      · refine ss_if ?_ ?_ ?_
        · refine st_not ?_
          · refine st_val ?_
            · refine se_callB (call_allB rfl) sem_all rfl T.b_all (by decide +kernel) ?_
              · refine sa_cons ?_ ?_
                · refine se_lc (own := [("thing", 3)]) rfl nd ?_ ?_ ?_ ?_ ?_
                  · refine si_seqS ?_
                    · exact se_var 0
                  · exact blkOk_by (N := ["things", "mark", "names", "thing", "field"]) (sc := defScope s_are_fields) (own := [("thing", 3)]) (by decide +kernel)
                  · intro _ _ _ _ _
                    exact sg_name (i := 3) nd rfl (by first | exact Or.inl rfl | exact Or.inr rfl)
                  · intro _ _ _ _ _
                    exact sts_nil
                  · intro _ _ _ _ _
                    refine se_callP C_is_field hr (by first | decide | omega) rfl ?_
                    · refine sa_cons ?_ ?_
                      · exact se_var 3
                      · exact sa_nil
                · exact sa_nil
        · refine sss_one ?_
          · refine ss_ret ?_
            · exact se_bl
        · exact sss_nil
      · refine sss_cons ?_ ?_
        · first
          | (
             refine ss_setLc (i := 2) (own := [("field", 4)]) rfl nd rfl rfl (by exact sw_true rfl rfl rfl (by decide +kernel)) ?_ ?_ ?_ ?_ ?_
             · refine si_seqS ?_
               · exact se_var 0
             · exact blkOk_by (N := ["things", "mark", "names", "thing", "field"]) (sc := defScope s_are_fields) (own := [("field", 4)]) (by decide +kernel)
             · intro _ _ _ _ _
               exact sg_name (i := 4) nd rfl (by first | exact Or.inl rfl | exact Or.inr rfl)
             · intro _ _ _ _ _
               exact sts_nil
             · intro _ _ _ _ _
               refine se_ixA (hu_of hr) ?_ ?_
               · exact se_var 4
               · exact se_int)
          | (
             refine ss_set (i := 2) nd rfl (by first | exact Or.inl rfl | exact Or.inr rfl) ?_
             · refine se_lc (own := [("field", 4)]) rfl nd ?_ ?_ ?_ ?_ ?_
               · refine si_seqS ?_
                 · exact se_var 0
               · exact blkOk_by (N := ["things", "mark", "names", "thing", "field"]) (sc := defScope s_are_fields) (own := [("field", 4)]) (by decide +kernel)
               · intro _ _ _ _ _
                 exact sg_name (i := 4) nd rfl (by first | exact Or.inl rfl | exact Or.inr rfl)
               · intro _ _ _ _ _
                 exact sts_nil
               · intro _ _ _ _ _
                 refine se_ixA (hu_of hr) ?_ ?_
                 · exact se_var 4
                 · exact se_int)
        · refine sss_one ?_
          · refine ss_ret ?_
            · refine se_and ?_ ?_
              · refine se_callP C_are_unlike hr (by first | decide | omega) rfl ?_
                · refine sa_cons ?_ ?_
                  · exact se_var 2
                  · exact sa_nil
              · refine se_one ?_
                · refine se_callP C_are_unlike hr (by first | decide | omega) rfl ?_
                  · refine sa_cons ?_ ?_
                    · refine se_callP C_taken_columns hr (by first | decide | omega) rfl ?_
                      · refine sa_cons ?_ ?_
                        · exact se_var 1
                        · refine sa_cons ?_ ?_
                          · exact se_var 0
                          · exact sa_nil
                    · exact sa_nil
abbrev s_are_parts : Stmt := topS 24
theorem sc_are_parts : FnScope ["name", "mark", "fields"] ["name", "mark", "fields"] (defScope s_are_parts) := ⟨rfl, rfl, rfl, by decide +kernel, rfl, by decide +kernel, by decide +kernel⟩
def b_are_parts : DS := dRet (dAndV (dCallP df_is_name (dCons (dVar 0) (dNil))) (dAndV (dCallP df_is_mark (dCons (dVar 1) (dNil))) (dCallP df_are_fields (dCons (dVar 2) (dCons (dVar 1) (dNil))))))
def df_are_parts : DFp := defP 3 3 b_are_parts
theorem ok_are_parts (T : Txt w K mg) (C_are_fields : CalP CT P w K mg base 4 "are_fields" df_are_fields) (C_is_mark : CalP CT P w K mg base 3 "is_mark" df_is_mark) (C_is_name : CalP CT P w K mg base 1 "is_name" df_is_name) {f : Addr} {fd : FuncData} (Fn : Fun K "are_parts" "are_parts" s_are_parts f fd) : FnOk P w K mg base CX0 (4 + 1) f fd ["name", "mark", "fields"] (spP ⟨K, mg, CT⟩ df_are_parts) :=
  by
    show FnOk P w K mg base CX0 (4 + 1) f fd ["name", "mark", "fields"] (spP ⟨K, mg, CT⟩ (defP 3 3 b_are_parts))
    refine fnP (N := ["name", "mark", "fields"]) (ps := ["name", "mark", "fields"]) Fn sc_are_parts (by decide) ?_
    intro cdv A outer s H E hr
    have nd := sc_are_parts.nd
    refine sss_one ?_
    · refine ss_ret ?_
      · refine se_and ?_ ?_
        · refine se_callP C_is_name hr (by first | decide | omega) rfl ?_
          · refine sa_cons ?_ ?_
            · exact se_var 0
            · exact sa_nil
        · refine se_and ?_ ?_
          · refine se_callP C_is_mark hr (by first | decide | omega) rfl ?_
            · refine sa_cons ?_ ?_
              · exact se_var 1
              · exact sa_nil
          · refine se_one ?_
            · refine se_callP C_are_fields hr (by first | decide | omega) rfl ?_
              · refine sa_cons ?_ ?_
                · exact se_var 2
                · refine sa_cons ?_ ?_
                  · exact se_var 1
                  · exact sa_nil
abbrev s_Shape_initX : Stmt := inClass (topS 25) 0
theorem sc_Shape_initX : FnScope ["self", "name", "mark", "fields"] ["self", "name", "mark", "fields"] (defScope s_Shape_initX) := ⟨rfl, rfl, rfl, by decide +kernel, rfl, by decide +kernel, by decide +kernel⟩
def b_Shape_initX : DS := dSeq (dIfS (dtNot (dtB (dCallP df_are_parts (dCons (dVar 1) (dCons (dVar 2) (dCons (dVar 3) (dNil))))))) (dRaise0 2) dNext) (dSeq (dSetF 0 0 (dVar 0) (dVar 1)) (dSeq (dSetF 0 1 (dVar 0) (dVar 2)) (dSetF 0 2 (dVar 0) (dVar 3))))
def df_Shape_initX : DFmx := defMX 4 4 b_Shape_initX
theorem ok_Shape_initX (T : Txt w K mg) (C_are_parts : CalP CT P w K mg base 5 "are_parts" df_are_parts) {f : Addr} {fd : FuncData} (Fn : Fun K "__init__" "Shape.__init__" s_Shape_initX f fd) : FnOk P w K mg base (L2.CX P w) (5 + 1) f fd ["self", "name", "mark", "fields"] (spMX ⟨K, mg, CT⟩ df_Shape_initX) :=
  by
    show FnOk P w K mg base (L2.CX P w) (5 + 1) f fd ["self", "name", "mark", "fields"] (spMX ⟨K, mg, CT⟩ (defMX 4 4 b_Shape_initX))
    refine fnMX (N := ["self", "name", "mark", "fields"]) (ps := ["self", "name", "mark", "fields"]) Fn sc_Shape_initX (by decide) ?_
    intro cdv A outer s H E hr
    have nd := sc_Shape_initX.nd
    refine sss_cons ?_ ?_
    · refine ss_if ?_ ?_ ?_
      · refine st_not ?_
        · refine st_val ?_
          · refine se_callP C_are_parts hr (by first | decide | omega) rfl ?_
            · refine sa_cons ?_ ?_
              · exact se_var 1
              · refine sa_cons ?_ ?_
                · exact se_var 2
                · refine sa_cons ?_ ?_
                  · exact se_var 3
                  · exact sa_nil
      · refine sss_one ?_
        · exact ss_raise0N rfl T.x0_NoShape rfl
      · exact sss_nil
    · refine sss_cons ?_ ?_
      · refine ss_setF T.a_Shape_name ?_ ?_
        · exact se_var 0
        · exact se_var 1
      · refine sss_cons ?_ ?_
        · refine ss_setF T.a_Shape_mark ?_ ?_
          · exact se_var 0
          · exact se_var 2
        · refine sss_one ?_
          · refine ss_setF T.a_Shape_fields ?_ ?_
            · exact se_var 0
            · exact se_var 3
abbrev s_law_begun : Stmt := topS 27
theorem sc_law_begun : FnScope ["_law_cell", "_law_k", "_law_seed"] ["_law_cell", "_law_k"] (defScope s_law_begun) := ⟨rfl, rfl, rfl, by decide +kernel, rfl, by decide +kernel, by decide +kernel⟩
def b_law_begun : DS := dSeq (dAsg 2 (d2 dAddX (dC (.int 1)) (d2 dMod (d2 dPow (d2 dAddX (d2 dAddX (d2 dMulM (d2 dMod (dVar 0) (dC (.int 2147483647))) (dC (.int 48271))) (d2 dMulM (dC (.int 104729)) (dVar 1))) (dC (.int 7))) (dC (.int 3))) (dC (.int 2147483629))))) (dSeq (dIfS (dtB (d2 dGe (dVar 0) (d2 dPow (dC (.int 10)) (dC (.int 18))))) (dRet (dLst (dCons (d2 dSub (dVar 0) (d2 dPow (dC (.int 10)) (dC (.int 18)))) (dCons (dVar 2) (dCons (dC (.int 0)) (dNil)))))) dNext) (dRet (dLst (dCons (dC (.int 0)) (dCons (dVar 2) (dCons (dC (.int 0)) (dNil)))))))
def df_law_begun : DFp := defP 2 3 b_law_begun
theorem ok_law_begun (T : Txt w K mg)  {f : Addr} {fd : FuncData} (Fn : Fun K "_law_begun" "_law_begun" s_law_begun f fd) : FnOk P w K mg base CX0 (0 + 1) f fd ["_law_cell", "_law_k"] (spP ⟨K, mg, CT⟩ df_law_begun) :=
  by
    show FnOk P w K mg base CX0 (0 + 1) f fd ["_law_cell", "_law_k"] (spP ⟨K, mg, CT⟩ (defP 2 3 b_law_begun))
    refine fnP (N := ["_law_cell", "_law_k", "_law_seed"]) (ps := ["_law_cell", "_law_k"]) Fn sc_law_begun (by decide) ?_
    intro cdv A outer s H E hr
    have nd := sc_law_begun.nd
    refine sss_cons ?_ ?_
    · refine ss_set (i := 2) nd rfl (by first | exact Or.inl rfl | exact Or.inr rfl) ?_
      · refine se_bin op_addX sem_addX ?_ ?_
        · exact se_int
        · refine se_bin op_modN sem_mod ?_ ?_
          · refine se_bin op_pow sem_pow ?_ ?_
            · refine se_bin op_addX sem_addX ?_ ?_
              · refine se_bin op_addX sem_addX ?_ ?_
                · refine se_bin op_mulM sem_mulM ?_ ?_
                  · refine se_bin op_modN sem_mod ?_ ?_
                    · exact se_var 0
                    · exact se_int
                  · exact se_int
                · refine se_bin op_mulM sem_mulM ?_ ?_
                  · exact se_int
                  · exact se_var 1
              · exact se_int
            · exact se_int
          · exact se_int
    · refine sss_cons ?_ ?_
      · refine ss_if ?_ ?_ ?_
        · refine st_cmp op_geD sem_ord ?_ ?_ (nomark _)
          · exact se_var 0
          · refine se_bin op_pow sem_pow ?_ ?_
            · exact se_int
            · exact se_int
        · refine sss_one ?_
          · refine ss_ret ?_
            · refine se_lst ?_
              · refine sa_cons ?_ ?_
                · refine se_bin op_sub sem_sub ?_ ?_
                  · exact se_var 0
                  · refine se_bin op_pow sem_pow ?_ ?_
                    · exact se_int
                    · exact se_int
                · refine sa_cons ?_ ?_
                  · exact se_var 2
                  · refine sa_cons ?_ ?_
                    · exact se_int
                    · exact sa_nil
        · exact sss_nil
      · refine sss_one ?_
        · refine ss_ret ?_
          · refine se_lst ?_
            · refine sa_cons ?_ ?_
              · exact se_int
              · refine sa_cons ?_ ?_
                · exact se_var 2
                · refine sa_cons ?_ ?_
                  · exact se_int
                  · exact sa_nil
abbrev s_law_next : Stmt := topS 28
theorem sc_law_next : FnScope ["_law_draw", "_law_size", "_law_found", "_law_mixed"] ["_law_draw", "_law_size"] (defScope s_law_next) := ⟨rfl, rfl, rfl, by decide +kernel, rfl, by decide +kernel, by decide +kernel⟩
def b_law_next : DS := dSeq (dIfS (dtB (d2 dGt (d2 dIxA (dVar 0) (dC (.int 0))) (dC (.int 0)))) (dSeq (dAsg 2 (d2 dMod (d2 dIxA (dVar 0) (dC (.int 0))) (dVar 1))) (dSeq (dStore (dVar 0) (dC (.int 0)) (d2 dDivW (d2 dIxA (dVar 0) (dC (.int 0))) (dVar 1))) (dRet (dVar 2)))) dNext) (dSeq (dStore (dVar 0) (dC (.int 2)) (d2 dAddX (d2 dIxA (dVar 0) (dC (.int 2))) (dC (.int 1)))) (dSeq (dAsg 3 (d2 dMod (d2 dPow (d2 dAddX (d2 dAddX (d2 dMulM (d2 dIxA (dVar 0) (dC (.int 1))) (d2 dAddX (d2 dMulM (dC (.int 2)) (d2 dIxA (dVar 0) (dC (.int 2)))) (dC (.int 1)))) (d2 dMulM (d2 dMulM (dC (.int 7919)) (d2 dIxA (dVar 0) (dC (.int 2)))) (d2 dIxA (dVar 0) (dC (.int 2))))) (dC (.int 11))) (dC (.int 5))) (dC (.int 2147483647)))) (dRet (d2 dMod (d2 dDivW (dVar 3) (dC (.int 11))) (dVar 1)))))
def df_law_next : DFm := defM 2 4 b_law_next
theorem ok_law_next (T : Txt w K mg)  {f : Addr} {fd : FuncData} (Fn : Fun K "_law_next" "_law_next" s_law_next f fd) : FnOk P w K mg base CX0 (0 + 1) f fd ["_law_draw", "_law_size"] (spM ⟨K, mg, CT⟩ df_law_next) :=
  by
    show FnOk P w K mg base CX0 (0 + 1) f fd ["_law_draw", "_law_size"] (spM ⟨K, mg, CT⟩ (defM 2 4 b_law_next))
    refine fnM (N := ["_law_draw", "_law_size", "_law_found", "_law_mixed"]) (ps := ["_law_draw", "_law_size"]) Fn sc_law_next (by decide) ?_
    intro cdv A outer s H E hr
    have nd := sc_law_next.nd
    refine sss_cons ?_ ?_
    · refine ss_if ?_ ?_ ?_
      · refine st_cmp op_gtD sem_ord ?_ ?_ (nomark _)
        · refine se_ixA (hu_of hr) ?_ ?_
          · exact se_var 0
          · exact se_int
        · exact se_int
      · refine sss_cons ?_ ?_
        · refine ss_set (i := 2) nd rfl (by first | exact Or.inl rfl | exact Or.inr rfl) ?_
          · refine se_bin op_modN sem_mod ?_ ?_
            · refine se_ixA (hu_of hr) ?_ ?_
              · exact se_var 0
              · exact se_int
            · exact se_var 1
        · refine sss_cons ?_ ?_
          · refine ss_store (hu_of hr) ?_ ?_ ?_
            · exact se_var 0
            · exact se_int
            · refine se_bin L2.op_fdivW sem_divW2 ?_ ?_
              · refine se_ixA (hu_of hr) ?_ ?_
                · exact se_var 0
                · exact se_int
              · exact se_var 1
          · refine sss_one ?_
            · refine ss_ret ?_
              · exact se_var 2
      · exact sss_nil
    · refine sss_cons ?_ ?_
      · refine ss_store (hu_of hr) ?_ ?_ ?_
        · exact se_var 0
        · exact se_int
        · refine se_bin op_addX sem_addX ?_ ?_
          · refine se_ixA (hu_of hr) ?_ ?_
            · exact se_var 0
            · exact se_int
          · exact se_int
      · refine sss_cons ?_ ?_
        · refine ss_set (i := 3) nd rfl (by first | exact Or.inl rfl | exact Or.inr rfl) ?_
          · refine se_bin op_modN sem_mod ?_ ?_
            · refine se_bin op_pow sem_pow ?_ ?_
              · refine se_bin op_addX sem_addX ?_ ?_
                · refine se_bin op_addX sem_addX ?_ ?_
                  · refine se_bin op_mulM sem_mulM ?_ ?_
                    · refine se_ixA (hu_of hr) ?_ ?_
                      · exact se_var 0
                      · exact se_int
                    · refine se_bin op_addX sem_addX ?_ ?_
                      · refine se_bin op_mulM sem_mulM ?_ ?_
                        · exact se_int
                        · refine se_ixA (hu_of hr) ?_ ?_
                          · exact se_var 0
                          · exact se_int
                      · exact se_int
                  · refine se_bin op_mulM sem_mulM ?_ ?_
                    · refine se_bin op_mulM sem_mulM ?_ ?_
                      · exact se_int
                      · refine se_ixA (hu_of hr) ?_ ?_
                        · exact se_var 0
                        · exact se_int
                    · refine se_ixA (hu_of hr) ?_ ?_
                      · exact se_var 0
                      · exact se_int
                · exact se_int
              · exact se_int
            · exact se_int
        · refine sss_one ?_
          · refine ss_ret ?_
            · refine se_bin op_modN sem_mod ?_ ?_
              · refine se_bin L2.op_fdivW sem_divW2 ?_ ?_
                · exact se_var 3
                · exact se_int
              · exact se_var 1
abbrev s_law_pick : Stmt := topS 29
theorem sc_law_pick : FnScope ["_law_draw", "_law_some"] ["_law_draw", "_law_some"] (defScope s_law_pick) := ⟨rfl, rfl, rfl, by decide +kernel, rfl, by decide +kernel, by decide +kernel⟩
def b_law_pick : DS := dRet (d2 dIxA (dVar 1) (dCallM df_law_next (dVar 0) (dCons (dL dLen (dCons (dVar 1) (dNil))) (dNil))))
def df_law_pick : DFm := defM 2 2 b_law_pick
theorem ok_law_pick (T : Txt w K mg) (C_law_next : CalM CT P w K mg base 1 "_law_next" df_law_next) {f : Addr} {fd : FuncData} (Fn : Fun K "_law_pick" "_law_pick" s_law_pick f fd) : FnOk P w K mg base CX0 (1 + 1) f fd ["_law_draw", "_law_some"] (spM ⟨K, mg, CT⟩ df_law_pick) :=
  by
    show FnOk P w K mg base CX0 (1 + 1) f fd ["_law_draw", "_law_some"] (spM ⟨K, mg, CT⟩ (defM 2 2 b_law_pick))
    refine fnM (N := ["_law_draw", "_law_some"]) (ps := ["_law_draw", "_law_some"]) Fn sc_law_pick (by decide) ?_
    intro cdv A outer s H E hr
    have nd := sc_law_pick.nd
    refine sss_one ?_
    · refine ss_ret ?_
      · refine se_ixA (hu_of hr) ?_ ?_
        · exact se_var 1
        · refine se_callM C_law_next hr (by first | decide | omega) rfl ?_ ?_
          · exact se_var 0
          · refine sa_cons ?_ ?_
            · refine se_callB Sim.call_lenD sem_len rfl T.b_len (by decide +kernel) ?_
              · refine sa_cons ?_ ?_
                · exact se_var 1
                · exact sa_nil
            · exact sa_nil
abbrev s_law_names : Stmt := topS 30
theorem sc_law_names : FnScope ["_law_draw", "_law_many", "_law_own", "_law_small", "_law_lead", "_law_turn", "_law_tails", "_law_k"] ["_law_draw", "_law_many"] (defScope s_law_names) := ⟨rfl, rfl, rfl, by decide +kernel, rfl, by decide +kernel, by decide +kernel⟩
def b_law_names : DS := dSeq (dAsg 2 (dC (.str "shape field keys source levels boxes flags step line total detail set on off leave"))) (dSeq (dAsg 2 (dMS dSplit (d2 dAddX (dVar 2) (dC (.str " ask under same over none text number times land out end"))) (dCons (dC (.str " ")) (dNil)))) (dSeq (dAsg 3 (dC (.str "abcdefghijklmnopqrstuvwxyz"))) (dSeq (dMulti [4, 5] (dCons (dCallM df_law_next (dVar 0) (dCons (dC (.int 26)) (dNil))) (dCons (dCallM df_law_next (dVar 0) (dCons (dC (.int 6)) (dNil))) (dNil)))) (dSeq (dIfS (dtB (d2 dEq (dCallM df_law_next (dVar 0) (dCons (dC (.int 4)) (dNil))) (dC (.int 0)))) (dRet (dSl dSliceX (d2 dAddX (dSl dSliceX (dVar 2) (doSome (dVar 4)) doNone) (dSl dSliceX (dVar 2) doNone (doSome (dVar 4)))) doNone (doSome (dVar 1)))) dNext) (dSeq (dAsg 6 (dLst (dCons (dC (.str "")) (dCons (dC (.str "x")) (dCons (dC (.str "qx")) (dCons (dC (.str "qxq")) (dCons (dC (.str "qxqx")) (dCons (dC (.str "xxqxq")) (dNil))))))))) (dRet (dLc [7] (diR1 (dVar 1)) (.nm 7) dtYes (d2 dAddX (d2 dIxA (dVar 3) (d2 dMod (d2 dAddX (dVar 4) (d2 dMulM (dC (.int 5)) (dVar 7))) (dC (.int 26)))) (d2 dIxA (dVar 6) (d2 dMod (d2 dAddX (dVar 5) (d2 dMulM (dVar 7) (dVar 7))) (dC (.int 6))))))))))))
def df_law_names : DFm := defM 2 8 b_law_names
theorem ok_law_names (T : Txt w K mg) (C_law_next : CalM CT P w K mg base 1 "_law_next" df_law_next) {f : Addr} {fd : FuncData} (Fn : Fun K "_law_names" "_law_names" s_law_names f fd) : FnOk P w K mg base CX0 (1 + 1) f fd ["_law_draw", "_law_many"] (spM ⟨K, mg, CT⟩ df_law_names) :=
  by
    show FnOk P w K mg base CX0 (1 + 1) f fd ["_law_draw", "_law_many"] (spM ⟨K, mg, CT⟩ (defM 2 8 b_law_names))
    refine fnM (N := ["_law_draw", "_law_many", "_law_own", "_law_small", "_law_lead", "_law_turn", "_law_tails", "_law_k"]) (ps := ["_law_draw", "_law_many"]) Fn sc_law_names (by decide) ?_
    intro cdv A outer s H E hr
    have nd := sc_law_names.nd
    refine sss_cons ?_ ?_
    · refine ss_set (i := 2) nd rfl (by first | exact Or.inl rfl | exact Or.inr rfl) ?_
      · exact se_str
    · refine sss_cons ?_ ?_
      · refine ss_set (i := 2) nd rfl (by first | exact Or.inl rfl | exact Or.inr rfl) ?_
        · refine se_ms PySem.F.slot_str_split PySem.F.type_str_split mt_split sem_split ?_ ?_
          · refine se_bin op_addX sem_addX ?_ ?_
            · exact se_var 2
            · exact se_str
          · refine sa_cons ?_ ?_
            · exact se_str
            · exact sa_nil
      · refine sss_cons ?_ ?_
        · refine ss_set (i := 3) nd rfl (by first | exact Or.inl rfl | exact Or.inr rfl) ?_
          · exact se_str
        · refine sss_cons ?_ ?_
          · first
            | (
               refine ss_par (i := 4) (j := 5) rfl nd rfl rfl (by decide) rfl rfl ?_
               · refine sa_cons ?_ ?_
                 · refine se_callM C_law_next hr (by first | decide | omega) rfl ?_ ?_
                   · exact se_var 0
                   · refine sa_cons ?_ ?_
                     · exact se_int
                     · exact sa_nil
                 · refine sa_cons ?_ ?_
                   · refine se_callM C_law_next hr (by first | decide | omega) rfl ?_ ?_
                     · exact se_var 0
                     · refine sa_cons ?_ ?_
                       · exact se_int
                       · exact sa_nil
                   · exact sa_nil)
            | (
               refine ss_multi (is := [4, 5]) rfl ?_ ?_
               · refine sa_cons ?_ ?_
                 · refine se_callM C_law_next hr (by first | decide | omega) rfl ?_ ?_
                   · exact se_var 0
                   · refine sa_cons ?_ ?_
                     · exact se_int
                     · exact sa_nil
                 · refine sa_cons ?_ ?_
                   · refine se_callM C_law_next hr (by first | decide | omega) rfl ?_ ?_
                     · exact se_var 0
                     · refine sa_cons ?_ ?_
                       · exact se_int
                       · exact sa_nil
                   · exact sa_nil
               · refine sns_cons (i := 4) nd rfl (by first | exact Or.inl rfl | exact Or.inr rfl) ?_
                 · refine sns_cons (i := 5) nd rfl (by first | exact Or.inl rfl | exact Or.inr rfl) ?_
                   · exact sns_nil)
          · refine sss_cons ?_ ?_
            · refine ss_if ?_ ?_ ?_
              · refine st_cmp (op_eqA hr.units) sem_eq ?_ ?_ (nomark _)
                · refine se_callM C_law_next hr (by first | decide | omega) rfl ?_ ?_
                  · exact se_var 0
                  · refine sa_cons ?_ ?_
                    · exact se_int
                    · exact sa_nil
                · exact se_int
              · refine sss_one ?_
                · refine ss_ret ?_
                  · refine se_slice sl_X sem_sliceX ?_ ?_ ?_
                    · refine se_bin op_addX sem_addX ?_ ?_
                      · refine se_slice sl_X sem_sliceX ?_ ?_ ?_
                        · exact se_var 2
                        · refine so_some ?_
                          · exact se_var 4
                        · exact so_none
                      · refine se_slice sl_X sem_sliceX ?_ ?_ ?_
                        · exact se_var 2
                        · exact so_none
                        · refine so_some ?_
                          · exact se_var 4
                    · exact so_none
                    · refine so_some ?_
                      · exact se_var 1
              · exact sss_nil
            · refine sss_cons ?_ ?_
              · refine ss_set (i := 6) nd rfl (by first | exact Or.inl rfl | exact Or.inr rfl) ?_
                · refine se_lst ?_
                  · refine sa_cons ?_ ?_
                    · exact se_str
                    · refine sa_cons ?_ ?_
                      · exact se_str
                      · refine sa_cons ?_ ?_
                        · exact se_str
                        · refine sa_cons ?_ ?_
                          · exact se_str
                          · refine sa_cons ?_ ?_
                            · exact se_str
                            · refine sa_cons ?_ ?_
                              · exact se_str
                              · exact sa_nil
              · refine sss_one ?_
                · refine ss_ret ?_
                  · refine se_lc (own := [("_law_k", 7)]) rfl nd ?_ ?_ ?_ ?_ ?_
                    · refine si_range1 rfl T.b_range ?_
                      · exact se_var 1
                    · exact blkOk_by (N := ["_law_draw", "_law_many", "_law_own", "_law_small", "_law_lead", "_law_turn", "_law_tails", "_law_k"]) (sc := defScope s_law_names) (own := [("_law_k", 7)]) (by decide +kernel)
                    · intro _ _ _ _ _
                      exact sg_name (i := 7) nd rfl (by first | exact Or.inl rfl | exact Or.inr rfl)
                    · intro _ _ _ _ _
                      exact sts_nil
                    · intro _ _ _ _ _
                      refine se_bin op_addX sem_addX ?_ ?_
                      · refine se_ixA (hu_of hr) ?_ ?_
                        · exact se_var 3
                        · refine se_bin op_modN sem_mod ?_ ?_
                          · refine se_bin op_addX sem_addX ?_ ?_
                            · exact se_var 4
                            · refine se_bin op_mulM sem_mulM ?_ ?_
                              · exact se_int
                              · exact se_var 7
                          · exact se_int
                      · refine se_ixA (hu_of hr) ?_ ?_
                        · exact se_var 6
                        · refine se_bin op_modN sem_mod ?_ ?_
                          · refine se_bin op_addX sem_addX ?_ ?_
                            · exact se_var 5
                            · refine se_bin op_mulM sem_mulM ?_ ?_
                              · exact se_var 7
                              · exact se_var 7
                          · exact se_int
abbrev s_law_any_sign : Stmt := topS 31
theorem sc_law_any_sign : FnScope ["_law_draw", "_law_some"] ["_law_draw"] (defScope s_law_any_sign) := ⟨rfl, rfl, rfl, by decide +kernel, rfl, by decide +kernel, by decide +kernel⟩
def b_law_any_sign : DS := dSeq (dAsg 1 (dC (.str " !\"#$&'()*+,-./0123456789:;<=>?@ABCXYZ[]^_`abcmnoxyz{|}~"))) (dRet (dCallM df_law_pick (dVar 0) (dCons (dVar 1) (dNil))))
def df_law_any_sign : DFm := defM 1 2 b_law_any_sign
theorem ok_law_any_sign (T : Txt w K mg) (C_law_pick : CalM CT P w K mg base 2 "_law_pick" df_law_pick) {f : Addr} {fd : FuncData} (Fn : Fun K "_law_any_sign" "_law_any_sign" s_law_any_sign f fd) : FnOk P w K mg base CX0 (2 + 1) f fd ["_law_draw"] (spM ⟨K, mg, CT⟩ df_law_any_sign) :=
  by
    show FnOk P w K mg base CX0 (2 + 1) f fd ["_law_draw"] (spM ⟨K, mg, CT⟩ (defM 1 2 b_law_any_sign))
    refine fnM (N := ["_law_draw", "_law_some"]) (ps := ["_law_draw"]) Fn sc_law_any_sign (by decide) ?_
    intro cdv A outer s H E hr
    have nd := sc_law_any_sign.nd
    refine sss_cons ?_ ?_
    · refine ss_set (i := 1) nd rfl (by first | exact Or.inl rfl | exact Or.inr rfl) ?_
      · exact se_str
    · refine sss_one ?_
      · refine ss_ret ?_
        · refine se_callM C_law_pick hr (by first | decide | omega) rfl ?_ ?_
          · exact se_var 0
          · refine sa_cons ?_ ?_
            · exact se_var 1
            · exact sa_nil
abbrev s_law_alone : Stmt := topS 32
theorem sc_law_alone : FnScope ["_law_e", "_law_kinds", "_law_words", "_law_k"] ["_law_e"] (defScope s_law_alone) := ⟨rfl, rfl, rfl, by decide +kernel, rfl, by decide +kernel, by decide +kernel⟩
def b_law_alone : DS := dSeq (dAsg 1 (dLst (dCons (dIsX [2] (fun c => [2].contains c) (dVar 0)) (dCons (dIsX [2] (fun c => [3].contains c) (dVar 0)) (dCons (dIsX [2] (fun c => [4].contains c) (dVar 0)) (dCons (dIsX [2] (fun c => [5].contains c) (dVar 0)) (dNil))))))) (dSeq (dAsg 1 (d2 dAddX (dVar 1) (dLst (dCons (dIsX [2] (fun c => [6].contains c) (dVar 0)) (dCons (dIsX [2] (fun c => [7].contains c) (dVar 0)) (dCons (dIsX [2] (fun c => [8].contains c) (dVar 0)) (dCons (dIsX [2] (fun c => [9].contains c) (dVar 0)) (dNil)))))))) (dSeq (dIfS (dtOr (dtB (d2 dNe (dCntT true (dVar 1)) (dC (.int 1)))) (dtOr (dtNot (dtB (dIsX [2] (fun c => [1, 2, 3, 4, 5, 6, 7, 8, 9].contains c) (dVar 0)))) (dtNot (dtB (dIsX [2] (fun _ => true) (dVar 0)))))) (dRet (dC (.str ""))) dNext) (dSeq (dAsg 2 (dLst (dCons (dC (.str "NoShape")) (dCons (dC (.str "NoSource")) (dCons (dC (.str "NoRecord")) (dCons (dC (.str "NoOrder")) (dCons (dC (.str "NoProgram")) (dCons (dC (.str "NoText")) (dCons (dC (.str "NoEven")) (dCons (dC (.str "TooLong")) (dNil))))))))))) (dRet (d2 dIxA (dVar 2) (d2 dIxA (dLc [3] (diR1 (dC (.int 8))) (.nm 3) (dtB (d2 dIxA (dVar 1) (dVar 3))) (dVar 3)) (dC (.int 0))))))))
def df_law_alone : DFp := defP 1 4 b_law_alone
theorem ok_law_alone (T : Txt w K mg)  {f : Addr} {fd : FuncData} (Fn : Fun K "_law_alone" "_law_alone" s_law_alone f fd) : FnOk P w K mg base CX0 (0 + 1) f fd ["_law_e"] (spP ⟨K, mg, CT⟩ df_law_alone) :=
  by
    show FnOk P w K mg base CX0 (0 + 1) f fd ["_law_e"] (spP ⟨K, mg, CT⟩ (defP 1 4 b_law_alone))
    refine fnP (N := ["_law_e", "_law_kinds", "_law_words", "_law_k"]) (ps := ["_law_e"]) Fn sc_law_alone (by decide) ?_
    intro cdv A outer s H E hr
    have nd := sc_law_alone.nd
    refine sss_cons ?_ ?_
    · refine ss_set (i := 1) nd rfl (by first | exact Or.inl rfl | exact Or.inr rfl) ?_
      · refine se_lst ?_
        · refine sa_cons ?_ ?_
          · refine se_isXN T.xi_NoShape rfl T.b_isinstance rfl ?_
            · exact se_var 0
          · refine sa_cons ?_ ?_
            · refine se_isXN T.xi_NoSource rfl T.b_isinstance rfl ?_
              · exact se_var 0
            · refine sa_cons ?_ ?_
              · refine se_isXN T.xi_NoRecord rfl T.b_isinstance rfl ?_
                · exact se_var 0
              · refine sa_cons ?_ ?_
                · refine se_isXN T.xi_NoOrder rfl T.b_isinstance rfl ?_
                  · exact se_var 0
                · exact sa_nil
    · refine sss_cons ?_ ?_
      · refine ss_set (i := 1) nd rfl (by first | exact Or.inl rfl | exact Or.inr rfl) ?_
        · refine se_bin op_addX sem_addX ?_ ?_
          · exact se_var 1
          · refine se_lst ?_
            · refine sa_cons ?_ ?_
              · refine se_isXN T.xi_NoProgram rfl T.b_isinstance rfl ?_
                · exact se_var 0
              · refine sa_cons ?_ ?_
                · refine se_isXN T.xi_NoText rfl T.b_isinstance rfl ?_
                  · exact se_var 0
                · refine sa_cons ?_ ?_
                  · refine se_isXN T.xi_NoEven rfl T.b_isinstance rfl ?_
                    · exact se_var 0
                  · refine sa_cons ?_ ?_
                    · refine se_isXN T.xi_TooLong rfl T.b_isinstance rfl ?_
                      · exact se_var 0
                    · exact sa_nil
      · refine sss_cons ?_ ?_
        · refine ss_if ?_ ?_ ?_
          · refine SW.t ?_
            · refine sw_or ?_ ?_
              · refine st_cmp (op_neA hr.units) sem_ne ?_ ?_ (nomark _)
                · refine se_cntT hr.units ?_
                  · exact se_var 1
                · exact se_int
              · refine sw_or ?_ ?_
                · refine st_not ?_
                  · refine st_val ?_
                    · refine se_isXN T.xi_RoundError rfl T.b_isinstance rfl ?_
                      · exact se_var 0
                · refine sw_or1 ?_
                  · refine st_not ?_
                    · refine st_val ?_
                      · refine se_isXB T.xb_ValueError rfl T.b_isinstance rfl T.b_ValueError (by decide +kernel) ?_
                        · exact se_var 0
          · refine sss_one ?_
            · refine ss_ret ?_
              · exact se_str
          · exact sss_nil
        · refine sss_cons ?_ ?_
          · refine ss_set (i := 2) nd rfl (by first | exact Or.inl rfl | exact Or.inr rfl) ?_
            · refine se_lst ?_
              · refine sa_cons ?_ ?_
                · exact se_str
                · refine sa_cons ?_ ?_
                  · exact se_str
                  · refine sa_cons ?_ ?_
                    · exact se_str
                    · refine sa_cons ?_ ?_
                      · exact se_str
                      · refine sa_cons ?_ ?_
                        · exact se_str
                        · refine sa_cons ?_ ?_
                          · exact se_str
                          · refine sa_cons ?_ ?_
                            · exact se_str
                            · refine sa_cons ?_ ?_
                              · exact se_str
                              · exact sa_nil
          · refine sss_one ?_
            · refine ss_ret ?_
              · refine se_ixA (hu_of hr) ?_ ?_
                · exact se_var 2
                · refine se_ixA (hu_of hr) ?_ ?_
                  · refine se_lc (own := [("_law_k", 3)]) rfl nd ?_ ?_ ?_ ?_ ?_
                    · refine si_range1 rfl T.b_range ?_
                      · exact se_int
                    · exact blkOk_by (N := ["_law_e", "_law_kinds", "_law_words", "_law_k"]) (sc := defScope s_law_alone) (own := [("_law_k", 3)]) (by decide +kernel)
                    · intro _ _ _ _ _
                      exact sg_name (i := 3) nd rfl (by first | exact Or.inl rfl | exact Or.inr rfl)
                    · intro _ _ _ _ _
                      refine sts_one ?_
                      · refine st_val ?_
                        · refine se_ixA (hu_of hr) ?_ ?_
                          · exact se_var 1
                          · exact se_var 3
                    · intro _ _ _ _ _
                      exact se_var 3
                  · exact se_int
abbrev s_law_like : Stmt := topS 33
theorem sc_law_like : FnScope ["_law_found", "_law_due", "_law_wrong", "_law_k", "_law_key"] ["_law_found", "_law_due"] (defScope s_law_like) := ⟨rfl, rfl, rfl, by decide +kernel, rfl, by decide +kernel, by decide +kernel⟩
def b_law_like (f : DFp) : DS := dSeq (dIfS (dtB (dIsi [0] [.tup, .lst] (dVar 1))) (dSeq (dIfS (dtOr (dtNot (dtB (dIsi [0] [.tup, .lst] (dVar 0)))) (dtB (d2 dNe (dIsi [0] [.tup] (dVar 0)) (dIsi [0] [.tup] (dVar 1))))) (dRet (dC (.bl false))) dNext) (dSeq (dAsg 2 (dLc [3] (diR1 (dL dMin (dCons (dL dLen (dCons (dVar 0) (dNil))) (dCons (dL dLen (dCons (dVar 1) (dNil))) (dNil))))) (.nm 3) (dtNot (dtB (dCallP f (dCons (d2 dIxA (dVar 0) (dVar 3)) (dCons (d2 dIxA (dVar 1) (dVar 3)) (dNil)))))) (dVar 3))) (dRet (dAndV (d2 dEq (dL dLen (dCons (dVar 0) (dNil))) (dL dLen (dCons (dVar 1) (dNil)))) (d2 dEq (dVar 2) (dLst dNil)))))) dNext) (dSeq (dIfS (dtB (dIsi [0] [.dic] (dVar 1))) (dSeq (dIfS (dtOr (dtNot (dtB (dIsi [0] [.dic] (dVar 0)))) (dtB (d2 dNe (dL dListA (dCons (dVar 0) dNil)) (dL dListA (dCons (dVar 1) dNil))))) (dRet (dC (.bl false))) dNext) (dRet (d2 dEq (dLcV [4] 1 (.nm 4) (dtNot (dtB (dCallP f (dCons (d2 dIxA (dVar 0) (dVar 4)) (dCons (d2 dIxA (dVar 1) (dVar 4)) (dNil)))))) (dVar 4)) (dLst dNil)))) dNext) (dSeq (dIfS (dtOr (dtB (d2 dIsN (dVar 1) (dC .non))) (dtB (d2 dIsN (dVar 0) (dC .non)))) (dRet (dAndV (d2 dIsN (dVar 0) (dC .non)) (d2 dIsN (dVar 1) (dC .non)))) dNext) (dSeq (dIfS (dtB (dIsi [0] [.str] (dVar 1))) (dRet (dAndV (dIsi [0] [.str] (dVar 0)) (d2 dEq (dVar 0) (dVar 1)))) dNext) (dRet (dAndV (dIsi [0] [.int] (dVar 0)) (dAndV (d2 dEq (dIsi [0] [.bool] (dVar 0)) (dIsi [0] [.bool] (dVar 1))) (d2 dEq (dVar 0) (dVar 1))))))))
def df_law_like : Nat → DFp
  | 0 => fun _ => none
  | n + 1 => defP 2 5 (b_law_like (df_law_like n))
theorem ok_law_like (T : Txt w K mg) {n : Nat} (C_law_like : CalP CT P w K mg base (n + 1) "_law_like" (df_law_like n)) {f : Addr} {fd : FuncData} (Fn : Fun K "_law_like" "_law_like" s_law_like f fd) : FnOk P w K mg base CX0 (n + 1 + 1) f fd ["_law_found", "_law_due"] (spP ⟨K, mg, CT⟩ (df_law_like (n + 1))) :=
  by
    show FnOk P w K mg base CX0 (n + 1 + 1) f fd ["_law_found", "_law_due"] (spP ⟨K, mg, CT⟩ (defP 2 5 (b_law_like (df_law_like n))))
    refine fnP (N := ["_law_found", "_law_due", "_law_wrong", "_law_k", "_law_key"]) (ps := ["_law_found", "_law_due"]) Fn sc_law_like (by decide) ?_
    intro cdv A outer s H E hr
    have nd := sc_law_like.nd
    refine sss_cons ?_ ?_
    · refine ss_if ?_ ?_ ?_
      · refine st_val ?_
        · refine se_isi2 (T := .tup) (U := .lst) T.ins rfl T.b_isinstance rfl T.b_tuple (by decide +kernel) rfl T.b_list (by decide +kernel) ?_
          · exact se_var 1
      · refine sss_cons ?_ ?_
        · refine ss_if ?_ ?_ ?_
          · refine SW.t ?_
            · refine sw_or ?_ ?_
              · refine st_not ?_
                · refine st_val ?_
                  · refine se_isi2 (T := .tup) (U := .lst) T.ins rfl T.b_isinstance rfl T.b_tuple (by decide +kernel) rfl T.b_list (by decide +kernel) ?_
                    · exact se_var 0
              · refine sw_or1 ?_
                · refine st_cmp (op_neA hr.units) sem_ne ?_ ?_ (nomark _)
                  · refine se_isi1 (T := .tup) T.ins rfl T.b_isinstance rfl T.b_tuple (by decide +kernel) ?_
                    · exact se_var 0
                  · refine se_isi1 (T := .tup) T.ins rfl T.b_isinstance rfl T.b_tuple (by decide +kernel) ?_
                    · exact se_var 1
          · refine sss_one ?_
            · refine ss_ret ?_
              · exact se_bl
          · exact sss_nil
        · refine sss_cons ?_ ?_
          · first
            | (
               refine ss_setLc (i := 2) (own := [("_law_k", 3)]) rfl nd rfl rfl (by exact sw_true rfl rfl rfl (by decide +kernel)) ?_ ?_ ?_ ?_ ?_
               · refine si_range1 rfl T.b_range ?_
                 · refine se_callB (call_min2 rfl) sem_min rfl T.b_min (by decide +kernel) ?_
                   · refine sa_cons ?_ ?_
                     · refine se_callB Sim.call_lenD sem_len rfl T.b_len (by decide +kernel) ?_
                       · refine sa_cons ?_ ?_
                         · exact se_var 0
                         · exact sa_nil
                     · refine sa_cons ?_ ?_
                       · refine se_callB Sim.call_lenD sem_len rfl T.b_len (by decide +kernel) ?_
                         · refine sa_cons ?_ ?_
                           · exact se_var 1
                           · exact sa_nil
                       · exact sa_nil
               · exact blkOk_by (N := ["_law_found", "_law_due", "_law_wrong", "_law_k", "_law_key"]) (sc := defScope s_law_like) (own := [("_law_k", 3)]) (by decide +kernel)
               · intro _ _ _ _ _
                 exact sg_name (i := 3) nd rfl (by first | exact Or.inl rfl | exact Or.inr rfl)
               · intro _ _ _ _ _
                 refine sts_one ?_
                 · refine st_not ?_
                   · refine st_val ?_
                     · refine se_callP C_law_like hr (by first | decide | omega) rfl ?_
                       · refine sa_cons ?_ ?_
                         · refine se_ixA (hu_of hr) ?_ ?_
                           · exact se_var 0
                           · exact se_var 3
                         · refine sa_cons ?_ ?_
                           · refine se_ixA (hu_of hr) ?_ ?_
                             · exact se_var 1
                             · exact se_var 3
                           · exact sa_nil
               · intro _ _ _ _ _
                 exact se_var 3)
            | (
               refine ss_set (i := 2) nd rfl (by first | exact Or.inl rfl | exact Or.inr rfl) ?_
               · refine se_lc (own := [("_law_k", 3)]) rfl nd ?_ ?_ ?_ ?_ ?_
                 · refine si_range1 rfl T.b_range ?_
                   · refine se_callB (call_min2 rfl) sem_min rfl T.b_min (by decide +kernel) ?_
                     · refine sa_cons ?_ ?_
                       · refine se_callB Sim.call_lenD sem_len rfl T.b_len (by decide +kernel) ?_
                         · refine sa_cons ?_ ?_
                           · exact se_var 0
                           · exact sa_nil
                       · refine sa_cons ?_ ?_
                         · refine se_callB Sim.call_lenD sem_len rfl T.b_len (by decide +kernel) ?_
                           · refine sa_cons ?_ ?_
                             · exact se_var 1
                             · exact sa_nil
                         · exact sa_nil
                 · exact blkOk_by (N := ["_law_found", "_law_due", "_law_wrong", "_law_k", "_law_key"]) (sc := defScope s_law_like) (own := [("_law_k", 3)]) (by decide +kernel)
                 · intro _ _ _ _ _
                   exact sg_name (i := 3) nd rfl (by first | exact Or.inl rfl | exact Or.inr rfl)
                 · intro _ _ _ _ _
                   refine sts_one ?_
                   · refine st_not ?_
                     · refine st_val ?_
                       · refine se_callP C_law_like hr (by first | decide | omega) rfl ?_
                         · refine sa_cons ?_ ?_
                           · refine se_ixA (hu_of hr) ?_ ?_
                             · exact se_var 0
                             · exact se_var 3
                           · refine sa_cons ?_ ?_
                             · refine se_ixA (hu_of hr) ?_ ?_
                               · exact se_var 1
                               · exact se_var 3
                             · exact sa_nil
                 · intro _ _ _ _ _
                   exact se_var 3)
          · refine sss_one ?_
            · refine ss_ret ?_
              · refine se_and ?_ ?_
                · refine se_cmp (op_eqA hr.units) sem_eq ?_ ?_ (nomark _)
                  · refine se_callB Sim.call_lenD sem_len rfl T.b_len (by decide +kernel) ?_
                    · refine sa_cons ?_ ?_
                      · exact se_var 0
                      · exact sa_nil
                  · refine se_callB Sim.call_lenD sem_len rfl T.b_len (by decide +kernel) ?_
                    · refine sa_cons ?_ ?_
                      · exact se_var 1
                      · exact sa_nil
                · refine se_one ?_
                  · refine se_cmp (op_eqA hr.units) sem_eq ?_ ?_ (nomark _)
                    · exact se_var 2
                    · refine se_lst ?_
                      · exact sa_nil
      · exact sss_nil
    · refine sss_cons ?_ ?_
      · refine ss_if ?_ ?_ ?_
        · refine st_val ?_
          · refine se_isi1 (T := .dic) T.ins rfl T.b_isinstance rfl T.b_dict (by decide +kernel) ?_
            · exact se_var 1
        · refine sss_cons ?_ ?_
          · refine ss_if ?_ ?_ ?_
            · refine SW.t ?_
              · refine sw_or ?_ ?_
                · refine st_not ?_
                  · refine st_val ?_
                    · refine se_isi1 (T := .dic) T.ins rfl T.b_isinstance rfl T.b_dict (by decide +kernel) ?_
                      · exact se_var 0
                · refine sw_or1 ?_
                  · refine st_cmp (op_neA hr.units) sem_ne ?_ ?_ (nomark _)
                    · refine se_callTy (call_listA rfl) sem_listA rfl T.b_list boot_list ?_
                      · refine sa_cons ?_ ?_
                        · exact se_var 0
                        · exact sa_nil
                    · refine se_callTy (call_listA rfl) sem_listA rfl T.b_list boot_list ?_
                      · refine sa_cons ?_ ?_
                        · exact se_var 1
                        · exact sa_nil
            · refine sss_one ?_
              · refine ss_ret ?_
                · exact se_bl
            · exact sss_nil
          · refine sss_one ?_
            · refine ss_ret ?_
              · refine se_cmp (op_eqA hr.units) sem_eq ?_ ?_ (nomark _)
                · refine se_lcV (i := 1) (own := [("_law_key", 4)]) rfl (by first | exact Or.inl rfl | exact Or.inr (Or.inl rfl) | exact Or.inr (Or.inr rfl)) (by decide) (by decide) rfl nd ?_ ?_ ?_ ?_
                  · exact blkOk_by (N := ["_law_found", "_law_due", "_law_wrong", "_law_k", "_law_key"]) (sc := defScope s_law_like) (own := [("_law_key", 4)]) (by decide +kernel)
                  · intro _ _ _ _ _
                    exact sg_name (i := 4) nd rfl (by first | exact Or.inl rfl | exact Or.inr rfl)
                  · intro _ _ _ _ _
                    refine sts_one ?_
                    · refine st_not ?_
                      · refine st_val ?_
                        · refine se_callP C_law_like hr (by first | decide | omega) rfl ?_
                          · refine sa_cons ?_ ?_
                            · refine se_ixA (hu_of hr) ?_ ?_
                              · exact se_var 0
                              · exact se_var 4
                            · refine sa_cons ?_ ?_
                              · refine se_ixA (hu_of hr) ?_ ?_
                                · exact se_var 1
                                · exact se_var 4
                              · exact sa_nil
                  · intro _ _ _ _ _
                    exact se_var 4
                · refine se_lst ?_
                  · exact sa_nil
        · exact sss_nil
      · refine sss_cons ?_ ?_
        · refine ss_if ?_ ?_ ?_
          · refine SW.t ?_
            · refine sw_or ?_ ?_
              · refine st_cmp op_isN sem_isN ?_ ?_ (nomark _)
                · exact se_var 1
                · exact se_non
              · refine sw_or1 ?_
                · refine st_cmp op_isN sem_isN ?_ ?_ (nomark _)
                  · exact se_var 0
                  · exact se_non
          · refine sss_one ?_
            · refine ss_ret ?_
              · refine se_and ?_ ?_
                · refine se_cmp op_isN sem_isN ?_ ?_ (nomark _)
                  · exact se_var 0
                  · exact se_non
                · refine se_one ?_
                  · refine se_cmp op_isN sem_isN ?_ ?_ (nomark _)
                    · exact se_var 1
                    · exact se_non
          · exact sss_nil
        · refine sss_cons ?_ ?_
          · refine ss_if ?_ ?_ ?_
            · refine st_val ?_
              · refine se_isi1 (T := .str) T.ins rfl T.b_isinstance rfl T.b_str (by decide +kernel) ?_
                · exact se_var 1
            · refine sss_one ?_
              · refine ss_ret ?_
                · refine se_and ?_ ?_
                  · refine se_isi1 (T := .str) T.ins rfl T.b_isinstance rfl T.b_str (by decide +kernel) ?_
                    · exact se_var 0
                  · refine se_one ?_
                    · refine se_cmp (op_eqA hr.units) sem_eq ?_ ?_ (nomark _)
                      · exact se_var 0
                      · exact se_var 1
            · exact sss_nil
          · refine sss_one ?_
            · refine ss_ret ?_
              · refine se_and ?_ ?_
                · refine se_isi1 (T := .int) T.ins rfl T.b_isinstance rfl T.b_int (by decide +kernel) ?_
                  · exact se_var 0
                · refine se_and ?_ ?_
                  · refine se_cmp (op_eqA hr.units) sem_eq ?_ ?_ (nomark _)
                    · refine se_isi1 (T := .bool) T.ins rfl T.b_isinstance rfl T.b_bool (by decide +kernel) ?_
                      · exact se_var 0
                    · refine se_isi1 (T := .bool) T.ins rfl T.b_isinstance rfl T.b_bool (by decide +kernel) ?_
                      · exact se_var 1
                  · refine se_one ?_
                    · refine se_cmp (op_eqA hr.units) sem_eq ?_ ?_ (nomark _)
                      · exact se_var 0
                      · exact se_var 1
abbrev s_law_two : Stmt := topS 34
theorem sc_law_two : FnScope ["_law_draw", "_law_names_here", "_law_over", "_law_kind", "_law_long", "_law_more", "_law_at", "_law_one", "_law_other", "_law_inner"] ["_law_draw", "_law_names_here", "_law_over"] (defScope s_law_two) := ⟨rfl, rfl, rfl, by decide +kernel, rfl, by decide +kernel, by decide +kernel⟩
def b_law_two : DS := dSeq (dMulti [3, 4, 5] (dCons (dCallM df_law_pick (dVar 0) (dCons (dLst (dCons (dC (.str "text")) (dCons (dC (.str "number")) (dNil)))) (dNil))) (dCons (d2 dAddX (dC (.int 1)) (dCallM df_law_next (dVar 0) (dCons (dC (.int 9)) (dNil)))) (dCons (d2 dAddX (dC (.int 1)) (dCallM df_law_next (dVar 0) (dCons (dC (.int 9)) (dNil)))) (dNil))))) (dSeq (dAsg 6 (d2 dAddX (dC (.int 1)) (dCallM df_law_next (dVar 0) (dCons (dC (.int 30)) (dNil))))) (dSeq (dMulti [7, 8] (dCons (dTup (dCons (d2 dIxA (dVar 1) (dC (.int 1))) (dCons (dVar 6) (dCons (dVar 4) (dCons (dVar 3) (dNil)))))) (dCons (dTup (dCons (d2 dIxA (dVar 1) (dC (.int 2))) (dCons (d2 dSub (d2 dAddX (dVar 6) (dVar 4)) (dVar 2)) (dCons (dVar 5) (dCons (dC (.str "text")) (dNil)))))) (dNil)))) (dSeq (dIfS (dtAnd (dtB (d2 dEq (dVar 2) (dC (.int 1)))) (dtB (d2 dEq (dCallM df_law_next (dVar 0) (dCons (dC (.int 2)) (dNil))) (dC (.int 0))))) (dSeq (dAsg 9 (dCallM df_law_next (dVar 0) (dCons (dVar 4) (dNil)))) (dAsg 8 (dTup (dCons (d2 dIxA (dVar 1) (dC (.int 2))) (dCons (d2 dAddX (dVar 6) (dVar 9)) (dCons (d2 dAddX (dC (.int 1)) (dCallM df_law_next (dVar 0) (dCons (d2 dSub (dVar 4) (dVar 9)) (dNil)))) (dCons (dC (.str "number")) (dNil)))))))) dNext) (dRet (dIf (dtB (d2 dEq (dCallM df_law_next (dVar 0) (dCons (dC (.int 2)) (dNil))) (dC (.int 0)))) (dTup (dCons (dVar 7) (dCons (dVar 8) (dNil)))) (dTup (dCons (dVar 8) (dCons (dVar 7) (dNil)))))))))
def df_law_two : DFm := defM 3 10 b_law_two
theorem ok_law_two (T : Txt w K mg) (C_law_next : CalM CT P w K mg base 1 "_law_next" df_law_next) (C_law_pick : CalM CT P w K mg base 2 "_law_pick" df_law_pick) {f : Addr} {fd : FuncData} (Fn : Fun K "_law_two" "_law_two" s_law_two f fd) : FnOk P w K mg base CX0 (2 + 1) f fd ["_law_draw", "_law_names_here", "_law_over"] (spM ⟨K, mg, CT⟩ df_law_two) :=
  by
    show FnOk P w K mg base CX0 (2 + 1) f fd ["_law_draw", "_law_names_here", "_law_over"] (spM ⟨K, mg, CT⟩ (defM 3 10 b_law_two))
    refine fnM (N := ["_law_draw", "_law_names_here", "_law_over", "_law_kind", "_law_long", "_law_more", "_law_at", "_law_one", "_law_other", "_law_inner"]) (ps := ["_law_draw", "_law_names_here", "_law_over"]) Fn sc_law_two (by decide) ?_
    intro cdv A outer s H E hr
    have nd := sc_law_two.nd
    refine sss_cons ?_ ?_
    · first
      | (
         refine ss_par3 (i := 3) (j := 4) (m := 5) rfl nd rfl rfl rfl (by decide) (by decide) (by decide) rfl rfl rfl ?_
         · refine sa_cons ?_ ?_
           · refine se_callM C_law_pick hr (by first | decide | omega) rfl ?_ ?_
             · exact se_var 0
             · refine sa_cons ?_ ?_
               · refine se_lst ?_
                 · refine sa_cons ?_ ?_
                   · exact se_str
                   · refine sa_cons ?_ ?_
                     · exact se_str
                     · exact sa_nil
               · exact sa_nil
           · refine sa_cons ?_ ?_
             · refine se_bin op_addX sem_addX ?_ ?_
               · exact se_int
               · refine se_callM C_law_next hr (by first | decide | omega) rfl ?_ ?_
                 · exact se_var 0
                 · refine sa_cons ?_ ?_
                   · exact se_int
                   · exact sa_nil
             · refine sa_cons ?_ ?_
               · refine se_bin op_addX sem_addX ?_ ?_
                 · exact se_int
                 · refine se_callM C_law_next hr (by first | decide | omega) rfl ?_ ?_
                   · exact se_var 0
                   · refine sa_cons ?_ ?_
                     · exact se_int
                     · exact sa_nil
               · exact sa_nil)
      | (
         refine ss_multi (is := [3, 4, 5]) rfl ?_ ?_
         · refine sa_cons ?_ ?_
           · refine se_callM C_law_pick hr (by first | decide | omega) rfl ?_ ?_
             · exact se_var 0
             · refine sa_cons ?_ ?_
               · refine se_lst ?_
                 · refine sa_cons ?_ ?_
                   · exact se_str
                   · refine sa_cons ?_ ?_
                     · exact se_str
                     · exact sa_nil
               · exact sa_nil
           · refine sa_cons ?_ ?_
             · refine se_bin op_addX sem_addX ?_ ?_
               · exact se_int
               · refine se_callM C_law_next hr (by first | decide | omega) rfl ?_ ?_
                 · exact se_var 0
                 · refine sa_cons ?_ ?_
                   · exact se_int
                   · exact sa_nil
             · refine sa_cons ?_ ?_
               · refine se_bin op_addX sem_addX ?_ ?_
                 · exact se_int
                 · refine se_callM C_law_next hr (by first | decide | omega) rfl ?_ ?_
                   · exact se_var 0
                   · refine sa_cons ?_ ?_
                     · exact se_int
                     · exact sa_nil
               · exact sa_nil
         · refine sns_cons (i := 3) nd rfl (by first | exact Or.inl rfl | exact Or.inr rfl) ?_
           · refine sns_cons (i := 4) nd rfl (by first | exact Or.inl rfl | exact Or.inr rfl) ?_
             · refine sns_cons (i := 5) nd rfl (by first | exact Or.inl rfl | exact Or.inr rfl) ?_
               · exact sns_nil)
    · refine sss_cons ?_ ?_
      · refine ss_set (i := 6) nd rfl (by first | exact Or.inl rfl | exact Or.inr rfl) ?_
        · refine se_bin op_addX sem_addX ?_ ?_
          · exact se_int
          · refine se_callM C_law_next hr (by first | decide | omega) rfl ?_ ?_
            · exact se_var 0
            · refine sa_cons ?_ ?_
              · exact se_int
              · exact sa_nil
      · refine sss_cons ?_ ?_
        · first
          | (
             refine ss_par (i := 7) (j := 8) rfl nd rfl rfl (by decide) rfl rfl ?_
             · refine sa_cons ?_ ?_
               · refine se_tup ?_
                 · refine sa_cons ?_ ?_
                   · refine se_ixA (hu_of hr) ?_ ?_
                     · exact se_var 1
                     · exact se_int
                   · refine sa_cons ?_ ?_
                     · exact se_var 6
                     · refine sa_cons ?_ ?_
                       · exact se_var 4
                       · refine sa_cons ?_ ?_
                         · exact se_var 3
                         · exact sa_nil
               · refine sa_cons ?_ ?_
                 · refine se_tup ?_
                   · refine sa_cons ?_ ?_
                     · refine se_ixA (hu_of hr) ?_ ?_
                       · exact se_var 1
                       · exact se_int
                     · refine sa_cons ?_ ?_
                       · refine se_bin op_sub sem_sub ?_ ?_
                         · refine se_bin op_addX sem_addX ?_ ?_
                           · exact se_var 6
                           · exact se_var 4
                         · exact se_var 2
                       · refine sa_cons ?_ ?_
                         · exact se_var 5
                         · refine sa_cons ?_ ?_
                           · exact se_str
                           · exact sa_nil
                 · exact sa_nil)
          | (
             refine ss_multi (is := [7, 8]) rfl ?_ ?_
             · refine sa_cons ?_ ?_
               · refine se_tup ?_
                 · refine sa_cons ?_ ?_
                   · refine se_ixA (hu_of hr) ?_ ?_
                     · exact se_var 1
                     · exact se_int
                   · refine sa_cons ?_ ?_
                     · exact se_var 6
                     · refine sa_cons ?_ ?_
                       · exact se_var 4
                       · refine sa_cons ?_ ?_
                         · exact se_var 3
                         · exact sa_nil
               · refine sa_cons ?_ ?_
                 · refine se_tup ?_
                   · refine sa_cons ?_ ?_
                     · refine se_ixA (hu_of hr) ?_ ?_
                       · exact se_var 1
                       · exact se_int
                     · refine sa_cons ?_ ?_
                       · refine se_bin op_sub sem_sub ?_ ?_
                         · refine se_bin op_addX sem_addX ?_ ?_
                           · exact se_var 6
                           · exact se_var 4
                         · exact se_var 2
                       · refine sa_cons ?_ ?_
                         · exact se_var 5
                         · refine sa_cons ?_ ?_
                           · exact se_str
                           · exact sa_nil
                 · exact sa_nil
             · refine sns_cons (i := 7) nd rfl (by first | exact Or.inl rfl | exact Or.inr rfl) ?_
               · refine sns_cons (i := 8) nd rfl (by first | exact Or.inl rfl | exact Or.inr rfl) ?_
                 · exact sns_nil)
        · refine sss_cons ?_ ?_
          · refine ss_if ?_ ?_ ?_
            · refine SW.t ?_
              · refine sw_and ?_ ?_
                · refine st_cmp (op_eqA hr.units) sem_eq ?_ ?_ (nomark _)
                  · exact se_var 2
                  · exact se_int
                · refine sw_and1 ?_
                  · refine st_cmp (op_eqA hr.units) sem_eq ?_ ?_ (nomark _)
                    · refine se_callM C_law_next hr (by first | decide | omega) rfl ?_ ?_
                      · exact se_var 0
                      · refine sa_cons ?_ ?_
                        · exact se_int
                        · exact sa_nil
                    · exact se_int
            · refine sss_cons ?_ ?_
              · refine ss_set (i := 9) nd rfl (by first | exact Or.inl rfl | exact Or.inr rfl) ?_
                · refine se_callM C_law_next hr (by first | decide | omega) rfl ?_ ?_
                  · exact se_var 0
                  · refine sa_cons ?_ ?_
                    · exact se_var 4
                    · exact sa_nil
              · refine sss_one ?_
                · refine ss_set (i := 8) nd rfl (by first | exact Or.inl rfl | exact Or.inr rfl) ?_
                  · refine se_tup ?_
                    · refine sa_cons ?_ ?_
                      · refine se_ixA (hu_of hr) ?_ ?_
                        · exact se_var 1
                        · exact se_int
                      · refine sa_cons ?_ ?_
                        · refine se_bin op_addX sem_addX ?_ ?_
                          · exact se_var 6
                          · exact se_var 9
                        · refine sa_cons ?_ ?_
                          · refine se_bin op_addX sem_addX ?_ ?_
                            · exact se_int
                            · refine se_callM C_law_next hr (by first | decide | omega) rfl ?_ ?_
                              · exact se_var 0
                              · refine sa_cons ?_ ?_
                                · refine se_bin op_sub sem_sub ?_ ?_
                                  · exact se_var 4
                                  · exact se_var 9
                                · exact sa_nil
                          · refine sa_cons ?_ ?_
                            · exact se_str
                            · exact sa_nil
            · exact sss_nil
          · refine sss_one ?_
            · refine ss_ret ?_
              · refine se_if ?_ ?_ ?_
                · refine st_cmp (op_eqA hr.units) sem_eq ?_ ?_ (nomark _)
                  · refine se_callM C_law_next hr (by first | decide | omega) rfl ?_ ?_
                    · exact se_var 0
                    · refine sa_cons ?_ ?_
                      · exact se_int
                      · exact sa_nil
                  · exact se_int
                · refine se_tup ?_
                  · refine sa_cons ?_ ?_
                    · exact se_var 7
                    · refine sa_cons ?_ ?_
                      · exact se_var 8
                      · exact sa_nil
                · refine se_tup ?_
                  · refine sa_cons ?_ ?_
                    · exact se_var 8
                    · refine sa_cons ?_ ?_
                      · exact se_var 7
                      · exact sa_nil
abbrev s_law_marked : Stmt := topS 35
theorem sc_law_marked : FnScope ["_law_draw", "_law_names_here", "_law_over", "_law_at", "_law_long", "_law_column"] ["_law_draw", "_law_names_here", "_law_over"] (defScope s_law_marked) := ⟨rfl, rfl, rfl, by decide +kernel, rfl, by decide +kernel, by decide +kernel⟩
def b_law_marked : DS := dSeq (dMulti [3, 4] (dCons (d2 dAddX (dC (.int 2)) (dCallM df_law_next (dVar 0) (dCons (dC (.int 40)) (dNil)))) (dCons (d2 dAddX (dC (.int 1)) (dCallM df_law_next (dVar 0) (dCons (dC (.int 9)) (dNil)))) (dNil)))) (dSeq (dAsg 5 (dIf (dtB (d2 dEq (dVar 2) (dC (.int 1)))) (d2 dAddX (dVar 3) (dCallM df_law_next (dVar 0) (dCons (dVar 4) (dNil)))) (dCallM df_law_pick (dVar 0) (dCons (dLst (dCons (d2 dSub (dVar 3) (dC (.int 1))) (dCons (d2 dAddX (dVar 3) (dVar 4)) (dNil)))) (dNil))))) (dRet (dTup (dCons (d2 dIxA (dVar 1) (dC (.int 0))) (dCons (dTup (dCons (dVar 5) (dCons (dCallM df_law_any_sign (dVar 0) dNil) (dNil)))) (dCons (dTup (dCons (dTup (dCons (d2 dIxA (dVar 1) (dC (.int 1))) (dCons (dVar 3) (dCons (dVar 4) (dCons (dC (.str "number")) (dNil)))))) (dNil))) (dNil)))))))
def df_law_marked : DFm := defM 3 6 b_law_marked
theorem ok_law_marked (T : Txt w K mg) (C_law_any_sign : CalM CT P w K mg base 3 "_law_any_sign" df_law_any_sign) (C_law_next : CalM CT P w K mg base 1 "_law_next" df_law_next) (C_law_pick : CalM CT P w K mg base 2 "_law_pick" df_law_pick) {f : Addr} {fd : FuncData} (Fn : Fun K "_law_marked" "_law_marked" s_law_marked f fd) : FnOk P w K mg base CX0 (3 + 1) f fd ["_law_draw", "_law_names_here", "_law_over"] (spM ⟨K, mg, CT⟩ df_law_marked) :=
  by
    show FnOk P w K mg base CX0 (3 + 1) f fd ["_law_draw", "_law_names_here", "_law_over"] (spM ⟨K, mg, CT⟩ (defM 3 6 b_law_marked))
    refine fnM (N := ["_law_draw", "_law_names_here", "_law_over", "_law_at", "_law_long", "_law_column"]) (ps := ["_law_draw", "_law_names_here", "_law_over"]) Fn sc_law_marked (by decide) ?_
    intro cdv A outer s H E hr
    have nd := sc_law_marked.nd
    refine sss_cons ?_ ?_
    · first
      | (
         refine ss_par (i := 3) (j := 4) rfl nd rfl rfl (by decide) rfl rfl ?_
         · refine sa_cons ?_ ?_
           · refine se_bin op_addX sem_addX ?_ ?_
             · exact se_int
             · refine se_callM C_law_next hr (by first | decide | omega) rfl ?_ ?_
               · exact se_var 0
               · refine sa_cons ?_ ?_
                 · exact se_int
                 · exact sa_nil
           · refine sa_cons ?_ ?_
             · refine se_bin op_addX sem_addX ?_ ?_
               · exact se_int
               · refine se_callM C_law_next hr (by first | decide | omega) rfl ?_ ?_
                 · exact se_var 0
                 · refine sa_cons ?_ ?_
                   · exact se_int
                   · exact sa_nil
             · exact sa_nil)
      | (
         refine ss_multi (is := [3, 4]) rfl ?_ ?_
         · refine sa_cons ?_ ?_
           · refine se_bin op_addX sem_addX ?_ ?_
             · exact se_int
             · refine se_callM C_law_next hr (by first | decide | omega) rfl ?_ ?_
               · exact se_var 0
               · refine sa_cons ?_ ?_
                 · exact se_int
                 · exact sa_nil
           · refine sa_cons ?_ ?_
             · refine se_bin op_addX sem_addX ?_ ?_
               · exact se_int
               · refine se_callM C_law_next hr (by first | decide | omega) rfl ?_ ?_
                 · exact se_var 0
                 · refine sa_cons ?_ ?_
                   · exact se_int
                   · exact sa_nil
             · exact sa_nil
         · refine sns_cons (i := 3) nd rfl (by first | exact Or.inl rfl | exact Or.inr rfl) ?_
           · refine sns_cons (i := 4) nd rfl (by first | exact Or.inl rfl | exact Or.inr rfl) ?_
             · exact sns_nil)
    · refine sss_cons ?_ ?_
      · refine ss_set (i := 5) nd rfl (by first | exact Or.inl rfl | exact Or.inr rfl) ?_
        · refine se_if ?_ ?_ ?_
          · refine st_cmp (op_eqA hr.units) sem_eq ?_ ?_ (nomark _)
            · exact se_var 2
            · exact se_int
          · refine se_bin op_addX sem_addX ?_ ?_
            · exact se_var 3
            · refine se_callM C_law_next hr (by first | decide | omega) rfl ?_ ?_
              · exact se_var 0
              · refine sa_cons ?_ ?_
                · exact se_var 4
                · exact sa_nil
          · refine se_callM C_law_pick hr (by first | decide | omega) rfl ?_ ?_
            · exact se_var 0
            · refine sa_cons ?_ ?_
              · refine se_lst ?_
                · refine sa_cons ?_ ?_
                  · refine se_bin op_sub sem_sub ?_ ?_
                    · exact se_var 3
                    · exact se_int
                  · refine sa_cons ?_ ?_
                    · refine se_bin op_addX sem_addX ?_ ?_
                      · exact se_var 3
                      · exact se_var 4
                    · exact sa_nil
              · exact sa_nil
      · refine sss_one ?_
        · refine ss_ret ?_
          · refine se_tup ?_
            · refine sa_cons ?_ ?_
              · refine se_ixA (hu_of hr) ?_ ?_
                · exact se_var 1
                · exact se_int
              · refine sa_cons ?_ ?_
                · refine se_tup ?_
                  · refine sa_cons ?_ ?_
                    · exact se_var 5
                    · refine sa_cons ?_ ?_
                      · refine se_callM C_law_any_sign hr (by first | decide | omega) rfl ?_ ?_
                        · exact se_var 0
                        · exact sa_nil
                      · exact sa_nil
                · refine sa_cons ?_ ?_
                  · refine se_tup ?_
                    · refine sa_cons ?_ ?_
                      · refine se_tup ?_
                        · refine sa_cons ?_ ?_
                          · refine se_ixA (hu_of hr) ?_ ?_
                            · exact se_var 1
                            · exact se_int
                          · refine sa_cons ?_ ?_
                            · exact se_var 3
                            · refine sa_cons ?_ ?_
                              · exact se_var 4
                              · refine sa_cons ?_ ?_
                                · exact se_str
                                · exact sa_nil
                      · exact sa_nil
                  · exact sa_nil
def bs_law_at_bound_2 : DS := dSeq (dIfS (dtB (d2 dEq (dVar 1) (dC (.int 0)))) (dSeq (dAsg 7 (d2 dAddX (dC (.int 1)) (dCallM df_law_next (dVar 0) (dCons (dC (.int 6)) (dNil))))) (dAsg 6 (dL dTuple (dCons (dLc [9] (diR1 (d2 dAddX (dC (.int 8)) (dVar 2))) (.nm 9) dtYes (dTup (dCons (d2 dIxA (dVar 3) (d2 dAddX (dC (.int 1)) (dVar 9))) (dCons (d2 dAddX (dVar 7) (d2 dMulM (dC (.int 6)) (dVar 9))) (dCons (d2 dAddX (dC (.int 1)) (dCallM df_law_next (dVar 0) (dCons (dC (.int 6)) (dNil)))) (dCons (dC (.str "text")) (dNil))))))) (dNil))))) (dIfS (dtB (d2 dEq (dVar 1) (dC (.int 1)))) (dAsg 4 (d2 dAddX (dC (.str "zyxwvu")) (d2 dMulM (dC (.str "t")) (dVar 2)))) (dIfS (dtB (d2 dEq (dVar 1) (dC (.int 2)))) (dAsg 6 (dTup (dCons (dTup (dCons (d2 dAddX (dC (.str "zyxwvu")) (d2 dMulM (dC (.str "t")) (dVar 2))) (dCons (dC (.int 3)) (dCons (dC (.int 4)) (dCons (dC (.str "text")) (dNil)))))) (dNil)))) (dIfS (dtB (d2 dEq (dVar 1) (dC (.int 3)))) (dAsg 6 (dTup (dCons (dTup (dCons (d2 dIxA (dVar 3) (dC (.int 1))) (dCons (d2 dAddX (dC (.int 1)) (dCallM df_law_next (dVar 0) (dCons (dC (.int 39)) (dNil)))) (dCons (d2 dAddX (dC (.int 20)) (dVar 2)) (dCons (dC (.str "text")) (dNil)))))) (dNil)))) (dIfS (dtB (d2 dEq (dVar 1) (dC (.int 4)))) (dAsg 6 (dTup (dCons (dTup (dCons (d2 dIxA (dVar 3) (dC (.int 1))) (dCons (d2 dAddX (dC (.int 1)) (dCallM df_law_next (dVar 0) (dCons (dC (.int 50)) (dNil)))) (dCons (d2 dAddX (dC (.int 9)) (dVar 2)) (dCons (dC (.str "number")) (dNil)))))) (dNil)))) (dIfS (dtB (d2 dEq (dVar 1) (dC (.int 5)))) (dSeq (dAsg 8 (d2 dAddX (dC (.int 1)) (dCallM df_law_next (dVar 0) (dCons (dC (.int 9)) (dNil))))) (dAsg 6 (dTup (dCons (dTup (dCons (d2 dIxA (dVar 3) (dC (.int 1))) (dCons (d2 dAddX (d2 dSub (dC (.int 61)) (dVar 8)) (dVar 2)) (dCons (dVar 8) (dCons (dCallM df_law_pick (dVar 0) (dCons (dLst (dCons (dC (.str "text")) (dCons (dC (.str "number")) (dNil)))) (dNil))) (dNil)))))) (dNil))))) (dIfS (dtB (d2 dEq (dVar 1) (dC (.int 6)))) (dAsg 5 (dTup (dCons (dCallM df_law_pick (dVar 0) (dCons (dLst (dCons (d2 dAddX (dC (.int 60)) (dVar 2)) (dCons (d2 dSub (dC (.int 1)) (dVar 2)) (dNil)))) (dNil))) (dCons (dCallM df_law_any_sign (dVar 0) dNil) (dNil))))) (dIfS (dtB (d2 dEq (dVar 1) (dC (.int 7)))) (dAsg 5 (dTup (dCons (dC (.int 60)) (dCons (dIf (dtB (d2 dEq (dVar 2) (dC (.int 0)))) (dCallM df_law_pick (dVar 0) (dCons (dLst (dCons (dC (.str " ")) (dCons (dC (.str "~")) (dNil)))) (dNil))) (dCallM df_law_pick (dVar 0) (dCons (dLst (dCons (dC (.str "\n")) (dCons (dC (.str "")) (dCons (dC (.str "ab")) (dNil))))) (dNil)))) (dNil))))) (dIfS (dtB (d2 dEq (dVar 1) (dC (.int 8)))) (dAsg 6 (dTup (dCons (dTup (dCons (d2 dIxA (dVar 3) (dC (.int 1))) (dCons (dIf (dtB (d2 dEq (dVar 2) (dC (.int 0)))) (dCallM df_law_pick (dVar 0) (dCons (dLst (dCons (dC (.int 1)) (dCons (d2 dSub (dC (.int 1)) (dVar 2)) (dNil)))) (dNil))) (dC (.int 0))) (dCons (dC (.int 1)) (dCons (dC (.str "number")) (dNil)))))) (dNil)))) (dIfS (dtB (d2 dEq (dVar 1) (dC (.int 9)))) (dAsg 6 (dTup (dCons (dTup (dCons (d2 dIxA (dVar 3) (dC (.int 1))) (dCons (dC (.int 5)) (dCons (d2 dSub (dC (.int 1)) (dVar 2)) (dCons (dC (.str "text")) (dNil)))))) (dNil)))) (dIfS (dtB (d2 dEq (dVar 1) (dC (.int 10)))) (dRet (dCallM df_law_marked (dVar 0) (dCons (dVar 3) (dCons (dVar 2) (dNil))))) (dAsg 6 (dCallM df_law_two (dVar 0) (dCons (dVar 3) (dCons (dVar 2) (dNil)))))))))))))))) (dRet (dTup (dCons (dVar 4) (dCons (dVar 5) (dCons (dVar 6) (dNil))))))
abbrev s_law_at_bound : Stmt := topS 36
theorem sc_law_at_bound : FnScope ["_law_draw", "_law_way", "_law_over", "_law_names_here", "_law_name", "_law_mark", "_law_fields", "_law_lead", "_law_long", "_law_k"] ["_law_draw", "_law_way", "_law_over"] (defScope s_law_at_bound) := ⟨rfl, rfl, rfl, by decide +kernel, rfl, by decide +kernel, by decide +kernel⟩
def b_law_at_bound : DS := dSeq (dAsg 3 (dCallM df_law_names (dVar 0) (dCons (dC (.int 12)) (dNil)))) (dSeq (dMulti [4, 5, 6] (dCons (d2 dIxA (dVar 3) (dC (.int 0))) (dCons (dC .non) (dCons (dTup (dCons (dTup (dCons (d2 dIxA (dVar 3) (dC (.int 1))) (dCons (dC (.int 3)) (dCons (dC (.int 4)) (dCons (dC (.str "text")) (dNil)))))) (dNil))) (dNil))))) bs_law_at_bound_2)
def df_law_at_bound : DFm := defM 3 10 b_law_at_bound
theorem ok_law_at_bound (T : Txt w K mg) (C_law_any_sign : CalM CT P w K mg base 3 "_law_any_sign" df_law_any_sign) (C_law_marked : CalM CT P w K mg base 4 "_law_marked" df_law_marked) (C_law_names : CalM CT P w K mg base 2 "_law_names" df_law_names) (C_law_next : CalM CT P w K mg base 1 "_law_next" df_law_next) (C_law_pick : CalM CT P w K mg base 2 "_law_pick" df_law_pick) (C_law_two : CalM CT P w K mg base 3 "_law_two" df_law_two) {f : Addr} {fd : FuncData} (Fn : Fun K "_law_at_bound" "_law_at_bound" s_law_at_bound f fd) : FnOk P w K mg base CX0 (4 + 1) f fd ["_law_draw", "_law_way", "_law_over"] (spM ⟨K, mg, CT⟩ df_law_at_bound) :=
  by
    show FnOk P w K mg base CX0 (4 + 1) f fd ["_law_draw", "_law_way", "_law_over"] (spM ⟨K, mg, CT⟩ (defM 3 10 b_law_at_bound))
    refine fnM (N := ["_law_draw", "_law_way", "_law_over", "_law_names_here", "_law_name", "_law_mark", "_law_fields", "_law_lead", "_law_long", "_law_k"]) (ps := ["_law_draw", "_law_way", "_law_over"]) Fn sc_law_at_bound (by decide) ?_
    intro cdv A outer s H E hr
    have nd := sc_law_at_bound.nd
    refine sss_cons ?_ ?_
    · refine ss_set (i := 3) nd rfl (by first | exact Or.inl rfl | exact Or.inr rfl) ?_
      · refine se_callM C_law_names hr (by first | decide | omega) rfl ?_ ?_
        · exact se_var 0
        · refine sa_cons ?_ ?_
          · exact se_int
          · exact sa_nil
    · refine sss_cons ?_ ?_
      · first
        | (
           refine ss_par3 (i := 4) (j := 5) (m := 6) rfl nd rfl rfl rfl (by decide) (by decide) (by decide) rfl rfl rfl ?_
           · refine sa_cons ?_ ?_
             · refine se_ixA (hu_of hr) ?_ ?_
               · exact se_var 3
               · exact se_int
             · refine sa_cons ?_ ?_
               · exact se_non
               · refine sa_cons ?_ ?_
                 · refine se_tup ?_
                   · refine sa_cons ?_ ?_
                     · refine se_tup ?_
                       · refine sa_cons ?_ ?_
                         · refine se_ixA (hu_of hr) ?_ ?_
                           · exact se_var 3
                           · exact se_int
                         · refine sa_cons ?_ ?_
                           · exact se_int
                           · refine sa_cons ?_ ?_
                             · exact se_int
                             · refine sa_cons ?_ ?_
                               · exact se_str
                               · exact sa_nil
                     · exact sa_nil
                 · exact sa_nil)
        | (
           refine ss_multi (is := [4, 5, 6]) rfl ?_ ?_
           · refine sa_cons ?_ ?_
             · refine se_ixA (hu_of hr) ?_ ?_
               · exact se_var 3
               · exact se_int
             · refine sa_cons ?_ ?_
               · exact se_non
               · refine sa_cons ?_ ?_
                 · refine se_tup ?_
                   · refine sa_cons ?_ ?_
                     · refine se_tup ?_
                       · refine sa_cons ?_ ?_
                         · refine se_ixA (hu_of hr) ?_ ?_
                           · exact se_var 3
                           · exact se_int
                         · refine sa_cons ?_ ?_
                           · exact se_int
                           · refine sa_cons ?_ ?_
                             · exact se_int
                             · refine sa_cons ?_ ?_
                               · exact se_str
                               · exact sa_nil
                     · exact sa_nil
                 · exact sa_nil
           · refine sns_cons (i := 4) nd rfl (by first | exact Or.inl rfl | exact Or.inr rfl) ?_
             · refine sns_cons (i := 5) nd rfl (by first | exact Or.inl rfl | exact Or.inr rfl) ?_
               · refine sns_cons (i := 6) nd rfl (by first | exact Or.inl rfl | exact Or.inr rfl) ?_
                 · exact sns_nil)
      · refine sss_cons ?_ ?_
        · refine ss_if ?_ ?_ ?_
          · refine st_cmp (op_eqA hr.units) sem_eq ?_ ?_ (nomark _)
            · exact se_var 1
            · exact se_int
          · refine sss_cons ?_ ?_
            · refine ss_set (i := 7) nd rfl (by first | exact Or.inl rfl | exact Or.inr rfl) ?_
              · refine se_bin op_addX sem_addX ?_ ?_
                · exact se_int
                · refine se_callM C_law_next hr (by first | decide | omega) rfl ?_ ?_
                  · exact se_var 0
                  · refine sa_cons ?_ ?_
                    · exact se_int
                    · exact sa_nil
            · refine sss_one ?_
              · refine ss_set (i := 6) nd rfl (by first | exact Or.inl rfl | exact Or.inr rfl) ?_
                · refine se_callTy call_tuple_of sem_tuple rfl T.b_tuple (by decide +kernel) ?_
                  · refine sa_cons ?_ ?_
                    · refine se_lc (own := [("_law_k", 9)]) rfl nd ?_ ?_ ?_ ?_ ?_
                      · refine si_range1 rfl T.b_range ?_
                        · refine se_bin op_addX sem_addX ?_ ?_
                          · exact se_int
                          · exact se_var 2
                      · exact blkOk_by (N := ["_law_draw", "_law_way", "_law_over", "_law_names_here", "_law_name", "_law_mark", "_law_fields", "_law_lead", "_law_long", "_law_k"]) (sc := defScope s_law_at_bound) (own := [("_law_k", 9)]) (by decide +kernel)
                      · intro _ _ _ _ _
                        exact sg_name (i := 9) nd rfl (by first | exact Or.inl rfl | exact Or.inr rfl)
                      · intro _ _ _ _ _
                        exact sts_nil
                      · intro _ _ _ _ _
                        refine se_tup ?_
                        · refine sa_cons ?_ ?_
                          · refine se_ixA (hu_of hr) ?_ ?_
                            · exact se_var 3
                            · refine se_bin op_addX sem_addX ?_ ?_
                              · exact se_int
                              · exact se_var 9
                          · refine sa_cons ?_ ?_
                            · refine se_bin op_addX sem_addX ?_ ?_
                              · exact se_var 7
                              · refine se_bin op_mulM sem_mulM ?_ ?_
                                · exact se_int
                                · exact se_var 9
                            · refine sa_cons ?_ ?_
                              · refine se_bin op_addX sem_addX ?_ ?_
                                · exact se_int
                                · refine se_callM C_law_next hr (by first | decide | omega) rfl ?_ ?_
                                  · exact se_var 0
                                  · refine sa_cons ?_ ?_
                                    · exact se_int
                                    · exact sa_nil
                              · refine sa_cons ?_ ?_
                                · exact se_str
                                · exact sa_nil
                    · exact sa_nil
          · refine sss_one ?_
            · refine ss_if ?_ ?_ ?_
              · refine st_cmp (op_eqA hr.units) sem_eq ?_ ?_ (nomark _)
                · exact se_var 1
                · exact se_int
              · refine sss_one ?_
                · refine ss_set (i := 4) nd rfl (by first | exact Or.inl rfl | exact Or.inr rfl) ?_
                  · refine se_bin op_addX sem_addX ?_ ?_
                    · exact se_str
                    · refine se_bin op_mulM sem_mulM ?_ ?_
                      · exact se_str
                      · exact se_var 2
              · refine sss_one ?_
                · refine ss_if ?_ ?_ ?_
                  · refine st_cmp (op_eqA hr.units) sem_eq ?_ ?_ (nomark _)
                    · exact se_var 1
                    · exact se_int
                  · refine sss_one ?_
                    · refine ss_set (i := 6) nd rfl (by first | exact Or.inl rfl | exact Or.inr rfl) ?_
                      · refine se_tup ?_
                        · refine sa_cons ?_ ?_
                          · refine se_tup ?_
                            · refine sa_cons ?_ ?_
                              · refine se_bin op_addX sem_addX ?_ ?_
                                · exact se_str
                                · refine se_bin op_mulM sem_mulM ?_ ?_
                                  · exact se_str
                                  · exact se_var 2
                              · refine sa_cons ?_ ?_
                                · exact se_int
                                · refine sa_cons ?_ ?_
                                  · exact se_int
                                  · refine sa_cons ?_ ?_
                                    · exact se_str
                                    · exact sa_nil
                          · exact sa_nil
                  · refine sss_one ?_
                    · refine ss_if ?_ ?_ ?_
                      · refine st_cmp (op_eqA hr.units) sem_eq ?_ ?_ (nomark _)
                        · exact se_var 1
                        · exact se_int
                      · refine sss_one ?_
                        · refine ss_set (i := 6) nd rfl (by first | exact Or.inl rfl | exact Or.inr rfl) ?_
                          · refine se_tup ?_
                            · refine sa_cons ?_ ?_
                              · refine se_tup ?_
                                · refine sa_cons ?_ ?_
                                  · refine se_ixA (hu_of hr) ?_ ?_
                                    · exact se_var 3
                                    · exact se_int
                                  · refine sa_cons ?_ ?_
                                    · refine se_bin op_addX sem_addX ?_ ?_
                                      · exact se_int
                                      · refine se_callM C_law_next hr (by first | decide | omega) rfl ?_ ?_
                                        · exact se_var 0
                                        · refine sa_cons ?_ ?_
                                          · exact se_int
                                          · exact sa_nil
                                    · refine sa_cons ?_ ?_
                                      · refine se_bin op_addX sem_addX ?_ ?_
                                        · exact se_int
                                        · exact se_var 2
                                      · refine sa_cons ?_ ?_
                                        · exact se_str
                                        · exact sa_nil
                              · exact sa_nil
                      · refine sss_one ?_
                        · refine ss_if ?_ ?_ ?_
                          · refine st_cmp (op_eqA hr.units) sem_eq ?_ ?_ (nomark _)
                            · exact se_var 1
                            · exact se_int
                          · refine sss_one ?_
                            · refine ss_set (i := 6) nd rfl (by first | exact Or.inl rfl | exact Or.inr rfl) ?_
                              · refine se_tup ?_
                                · refine sa_cons ?_ ?_
                                  · refine se_tup ?_
                                    · refine sa_cons ?_ ?_
                                      · refine se_ixA (hu_of hr) ?_ ?_
                                        · exact se_var 3
                                        · exact se_int
                                      · refine sa_cons ?_ ?_
                                        · refine se_bin op_addX sem_addX ?_ ?_
                                          · exact se_int
                                          · refine se_callM C_law_next hr (by first | decide | omega) rfl ?_ ?_
                                            · exact se_var 0
                                            · refine sa_cons ?_ ?_
                                              · exact se_int
                                              · exact sa_nil
                                        · refine sa_cons ?_ ?_
                                          · refine se_bin op_addX sem_addX ?_ ?_
                                            · exact se_int
                                            · exact se_var 2
                                          · refine sa_cons ?_ ?_
                                            · exact se_str
                                            · exact sa_nil
                                  · exact sa_nil
                          · refine sss_one ?_
                            · refine ss_if ?_ ?_ ?_
                              · refine st_cmp (op_eqA hr.units) sem_eq ?_ ?_ (nomark _)
                                · exact se_var 1
                                · exact se_int
                              · refine sss_cons ?_ ?_
                                · refine ss_set (i := 8) nd rfl (by first | exact Or.inl rfl | exact Or.inr rfl) ?_
                                  · refine se_bin op_addX sem_addX ?_ ?_
                                    · exact se_int
                                    · refine se_callM C_law_next hr (by first | decide | omega) rfl ?_ ?_
                                      · exact se_var 0
                                      · refine sa_cons ?_ ?_
                                        · exact se_int
                                        · exact sa_nil
                                · refine sss_one ?_
                                  · refine ss_set (i := 6) nd rfl (by first | exact Or.inl rfl | exact Or.inr rfl) ?_
                                    · refine se_tup ?_
                                      · refine sa_cons ?_ ?_
                                        · refine se_tup ?_
                                          · refine sa_cons ?_ ?_
                                            · refine se_ixA (hu_of hr) ?_ ?_
                                              · exact se_var 3
                                              · exact se_int
                                            · refine sa_cons ?_ ?_
                                              · refine se_bin op_addX sem_addX ?_ ?_
                                                · refine se_bin op_sub sem_sub ?_ ?_
                                                  · exact se_int
                                                  · exact se_var 8
                                                · exact se_var 2
                                              · refine sa_cons ?_ ?_
                                                · exact se_var 8
                                                · refine sa_cons ?_ ?_
                                                  · refine se_callM C_law_pick hr (by first | decide | omega) rfl ?_ ?_
                                                    · exact se_var 0
                                                    · refine sa_cons ?_ ?_
                                                      · refine se_lst ?_
                                                        · refine sa_cons ?_ ?_
                                                          · exact se_str
                                                          · refine sa_cons ?_ ?_
                                                            · exact se_str
                                                            · exact sa_nil
                                                      · exact sa_nil
                                                  · exact sa_nil
                                        · exact sa_nil
                              · refine sss_one ?_
                                · refine ss_if ?_ ?_ ?_
                                  · refine st_cmp (op_eqA hr.units) sem_eq ?_ ?_ (nomark _)
                                    · exact se_var 1
                                    · exact se_int
                                  · refine sss_one ?_
                                    · refine ss_set (i := 5) nd rfl (by first | exact Or.inl rfl | exact Or.inr rfl) ?_
                                      · refine se_tup ?_
                                        · refine sa_cons ?_ ?_
                                          · refine se_callM C_law_pick hr (by first | decide | omega) rfl ?_ ?_
                                            · exact se_var 0
                                            · refine sa_cons ?_ ?_
                                              · refine se_lst ?_
                                                · refine sa_cons ?_ ?_
                                                  · refine se_bin op_addX sem_addX ?_ ?_
                                                    · exact se_int
                                                    · exact se_var 2
                                                  · refine sa_cons ?_ ?_
                                                    · refine se_bin op_sub sem_sub ?_ ?_
                                                      · exact se_int
                                                      · exact se_var 2
                                                    · exact sa_nil
                                              · exact sa_nil
                                          · refine sa_cons ?_ ?_
                                            · refine se_callM C_law_any_sign hr (by first | decide | omega) rfl ?_ ?_
                                              · exact se_var 0
                                              · exact sa_nil
                                            · exact sa_nil
                                  · refine sss_one ?_
                                    · refine ss_if ?_ ?_ ?_
                                      · refine st_cmp (op_eqA hr.units) sem_eq ?_ ?_ (nomark _)
                                        · exact se_var 1
                                        · exact se_int
                                      · refine sss_one ?_
                                        · refine ss_set (i := 5) nd rfl (by first | exact Or.inl rfl | exact Or.inr rfl) ?_
                                          · refine se_tup ?_
                                            · refine sa_cons ?_ ?_
                                              · exact se_int
                                              · refine sa_cons ?_ ?_
                                                · refine se_if ?_ ?_ ?_
                                                  · refine st_cmp (op_eqA hr.units) sem_eq ?_ ?_ (nomark _)
                                                    · exact se_var 2
                                                    · exact se_int
                                                  · refine se_callM C_law_pick hr (by first | decide | omega) rfl ?_ ?_
                                                    · exact se_var 0
                                                    · refine sa_cons ?_ ?_
                                                      · refine se_lst ?_
                                                        · refine sa_cons ?_ ?_
                                                          · exact se_str
                                                          · refine sa_cons ?_ ?_
                                                            · exact se_str
                                                            · exact sa_nil
                                                      · exact sa_nil
                                                  · refine se_callM C_law_pick hr (by first | decide | omega) rfl ?_ ?_
                                                    · exact se_var 0
                                                    · refine sa_cons ?_ ?_
                                                      · refine se_lst ?_
                                                        · refine sa_cons ?_ ?_
                                                          · exact se_str
                                                          · refine sa_cons ?_ ?_
                                                            · exact se_str
                                                            · refine sa_cons ?_ ?_
                                                              · exact se_str
                                                              · exact sa_nil
                                                      · exact sa_nil
                                                · exact sa_nil
                                      · refine sss_one ?_
                                        · refine ss_if ?_ ?_ ?_
                                          · refine st_cmp (op_eqA hr.units) sem_eq ?_ ?_ (nomark _)
                                            · exact se_var 1
                                            · exact se_int
                                          · refine sss_one ?_
                                            · refine ss_set (i := 6) nd rfl (by first | exact Or.inl rfl | exact Or.inr rfl) ?_
                                              · refine se_tup ?_
                                                · refine sa_cons ?_ ?_
                                                  · refine se_tup ?_
                                                    · refine sa_cons ?_ ?_
                                                      · refine se_ixA (hu_of hr) ?_ ?_
                                                        · exact se_var 3
                                                        · exact se_int
                                                      · refine sa_cons ?_ ?_
                                                        · refine se_if ?_ ?_ ?_
                                                          · refine st_cmp (op_eqA hr.units) sem_eq ?_ ?_ (nomark _)
                                                            · exact se_var 2
                                                            · exact se_int
                                                          · refine se_callM C_law_pick hr (by first | decide | omega) rfl ?_ ?_
                                                            · exact se_var 0
                                                            · refine sa_cons ?_ ?_
                                                              · refine se_lst ?_
                                                                · refine sa_cons ?_ ?_
                                                                  · exact se_int
                                                                  · refine sa_cons ?_ ?_
                                                                    · refine se_bin op_sub sem_sub ?_ ?_
                                                                      · exact se_int
                                                                      · exact se_var 2
                                                                    · exact sa_nil
                                                              · exact sa_nil
                                                          · exact se_int
                                                        · refine sa_cons ?_ ?_
                                                          · exact se_int
                                                          · refine sa_cons ?_ ?_
                                                            · exact se_str
                                                            · exact sa_nil
                                                  · exact sa_nil
                                          · refine sss_one ?_
                                            · refine ss_if ?_ ?_ ?_
                                              · refine st_cmp (op_eqA hr.units) sem_eq ?_ ?_ (nomark _)
                                                · exact se_var 1
                                                · exact se_int
                                              · refine sss_one ?_
                                                · refine ss_set (i := 6) nd rfl (by first | exact Or.inl rfl | exact Or.inr rfl) ?_
                                                  · refine se_tup ?_
                                                    · refine sa_cons ?_ ?_
                                                      · refine se_tup ?_
                                                        · refine sa_cons ?_ ?_
                                                          · refine se_ixA (hu_of hr) ?_ ?_
                                                            · exact se_var 3
                                                            · exact se_int
                                                          · refine sa_cons ?_ ?_
                                                            · exact se_int
                                                            · refine sa_cons ?_ ?_
                                                              · refine se_bin op_sub sem_sub ?_ ?_
                                                                · exact se_int
                                                                · exact se_var 2
                                                              · refine sa_cons ?_ ?_
                                                                · exact se_str
                                                                · exact sa_nil
                                                      · exact sa_nil
                                              · refine sss_one ?_
                                                · refine ss_if ?_ ?_ ?_
                                                  · refine st_cmp (op_eqA hr.units) sem_eq ?_ ?_ (nomark _)
                                                    · exact se_var 1
                                                    · exact se_int
                                                  · refine sss_one ?_
                                                    · refine ss_ret ?_
                                                      · refine se_callM C_law_marked hr (by first | decide | omega) rfl ?_ ?_
                                                        · exact se_var 0
                                                        · refine sa_cons ?_ ?_
                                                          · exact se_var 3
                                                          · refine sa_cons ?_ ?_
                                                            · exact se_var 2
                                                            · exact sa_nil
                                                  · refine sss_one ?_
                                                    · refine ss_set (i := 6) nd rfl (by first | exact Or.inl rfl | exact Or.inr rfl) ?_
                                                      · refine se_callM C_law_two hr (by first | decide | omega) rfl ?_ ?_
                                                        · exact se_var 0
                                                        · refine sa_cons ?_ ?_
                                                          · exact se_var 3
                                                          · refine sa_cons ?_ ?_
                                                            · exact se_var 2
                                                            · exact sa_nil
        · refine sss_one ?_
          · refine ss_ret ?_
            · refine se_tup ?_
              · refine sa_cons ?_ ?_
                · exact se_var 4
                · refine sa_cons ?_ ?_
                  · exact se_var 5
                  · refine sa_cons ?_ ?_
                    · exact se_var 6
                    · exact sa_nil
abbrev s_law_refused : Stmt := topS 37
theorem sc_law_refused : FnScope ["_law_parts", "_law_refused_here", "_law_e"] ["_law_parts"] (defScope s_law_refused) := ⟨rfl, rfl, rfl, by decide +kernel, rfl, by decide +kernel, by decide +kernel⟩
def b_law_refused : DS := dSeq (dAsg 1 (dC .non)) (dSeq (dTry 2 [2] (fun c => [1, 2, 3, 4, 5, 6, 7, 8, 9].contains c) (dDropX (dMakeX 0 df_Shape_initX (dCons (d2 dIxA (dVar 0) (dC (.int 0))) (dCons (d2 dIxA (dVar 0) (dC (.int 1))) (dCons (d2 dIxA (dVar 0) (dC (.int 2))) (dNil)))))) (dAsg 1 (dVar 2))) (dRet (dIf (dtB (d2 dIsN (dVar 1) (dC .non))) (dC .non) (dCallP df_law_alone (dCons (dVar 1) (dNil))))))
def df_law_refused : DFp := defP 1 3 b_law_refused
theorem ok_law_refused (T : Txt w K mg) (C_law_alone : CalP CT P w K mg base 1 "_law_alone" df_law_alone) (C_mx_Shape : MakX CT P w K mg base 6 "Shape" 0 df_Shape_initX) {f : Addr} {fd : FuncData} (Fn : Fun K "_law_refused" "_law_refused" s_law_refused f fd) : FnOk P w K mg base CX0 (7 + 1) f fd ["_law_parts"] (spP ⟨K, mg, CT⟩ df_law_refused) :=
  by
    show FnOk P w K mg base CX0 (7 + 1) f fd ["_law_parts"] (spP ⟨K, mg, CT⟩ (defP 1 3 b_law_refused))
    refine fnP (N := ["_law_parts", "_law_refused_here", "_law_e"]) (ps := ["_law_parts"]) Fn sc_law_refused (by decide) ?_
    intro cdv A outer s H E hr
    have nd := sc_law_refused.nd
    refine sss_cons ?_ ?_
    · refine ss_set (i := 1) nd rfl (by first | exact Or.inl rfl | exact Or.inr rfl) ?_
      · exact se_non
    · refine sss_cons ?_ ?_
      · refine ss_tryN (i := 2) T.xc_RoundError rfl rfl rfl nd rfl rfl ?_ ?_
        · intro _ _ _
          refine sss_one ?_
          · refine ss_exprX ?_
            · refine sx_make C_mx_Shape hr (by first | decide | omega) rfl ?_
              · refine sa_cons ?_ ?_
                · refine se_ixA (hu_of hr) ?_ ?_
                  · exact se_var 0
                  · exact se_int
                · refine sa_cons ?_ ?_
                  · refine se_ixA (hu_of hr) ?_ ?_
                    · exact se_var 0
                    · exact se_int
                  · refine sa_cons ?_ ?_
                    · refine se_ixA (hu_of hr) ?_ ?_
                      · exact se_var 0
                      · exact se_int
                    · exact sa_nil
        · intro _ _
          refine sss_one ?_
          · refine ss_set (i := 1) nd rfl (by first | exact Or.inl rfl | exact Or.inr rfl) ?_
            · exact se_var 2
      · refine sss_one ?_
        · refine ss_ret ?_
          · refine se_if ?_ ?_ ?_
            · refine st_cmp op_isN sem_isN ?_ ?_ (nomark _)
              · exact se_var 1
              · exact se_non
            · exact se_non
            · refine se_callP C_law_alone hr (by first | decide | omega) rfl ?_
              · refine sa_cons ?_ ?_
                · exact se_var 1
                · exact sa_nil
abbrev s_law_right : Stmt := topS 38
theorem sc_law_right : FnScope ["_law_cell", "_law_k", "_law_draw", "_law_way", "_law_over", "_law_parts"] ["_law_cell", "_law_k"] (defScope s_law_right) := ⟨rfl, rfl, rfl, by decide +kernel, rfl, by decide +kernel, by decide +kernel⟩
def b_law_right : DS := dSeq (dAsg 2 (dCallP df_law_begun (dCons (dVar 0) (dCons (dVar 1) (dNil))))) (dSeq (dMulti [3, 4] (dCons (dCallM df_law_next (dVar 2) (dCons (dC (.int 12)) (dNil))) (dCons (dCallM df_law_next (dVar 2) (dCons (dC (.int 2)) (dNil))) (dNil)))) (dSeq (dAsg 5 (dCallM df_law_at_bound (dVar 2) (dCons (dVar 3) (dCons (dVar 4) (dNil))))) (dRet (dCallP (df_law_like 8) (dCons (dCallP df_law_refused (dCons (dVar 5) (dNil))) (dCons (dIf (dtB (d2 dEq (dVar 4) (dC (.int 1)))) (dC (.str "NoShape")) (dC .non)) (dNil)))))))
def df_law_right : DFp := defP 2 6 b_law_right
theorem ok_law_right (T : Txt w K mg) (C_law_at_bound : CalM CT P w K mg base 5 "_law_at_bound" df_law_at_bound) (C_law_begun : CalP CT P w K mg base 1 "_law_begun" df_law_begun) (C_law_like : CalP CT P w K mg base 9 "_law_like" (df_law_like 8)) (C_law_next : CalM CT P w K mg base 1 "_law_next" df_law_next) (C_law_refused : CalP CT P w K mg base 8 "_law_refused" df_law_refused) {f : Addr} {fd : FuncData} (Fn : Fun K "_law_right" "_law_right" s_law_right f fd) : FnOk P w K mg base CX0 (9 + 1) f fd ["_law_cell", "_law_k"] (spP ⟨K, mg, CT⟩ df_law_right) :=
  by
    show FnOk P w K mg base CX0 (9 + 1) f fd ["_law_cell", "_law_k"] (spP ⟨K, mg, CT⟩ (defP 2 6 b_law_right))
    refine fnP (N := ["_law_cell", "_law_k", "_law_draw", "_law_way", "_law_over", "_law_parts"]) (ps := ["_law_cell", "_law_k"]) Fn sc_law_right (by decide) ?_
    intro cdv A outer s H E hr
    have nd := sc_law_right.nd
    refine sss_cons ?_ ?_
    · refine ss_set (i := 2) nd rfl (by first | exact Or.inl rfl | exact Or.inr rfl) ?_
      · refine se_callP C_law_begun hr (by first | decide | omega) rfl ?_
        · refine sa_cons ?_ ?_
          · exact se_var 0
          · refine sa_cons ?_ ?_
            · exact se_var 1
            · exact sa_nil
    · refine sss_cons ?_ ?_
      · first
        | (
           refine ss_par (i := 3) (j := 4) rfl nd rfl rfl (by decide) rfl rfl ?_
           · refine sa_cons ?_ ?_
             · refine se_callM C_law_next hr (by first | decide | omega) rfl ?_ ?_
               · exact se_var 2
               · refine sa_cons ?_ ?_
                 · exact se_int
                 · exact sa_nil
             · refine sa_cons ?_ ?_
               · refine se_callM C_law_next hr (by first | decide | omega) rfl ?_ ?_
                 · exact se_var 2
                 · refine sa_cons ?_ ?_
                   · exact se_int
                   · exact sa_nil
               · exact sa_nil)
        | (
           refine ss_multi (is := [3, 4]) rfl ?_ ?_
           · refine sa_cons ?_ ?_
             · refine se_callM C_law_next hr (by first | decide | omega) rfl ?_ ?_
               · exact se_var 2
               · refine sa_cons ?_ ?_
                 · exact se_int
                 · exact sa_nil
             · refine sa_cons ?_ ?_
               · refine se_callM C_law_next hr (by first | decide | omega) rfl ?_ ?_
                 · exact se_var 2
                 · refine sa_cons ?_ ?_
                   · exact se_int
                   · exact sa_nil
               · exact sa_nil
           · refine sns_cons (i := 3) nd rfl (by first | exact Or.inl rfl | exact Or.inr rfl) ?_
             · refine sns_cons (i := 4) nd rfl (by first | exact Or.inl rfl | exact Or.inr rfl) ?_
               · exact sns_nil)
      · refine sss_cons ?_ ?_
        · refine ss_set (i := 5) nd rfl (by first | exact Or.inl rfl | exact Or.inr rfl) ?_
          · refine se_callM C_law_at_bound hr (by first | decide | omega) rfl ?_ ?_
            · exact se_var 2
            · refine sa_cons ?_ ?_
              · exact se_var 3
              · refine sa_cons ?_ ?_
                · exact se_var 4
                · exact sa_nil
        · refine sss_one ?_
          · refine ss_ret ?_
            · refine se_callP C_law_like hr (by first | decide | omega) rfl ?_
              · refine sa_cons ?_ ?_
                · refine se_callP C_law_refused hr (by first | decide | omega) rfl ?_
                  · refine sa_cons ?_ ?_
                    · exact se_var 5
                    · exact sa_nil
                · refine sa_cons ?_ ?_
                  · refine se_if ?_ ?_ ?_
                    · refine st_cmp (op_eqA hr.units) sem_eq ?_ ?_ (nomark _)
                      · exact se_var 4
                      · exact se_int
                    · exact se_str
                    · exact se_non
                  · exact sa_nil
def bl_law_1 : DS := dIfS (dtNot (dtB (dCallP df_law_right (dCons (dVar 2) (dCons (dVar 1) (dNil)))))) (dRet (dC (.bl false))) dNext
abbrev s_law : Stmt := topS 39
theorem sc_law : FnScope ["_law_script", "_law_k", "_law_cell"] ["_law_script"] (defScope s_law) := ⟨rfl, rfl, rfl, by decide +kernel, rfl, by decide +kernel, by decide +kernel⟩
def b_law : DS := dSeq (dFor (.tup (.cons (.nm 1) (.cons (.nm 2) (.nil)))) (diEnumX (dSl dSliceX (d2 dAddX (dVar 0) (dLst (dCons (dC (.int 3)) (dNil)))) doNone (doSome (dL dMax (dCons (dC (.int 1)) (dCons (dL dMin (dCons (dC (.int 40)) (dCons (dL dLen (dCons (dVar 0) (dNil))) (dNil)))) (dNil))))))) bl_law_1) (dRet (dC (.bl true)))
def df_law : DFp := defP 1 3 b_law
theorem ok_law (T : Txt w K mg) (C_law_right : CalP CT P w K mg base 10 "_law_right" df_law_right) {f : Addr} {fd : FuncData} (Fn : Fun K "law" "law" s_law f fd) : FnOk P w K mg base CX0 (10 + 1) f fd ["_law_script"] (spP ⟨K, mg, CT⟩ df_law) :=
  by
    show FnOk P w K mg base CX0 (10 + 1) f fd ["_law_script"] (spP ⟨K, mg, CT⟩ (defP 1 3 b_law))
    refine fnP (N := ["_law_script", "_law_k", "_law_cell"]) (ps := ["_law_script"]) Fn sc_law (by decide) ?_
    intro cdv A outer s H E hr
    have nd := sc_law.nd
    refine sss_cons ?_ ?_
    · refine ss_for PassesOwn.never rfl ?_ ?_ ?_
      · refine si_enumX rfl T.b_enumerate ?_
        · refine se_slice sl_X sem_sliceX ?_ ?_ ?_
          · refine se_bin op_addX sem_addX ?_ ?_
            · exact se_var 0
            · refine se_lst ?_
              · refine sa_cons ?_ ?_
                · exact se_int
                · exact sa_nil
          · exact so_none
          · refine so_some ?_
            · refine se_callB (call_max2 rfl) sem_max rfl T.b_max (by decide +kernel) ?_
              · refine sa_cons ?_ ?_
                · exact se_int
                · refine sa_cons ?_ ?_
                  · refine se_callB (call_min2 rfl) sem_min rfl T.b_min (by decide +kernel) ?_
                    · refine sa_cons ?_ ?_
                      · exact se_int
                      · refine sa_cons ?_ ?_
                        · refine se_callB Sim.call_lenD sem_len rfl T.b_len (by decide +kernel) ?_
                          · refine sa_cons ?_ ?_
                            · exact se_var 0
                            · exact sa_nil
                        · exact sa_nil
                  · exact sa_nil
      · refine sg_tup rfl ?_
        · refine sgs_cons ?_ ?_
          · exact sg_name (i := 1) nd rfl (by first | exact Or.inl rfl | exact Or.inr rfl)
          · refine sgs_cons ?_ ?_
            · exact sg_name (i := 2) nd rfl (by first | exact Or.inl rfl | exact Or.inr rfl)
            · exact sgs_nil
      · refine sss_one ?_
        · refine ss_if ?_ ?_ ?_
          · refine st_not ?_
            · refine st_val ?_
              · refine se_callP C_law_right hr (by first | decide | omega) rfl ?_
                · refine sa_cons ?_ ?_
                  · exact se_var 2
                  · refine sa_cons ?_ ?_
                    · exact se_var 1
                    · exact sa_nil
          · refine sss_one ?_
            · refine ss_ret ?_
              · exact se_bl
          · exact sss_nil
    · refine sss_one ?_
      · refine ss_ret ?_
        · exact se_bl
end
end Law
namespace Law
open Sim
open PySem hiding Env
set_option maxHeartbeats 1000000
local macro_rules | `(tactic| infer_instance) => `(tactic| first | ((with_reducible apply rm_s); exact rfl; exact rfl) | ((with_reducible apply rm_o); exact rfl; exact rfl))
local macro_rules | `(tactic| infer_instance) => `(tactic| first | with_reducible refine lim_and (by decide) ?_ | ((with_reducible apply rmx_nx); exact rfl) | ((with_reducible apply rp_s); exact rfl) | ((with_reducible apply rp_o); exact rfl) | ((with_reducible apply rm_nx); exact rfl) | ((with_reducible apply rm_v); exact rfl) | ((with_reducible apply rx_s); exact rfl) | ((with_reducible apply rx_o); exact rfl))
local macro_rules | `(tactic| infer_instance) => `(tactic| first | ((with_reducible apply br_f); exact rfl) | with_reducible refine rp_nx ?_ | with_reducible refine rp_v ?_ | with_reducible refine rx_nx ?_ | with_reducible refine rx_v ?_ | with_reducible refine rx_x ?_ | with_reducible refine rmx_x ?_ | with_reducible refine wl ?_)
local macro_rules | `(tactic| infer_instance) => `(tactic| first | ((with_reducible apply wrs_n); ((try simp only [strX_str, dEq_int, dEq_str, dNe_int, dNe_str, dOrd, fLt, fLe, fGt, fGe, dSub, addX_int, dNeg, dLen, dIxA, dIx, sliceX_lst, revRs, dTuple, dListA, dAbs]); exact rfl)) | ((with_reducible apply wrs_t); ((try simp only [strX_str, dEq_int, dEq_str, dNe_int, dNe_str, dOrd, fLt, fLe, fGt, fGe, dSub, addX_int, dNeg, dLen, dIxA, dIx, sliceX_lst, revRs, dTuple, dListA, dAbs]); exact rfl)) | with_reducible refine wrv_v ?_ | with_reducible refine wrv_n ?_ | ((with_reducible apply wp); with_reducible assumption) | ((with_reducible apply wp); ((try simp only [List.set_cons_zero, List.set_cons_succ, List.take_succ_cons, List.take_zero, List.take_nil, List.length_cons, List.length_nil, List.cons_append, List.nil_append, List.map_cons, List.map_nil, List.replicate_succ, List.replicate_zero, List.getElem?_cons_zero, List.getElem?_cons_succ, wipesE, restore, sets, sqOf2, sqOf3, Ob.frz, bindP, bindPs, Option.bind_some, pin, puts, put, ownAt, storeO, Nat.reduceAdd, Nat.reduceSub, Nat.zero_add]); exact rfl)) | ((with_reducible apply wrb); ((try simp only [strX_str, dEq_int, dEq_str, dNe_int, dNe_str, dOrd, fLt, fLe, fGt, fGe, dSub, addX_int, dNeg, dLen, dIxA, dIx, sliceX_lst, revRs, dTuple, dListA, dAbs]); exact rfl)) | ((with_reducible apply br_t); exact rfl))
local macro_rules | `(tactic| infer_instance) => `(tactic| first | ((with_reducible apply wput_at); exact rfl; decide) | ((with_reducible apply wput_fr); exact rfl; decide) | ((with_reducible apply nr); ((try simp only [List.set_cons_zero, List.set_cons_succ, List.take_succ_cons, List.take_zero, List.take_nil, List.length_cons, List.length_nil, List.cons_append, List.nil_append, List.map_cons, List.map_nil, List.replicate_succ, List.replicate_zero, List.getElem?_cons_zero, List.getElem?_cons_succ, wipesE, restore, sets, sqOf2, sqOf3, Ob.frz, bindP, bindPs, Option.bind_some, pin, puts, put, ownAt, storeO, Nat.reduceAdd, Nat.reduceSub, Nat.zero_add]); exact rfl)) | ((with_reducible apply wrs_v); with_reducible assumption) | ((with_reducible apply wrs_n); with_reducible assumption) | ((with_reducible apply wrs_t); with_reducible assumption) | ((with_reducible apply wrb); with_reducible assumption) | ((with_reducible apply wrs_v); ((try simp only [strX_str, dEq_int, dEq_str, dNe_int, dNe_str, dOrd, fLt, fLe, fGt, fGe, dSub, addX_int, dNeg, dLen, dIxA, dIx, sliceX_lst, revRs, dTuple, dListA, dAbs]); exact rfl)))
local macro_rules | `(tactic| infer_instance) => `(tactic| first | ((with_reducible apply wfc_s); exact rfl) | ((with_reducible apply wfc_l); exact rfl) | ((with_reducible apply wfc_d); exact rfl) | ((with_reducible apply wfc_o); exact rfl) | with_reducible refine wfs_nil ?_ | with_reducible refine wfs_cons ?_ | with_reducible refine wput_v ?_ | ((with_reducible apply wput_s); exact rfl))
local macro_rules | `(tactic| infer_instance) => `(tactic| first | with_reducible refine wlk_v ?_ | ((with_reducible apply wlk_s); exact rfl) | ((with_reducible apply wlk_l); exact rfl) | ((with_reducible apply wlk_d); exact rfl) | ((with_reducible apply wlk_o); exact rfl) | with_reducible refine wls_nil ?_ | with_reducible refine wls_cons ?_ | with_reducible refine wfc_v ?_)
local macro_rules | `(tactic| infer_instance) => `(tactic| first | with_reducible refine wi_enumX ?_ | with_reducible refine wi_r1 ?_ | with_reducible refine wi_r2 ?_ | with_reducible refine wi_r3 ?_ | with_reducible refine wi_zip ?_ | with_reducible refine wi_zipW ?_ | with_reducible refine wi_zipM ?_ | with_reducible refine wi_keys ?_)
local macro_rules | `(tactic| infer_instance) => `(tactic| first | with_reducible refine wt_yes ?_ | with_reducible refine wa_nil ?_ | with_reducible refine wa_cons ?_ | with_reducible refine wa_star ?_ | with_reducible refine wo_none ?_ | with_reducible refine wo_some ?_ | with_reducible refine wi_seqS ?_ | with_reducible refine wi_enum ?_)
local macro_rules | `(tactic| infer_instance) => `(tactic| first | with_reducible refine we_inG ?_ | with_reducible refine we_ixG ?_ | with_reducible refine we_dpop ?_ | with_reducible refine we_clear ?_ | with_reducible refine wt_B ?_ | with_reducible refine wt_not ?_ | with_reducible refine wt_and ?_ | with_reducible refine wt_or ?_)
local macro_rules | `(tactic| infer_instance) => `(tactic| first | with_reducible refine we_fldX ?_ | with_reducible refine we_cntT ?_ | with_reducible refine we_chain ?_ | with_reducible refine we_lenSet ?_ | with_reducible refine we_listR1 ?_ | with_reducible refine we_listR2 ?_ | with_reducible refine we_ext ?_ | with_reducible refine we_get1 ?_)
local macro_rules | `(tactic| infer_instance) => `(tactic| first | with_reducible refine we_make ?_ | with_reducible refine we_MU ?_ | with_reducible refine we_fld ?_ | with_reducible refine we_isi ?_ | with_reducible refine we_isC ?_ | with_reducible refine we_revW ?_ | with_reducible refine we_rep ?_ | with_reducible refine we_isX ?_)
local macro_rules | `(tactic| infer_instance) => `(tactic| first | with_reducible refine we_not ?_ | with_reducible refine we_tup ?_ | with_reducible refine we_lst ?_ | with_reducible refine we_newD ?_ | with_reducible refine we_callP ?_ | with_reducible refine we_callM ?_ | with_reducible refine we_callPv ?_ | with_reducible refine we_callMv ?_)
local macro_rules | `(tactic| infer_instance) => `(tactic| first | with_reducible refine we_d2 ?_ | with_reducible refine we_d1 ?_ | with_reducible refine we_L ?_ | with_reducible refine we_MS ?_ | with_reducible refine we_sl ?_ | with_reducible refine we_if ?_ | with_reducible refine we_and ?_ | with_reducible refine we_or ?_)
local macro_rules | `(tactic| infer_instance) => `(tactic| first | with_reducible refine wx_call ?_ | with_reducible refine wx_make ?_ | with_reducible refine tk_nx ?_ | with_reducible refine tk_rt ?_ | ((with_reducible apply we_val); exact rfl) | ((with_reducible apply we_own); exact rfl) | ((with_reducible apply we_lcV); exact rfl) | with_reducible refine we_c ?_)
local macro_rules | `(tactic| infer_instance) => `(tactic| first | with_reducible refine ws_asgX ?_ | with_reducible refine ws_retX ?_ | with_reducible refine ws_dropX ?_ | with_reducible refine ws_raise0 ?_ | with_reducible refine ws_raise ?_ | with_reducible refine ws_try ?_ | with_reducible refine wx_pure ?_ | with_reducible refine wx_if ?_)
local macro_rules | `(tactic| infer_instance) => `(tactic| first | with_reducible refine ws_next ?_ | with_reducible refine ws_cont ?_ | with_reducible refine ws_break ?_ | with_reducible refine ws_drop ?_ | with_reducible refine ws_store ?_ | with_reducible refine ws_setF ?_ | with_reducible refine ws_slst ?_ | with_reducible refine ws_asgNS ?_)
local macro_rules | `(tactic| infer_instance) => `(tactic| first | with_reducible refine fo_ct ?_ | with_reducible refine fo_bk ?_ | with_reducible refine fo_rt ?_ | with_reducible refine ws_if ?_ | with_reducible refine ws_asg ?_ | with_reducible refine ws_asgP ?_ | with_reducible refine ws_multi ?_ | with_reducible refine ws_ret ?_)
local macro_rules | `(tactic| infer_instance) => `(tactic| first | with_reducible refine ws_seq ?_ | with_reducible refine sq_xc ?_ | with_reducible refine fo_xc ?_ | with_reducible refine sq_nx ?_ | with_reducible refine sq_rt ?_ | with_reducible refine sq_ct ?_ | with_reducible refine sq_bk ?_ | with_reducible refine fo_nx ?_)
structure St (n : Nat) (o : Ob) : Prop where
  ex : ∃ a b c : Int, o = .lst [.int a, .int b, .int c] ∧ 0 ≤ b ∧ b < 4294967296 ∧ 0 ≤ c ∧ c ≤ n
theorem St.mono {n m : Nat} {o : Ob} (h : St n o) (l : n ≤ m) : St m o := by
  obtain ⟨a, b, c, e, h1, h2, h3, h4⟩ := h
  exact ⟨a, b, c, e, h1, h2, h3, by omega⟩
theorem next_ok {n : Nat} {o : Ob} (s : St n o) (hn : n < 1000000) {sz : Int} (h0 : 0 < sz) (h1 : sz < 18446744073709551616) : FM df_law_next o [.int sz] fun r o' => ∃ x, r = .val (.int x) ∧ 0 ≤ x ∧ x < sz ∧ St (n + 1) o' := by
  obtain ⟨a, b, c, rfl, hb, hb2, hc, hc2⟩ := s
  have m1 : dMod (.int a) (.int sz) = some (.val (.int (a.fmod sz))) := mod_v (by omega)
  have m2 : dDivW (.int a) (.int sz) = some (.val (.int (a / sz))) := divW_s h0 h1
  have m3 : dMulM (.int 2) (.int (c + 1)) = some (.val (.int (2 * (c + 1)))) := mulM_s (by omega) (by omega)
  have m4 : dMulM (.int b) (.int (2 * (c + 1) + 1)) = some (.val (.int (b * (2 * (c + 1) + 1)))) := mulM_s (by omega) (by omega)
  have m5 : dMulM (.int 7919) (.int (c + 1)) = some (.val (.int (7919 * (c + 1)))) := mulM_s (by omega) (by omega)
  have m6 : dMulM (.int (7919 * (c + 1))) (.int (c + 1)) = some (.val (.int (7919 * (c + 1) * (c + 1)))) := mulM_s (by omega) (by omega)
  have e3 : (b * (2 * (c + 1) + 1) + 7919 * (c + 1) * (c + 1) + 11).natAbs < 2 ^ 64 := by
    have : b * (2 * (c + 1) + 1) ≤ 4294967296 * 2000003 := Int.mul_le_mul (by omega) (by omega) (by omega) (by omega)
    have : 7919 * (c + 1) * (c + 1) ≤ 7919000000 * 1000000 := Int.mul_le_mul (by omega) (by omega) (by omega) (by omega)
    have : 0 ≤ b * (2 * (c + 1) + 1) := Int.mul_nonneg hb (by omega)
    have : 0 ≤ 7919 * (c + 1) * (c + 1) := Int.mul_nonneg (by omega) (by omega)
    omega
  have m7 := pow_v (i := b * (2 * (c + 1) + 1) + 7919 * (c + 1) * (c + 1) + 11) (j := 5) ⟨by decide, by decide, e3⟩
  have m8 := mod_v (i := (b * (2 * (c + 1) + 1) + 7919 * (c + 1) * (c + 1) + 11) ^ (5 : Int).toNat) (j := 2147483647) (by decide)
  have m9 := divW_s (i := ((b * (2 * (c + 1) + 1) + 7919 * (c + 1) * (c + 1) + 11) ^ (5 : Int).toNat).fmod 2147483647) (j := 11) (by decide) (by decide)
  have m10 := mod_v (i := ((b * (2 * (c + 1) + 1) + 7919 * (c + 1) * (c + 1) + 11) ^ (5 : Int).toNat).fmod 2147483647 / 11) (j := sz) (by omega)
  refine fm_def rfl ?_
  unfold b_law_next
  repeat infer_instance
  refine br_dec (fun ha => ?_) (fun ha => ?_)
  · repeat infer_instance
    exact ⟨_, rfl, Int.fmod_nonneg_of_pos _ h0, Int.fmod_lt_of_pos _ h0, _, b, c, rfl, hb, hb2, hc, by omega⟩
  · repeat infer_instance
    exact ⟨_, rfl, Int.fmod_nonneg_of_pos _ h0, Int.fmod_lt_of_pos _ h0, _, b, _, rfl, hb, hb2, by omega, by omega⟩
theorem pick_ok {n : Nat} {o : Ob} (s : St n o) (hn : n < 1000000) {xs : List D} (h0 : xs ≠ []) (h1 : xs.length < 1000000) : FM df_law_pick o [.lst xs] fun r o' => ∃ x, r = .val x ∧ x ∈ xs ∧ St (n + 1) o' := by
  have lp : 0 < xs.length := List.length_pos_iff.mpr h0
  refine fm_def rfl ?_
  unfold b_law_pick
  repeat infer_instance
  refine FM.mono (next_ok s hn (sz := xs.length) (by omega) (by omega)) fun r o' ⟨x, hr, x0, x1, s'⟩ => ?_
  subst hr
  obtain ⟨y, hy, _, _, e⟩ := ix_at xs x x0 x1
  repeat infer_instance
  exact ⟨y, rfl, hy, s'⟩
theorem begun_ok (cell : Int) (k : Nat) (hk : k < 1000) : FP df_law_begun [.int cell, .int k] fun r => ∃ o, r = .new o ∧ St 0 o := by
  have m1 : dMod (.int cell) (.int 2147483647) = some (.val (.int (cell.fmod 2147483647))) := mod_v (by decide)
  have q0 := Int.fmod_nonneg_of_pos cell (show (0 : Int) < 2147483647 by decide)
  have q1 := Int.fmod_lt_of_pos cell (show (0 : Int) < 2147483647 by decide)
  have m2 : dMulM (.int (cell.fmod 2147483647)) (.int 48271) = some (.val (.int (cell.fmod 2147483647 * 48271))) := mulM_s (by omega) (by omega)
  have m3 : dMulM (.int 104729) (.int (k : Int)) = some (.val (.int (104729 * (k : Int)))) := mulM_s (by omega) (by omega)
  have m4 := pow_v (i := cell.fmod 2147483647 * 48271 + 104729 * (k : Int) + 7) (j := 3) ⟨by decide, by decide, by omega⟩
  have m5 := mod_v (i := (cell.fmod 2147483647 * 48271 + 104729 * (k : Int) + 7) ^ (3 : Int).toNat) (j := 2147483629) (by decide)
  have m6 := pow_v (i := 10) (j := 18) ⟨by decide, by decide, by decide⟩
  have p0 := Int.fmod_nonneg_of_pos ((cell.fmod 2147483647 * 48271 + 104729 * (k : Int) + 7) ^ (3 : Int).toNat) (show (0 : Int) < 2147483629 by decide)
  have p1 := Int.fmod_lt_of_pos ((cell.fmod 2147483647 * 48271 + 104729 * (k : Int) + 7) ^ (3 : Int).toNat) (show (0 : Int) < 2147483629 by decide)
  refine fp_def rfl ?_
  unfold b_law_begun
  repeat infer_instance
  refine br_dec (fun ha => ?_) (fun ha => ?_)
  · repeat infer_instance
    exact ⟨_, rfl, _, _, _, rfl, by omega, by omega, by decide, by decide⟩
  · repeat infer_instance
    exact ⟨_, rfl, _, _, _, rfl, by omega, by omega, by decide, by decide⟩

theorem pick_str {n : Nat} {o : Ob} (s : St n o) (hn : n < 1000000) {z : Str} (h0 : 0 < z.length) (h1 : z.length ≤ 10000) : FM df_law_pick o [.str z] fun r o' => ∃ c, r = .val (.str (mkS [c])) ∧ c ∈ TL.tl z ∧ St (n + 1) o' := by
  have ln := len_v h1
  refine fm_def rfl ?_
  unfold b_law_pick
  repeat infer_instance
  refine FM.mono (next_ok s hn (sz := z.length) (by omega) (by omega)) fun r o' ⟨x, hr, x0, x1, s'⟩ => ?_
  subst hr
  obtain ⟨c, hc, e⟩ := ix_str x0 x1 h1
  repeat infer_instance
  exact ⟨c, rfl, List.mem_of_getElem? hc, s'⟩
theorem names_ok {n : Nat} {o : Ob} (s : St n o) (hn : n < 900000) {m : Nat} (hm : m ≤ 26) : FM df_law_names o [.int m] fun r o' => ∃ zs, r = .new (.lst (zs.map D.str)) ∧ Names m zs ∧ St (n + 3) o' := by
  have sA : dAddX (.str "shape field keys source levels boxes flags step line total detail set on off leave") (.str " ask under same over none text number times land out end") = some (.val (.str (strA ++ strB))) := splitA
  have sB := splitD
  refine fm_def rfl ?_
  unfold b_law_names
  repeat infer_instance
  refine FM.mono (next_ok s (by omega) (by decide) (by decide)) fun r o1 ⟨l', hr, l0, l1, s1⟩ => ?_
  subst hr
  obtain ⟨l, rfl⟩ := Int.eq_ofNat_of_zero_le l0
  repeat infer_instance
  refine FM.mono (next_ok s1 (by omega) (by decide) (by decide)) fun r o2 ⟨t, hr, t0, t1, s2⟩ => ?_
  subst hr
  repeat infer_instance
  refine FM.mono (next_ok s2 (by omega) (by decide) (by decide)) fun r o3 ⟨q, hr, q0, q1, s3⟩ => ?_
  subst hr
  repeat infer_instance
  refine br_dec (fun h => ?_) (fun h => ?_)
  · repeat infer_instance
    rw [cut_fr, cut_to]
    refine wrs_n (o := .lst ((ownR l).map D.str)) ?_ ?_
    · have l26 : ownW.length = 26 := rfl
      rw [add_lstX _ _ (by rw [List.length_drop, List.length_take, List.length_map, l26]; omega), ← List.map_drop, ← List.map_take, ← List.map_append]
      rfl
    repeat infer_instance
    rw [cut_to, ← List.map_take]
    exact ⟨_, rfl, names_own (by omega) hm, s3⟩
  · repeat infer_instance
    refine we_map ?_
    repeat infer_instance
    refine and_of (okR_of (by omega) (by omega)) ?_
    repeat infer_instance
    refine ⟨fun d => match d with | .int k => .str (nameG l t k) | d => d, by rw [rngD_eq, List.length_map, rngI_len]; exact le_LIM (by omega), fun d hd => ?_, ?_⟩
    · rw [rngD_eq] at hd
      obtain ⟨k, hk, rfl⟩ := List.mem_map.mp hd
      have k1 := mem_rngI.mp hk
      have kk : k * k ≤ 26 * 26 := Int.mul_le_mul (by omega) (by omega) (by omega) (by omega)
      have m1 : dMulM (.int 5) (.int k) = some (.val (.int (5 * k))) := mulM_s (by omega) (by omega)
      have m2 := mod_v (i := (l : Int) + 5 * k) (j := 26) (by decide)
      have m3 : dMulM (.int k) (.int k) = some (.val (.int (k * k))) := mulM_s (by omega) (by omega)
      have m4 := mod_v (i := t + k * k) (j := 6) (by decide)
      have i1 : dIxA (.str "abcdefghijklmnopqrstuvwxyz") (.int (((l : Int) + 5 * k).fmod 26)) = _ := ix_small (Int.fmod_nonneg_of_pos _ (by decide)) (Int.fmod_lt_of_pos _ (by decide))
      have i2 : dIxA (.lst [.str "", .str "x", .str "qx", .str "qxq", .str "qxqx", .str "xxqxq"]) (.int ((t + k * k).fmod 6)) = _ := ix_tails (Int.fmod_nonneg_of_pos _ (by decide)) (Int.fmod_lt_of_pos _ (by decide))
      have i3 := add_nameG l t k
      repeat infer_instance
      exact ⟨rfl, rfl⟩
    rw [rngD_eq, List.map_map]
    repeat infer_instance
    refine ⟨(List.range m).map fun (k : Nat) => nameG l t (k : Int), ?_, names_made hm, s3⟩
    unfold rngI
    rw [List.map_map, List.map_map, show ((m : Int) - 0).toNat = m by omega]
    congr 2
    refine List.map_congr_left fun k _ => ?_
    show D.str (nameG l t (0 + (k : Int))) = D.str (nameG l t k)
    rw [Int.zero_add]
end Law
namespace Law
open Sim
open PySem hiding Env
set_option maxHeartbeats 1000000
local macro_rules | `(tactic| infer_instance) => `(tactic| first | ((with_reducible apply rm_s); exact rfl; exact rfl) | ((with_reducible apply rm_o); exact rfl; exact rfl))
local macro_rules | `(tactic| infer_instance) => `(tactic| first | with_reducible refine lim_and (by decide) ?_ | ((with_reducible apply rmx_nx); exact rfl) | ((with_reducible apply rp_s); exact rfl) | ((with_reducible apply rp_o); exact rfl) | ((with_reducible apply rm_nx); exact rfl) | ((with_reducible apply rm_v); exact rfl) | ((with_reducible apply rx_s); exact rfl) | ((with_reducible apply rx_o); exact rfl))
local macro_rules | `(tactic| infer_instance) => `(tactic| first | ((with_reducible apply br_f); exact rfl) | with_reducible refine rp_nx ?_ | with_reducible refine rp_v ?_ | with_reducible refine rx_nx ?_ | with_reducible refine rx_v ?_ | with_reducible refine rx_x ?_ | with_reducible refine rmx_x ?_ | with_reducible refine wl ?_)
local macro_rules | `(tactic| infer_instance) => `(tactic| first | ((with_reducible apply wrs_n); ((try simp only [strX_str, dEq_int, dEq_str, dNe_int, dNe_str, dOrd, fLt, fLe, fGt, fGe, dSub, addX_int, dNeg, dLen, dIxA, dIx, sliceX_lst, revRs, dTuple, dListA, dAbs]); exact rfl)) | ((with_reducible apply wrs_t); ((try simp only [strX_str, dEq_int, dEq_str, dNe_int, dNe_str, dOrd, fLt, fLe, fGt, fGe, dSub, addX_int, dNeg, dLen, dIxA, dIx, sliceX_lst, revRs, dTuple, dListA, dAbs]); exact rfl)) | with_reducible refine wrv_v ?_ | with_reducible refine wrv_n ?_ | ((with_reducible apply wp); with_reducible assumption) | ((with_reducible apply wp); ((try simp only [List.set_cons_zero, List.set_cons_succ, List.take_succ_cons, List.take_zero, List.take_nil, List.length_cons, List.length_nil, List.cons_append, List.nil_append, List.map_cons, List.map_nil, List.replicate_succ, List.replicate_zero, List.getElem?_cons_zero, List.getElem?_cons_succ, wipesE, restore, sets, sqOf2, sqOf3, Ob.frz, bindP, bindPs, Option.bind_some, pin, puts, put, ownAt, storeO, Nat.reduceAdd, Nat.reduceSub, Nat.zero_add]); exact rfl)) | ((with_reducible apply wrb); ((try simp only [strX_str, dEq_int, dEq_str, dNe_int, dNe_str, dOrd, fLt, fLe, fGt, fGe, dSub, addX_int, dNeg, dLen, dIxA, dIx, sliceX_lst, revRs, dTuple, dListA, dAbs]); exact rfl)) | ((with_reducible apply br_t); exact rfl))
local macro_rules | `(tactic| infer_instance) => `(tactic| first | ((with_reducible apply wput_at); exact rfl; decide) | ((with_reducible apply wput_fr); exact rfl; decide) | ((with_reducible apply nr); ((try simp only [List.set_cons_zero, List.set_cons_succ, List.take_succ_cons, List.take_zero, List.take_nil, List.length_cons, List.length_nil, List.cons_append, List.nil_append, List.map_cons, List.map_nil, List.replicate_succ, List.replicate_zero, List.getElem?_cons_zero, List.getElem?_cons_succ, wipesE, restore, sets, sqOf2, sqOf3, Ob.frz, bindP, bindPs, Option.bind_some, pin, puts, put, ownAt, storeO, Nat.reduceAdd, Nat.reduceSub, Nat.zero_add]); exact rfl)) | ((with_reducible apply wrs_v); with_reducible assumption) | ((with_reducible apply wrs_n); with_reducible assumption) | ((with_reducible apply wrs_t); with_reducible assumption) | ((with_reducible apply wrb); with_reducible assumption) | ((with_reducible apply wrs_v); ((try simp only [strX_str, dEq_int, dEq_str, dNe_int, dNe_str, dOrd, fLt, fLe, fGt, fGe, dSub, addX_int, dNeg, dLen, dIxA, dIx, sliceX_lst, revRs, dTuple, dListA, dAbs]); exact rfl)))
local macro_rules | `(tactic| infer_instance) => `(tactic| first | ((with_reducible apply wfc_s); exact rfl) | ((with_reducible apply wfc_l); exact rfl) | ((with_reducible apply wfc_d); exact rfl) | ((with_reducible apply wfc_o); exact rfl) | with_reducible refine wfs_nil ?_ | with_reducible refine wfs_cons ?_ | with_reducible refine wput_v ?_ | ((with_reducible apply wput_s); exact rfl))
local macro_rules | `(tactic| infer_instance) => `(tactic| first | with_reducible refine wlk_v ?_ | ((with_reducible apply wlk_s); exact rfl) | ((with_reducible apply wlk_l); exact rfl) | ((with_reducible apply wlk_d); exact rfl) | ((with_reducible apply wlk_o); exact rfl) | with_reducible refine wls_nil ?_ | with_reducible refine wls_cons ?_ | with_reducible refine wfc_v ?_)
local macro_rules | `(tactic| infer_instance) => `(tactic| first | with_reducible refine wi_enumX ?_ | with_reducible refine wi_r1 ?_ | with_reducible refine wi_r2 ?_ | with_reducible refine wi_r3 ?_ | with_reducible refine wi_zip ?_ | with_reducible refine wi_zipW ?_ | with_reducible refine wi_zipM ?_ | with_reducible refine wi_keys ?_)
local macro_rules | `(tactic| infer_instance) => `(tactic| first | with_reducible refine wt_yes ?_ | with_reducible refine wa_nil ?_ | with_reducible refine wa_cons ?_ | with_reducible refine wa_star ?_ | with_reducible refine wo_none ?_ | with_reducible refine wo_some ?_ | with_reducible refine wi_seqS ?_ | with_reducible refine wi_enum ?_)
local macro_rules | `(tactic| infer_instance) => `(tactic| first | with_reducible refine we_inG ?_ | with_reducible refine we_ixG ?_ | with_reducible refine we_dpop ?_ | with_reducible refine we_clear ?_ | with_reducible refine wt_B ?_ | with_reducible refine wt_not ?_ | with_reducible refine wt_and ?_ | with_reducible refine wt_or ?_)
local macro_rules | `(tactic| infer_instance) => `(tactic| first | with_reducible refine we_fldX ?_ | with_reducible refine we_cntT ?_ | with_reducible refine we_chain ?_ | with_reducible refine we_lenSet ?_ | with_reducible refine we_listR1 ?_ | with_reducible refine we_listR2 ?_ | with_reducible refine we_ext ?_ | with_reducible refine we_get1 ?_)
local macro_rules | `(tactic| infer_instance) => `(tactic| first | with_reducible refine we_make ?_ | with_reducible refine we_MU ?_ | with_reducible refine we_fld ?_ | with_reducible refine we_isi ?_ | with_reducible refine we_isC ?_ | with_reducible refine we_revW ?_ | with_reducible refine we_rep ?_ | with_reducible refine we_isX ?_)
local macro_rules | `(tactic| infer_instance) => `(tactic| first | with_reducible refine we_not ?_ | with_reducible refine we_tup ?_ | with_reducible refine we_lst ?_ | with_reducible refine we_newD ?_ | with_reducible refine we_callP ?_ | with_reducible refine we_callM ?_ | with_reducible refine we_callPv ?_ | with_reducible refine we_callMv ?_)
local macro_rules | `(tactic| infer_instance) => `(tactic| first | with_reducible refine we_d2 ?_ | with_reducible refine we_d1 ?_ | with_reducible refine we_L ?_ | with_reducible refine we_MS ?_ | with_reducible refine we_sl ?_ | with_reducible refine we_if ?_ | with_reducible refine we_and ?_ | with_reducible refine we_or ?_)
local macro_rules | `(tactic| infer_instance) => `(tactic| first | with_reducible refine wx_call ?_ | with_reducible refine wx_make ?_ | with_reducible refine tk_nx ?_ | with_reducible refine tk_rt ?_ | ((with_reducible apply we_val); exact rfl) | ((with_reducible apply we_own); exact rfl) | ((with_reducible apply we_lcV); exact rfl) | with_reducible refine we_c ?_)
local macro_rules | `(tactic| infer_instance) => `(tactic| first | with_reducible refine ws_asgX ?_ | with_reducible refine ws_retX ?_ | with_reducible refine ws_dropX ?_ | with_reducible refine ws_raise0 ?_ | with_reducible refine ws_raise ?_ | with_reducible refine ws_try ?_ | with_reducible refine wx_pure ?_ | with_reducible refine wx_if ?_)
local macro_rules | `(tactic| infer_instance) => `(tactic| first | with_reducible refine ws_next ?_ | with_reducible refine ws_cont ?_ | with_reducible refine ws_break ?_ | with_reducible refine ws_drop ?_ | with_reducible refine ws_store ?_ | with_reducible refine ws_setF ?_ | with_reducible refine ws_slst ?_ | with_reducible refine ws_asgNS ?_)
local macro_rules | `(tactic| infer_instance) => `(tactic| first | with_reducible refine fo_ct ?_ | with_reducible refine fo_bk ?_ | with_reducible refine fo_rt ?_ | with_reducible refine ws_if ?_ | with_reducible refine ws_asg ?_ | with_reducible refine ws_asgP ?_ | with_reducible refine ws_multi ?_ | with_reducible refine ws_ret ?_)
local macro_rules | `(tactic| infer_instance) => `(tactic| first | with_reducible refine ws_seq ?_ | with_reducible refine sq_xc ?_ | with_reducible refine fo_xc ?_ | with_reducible refine sq_nx ?_ | with_reducible refine sq_rt ?_ | with_reducible refine sq_ct ?_ | with_reducible refine sq_bk ?_ | with_reducible refine fo_nx ?_)
theorem is_name_v (z : Str) (hz : z.length ≤ 10000) : FP df_is_name [.str z] fun r => r = .val (.bl (nameOk z)) := by
  have ln := len_v hz
  unfold nameOk
  refine fp_def rfl ?_
  unfold b_is_name
  repeat infer_instance
  refine br_dec (fun h1 => ?_) (fun h1 => ?_)
  · repeat infer_instance
    refine br_not (br_dec (fun h2 => ?_) (fun h2 => ?_))
    · repeat infer_instance
      refine we_allb a_is z_is hz ?_ ?_ ?_
      · rfl
      · rfl
      repeat infer_instance
      rw [decide_eq_true (by omega : 1 ≤ z.length), decide_eq_true (by omega : z.length ≤ 6)]
      rfl
    · repeat infer_instance
      rw [decide_eq_false (by omega : ¬ z.length ≤ 6), Bool.and_false]
      rfl
  · repeat infer_instance
    rw [decide_eq_false (by omega : ¬ 1 ≤ z.length)]
    rfl
theorem is_signs_v (z : Str) (hz : z.length ≤ 10000) : FP df_is_signs [.str z] fun r => r = .val (.bl (signsB z)) := by
  refine fp_def rfl ?_
  unfold b_is_signs
  repeat infer_instance
  refine we_allb blank_is tilde_is hz ?_ ?_ ?_
  · rfl
  · rfl
  repeat infer_instance
  rfl
theorem num_v (i lo hi : Int) : FP df_is_number_from [.int i, .int lo, .int hi] fun r => r = .val (.bl (decide (lo ≤ i) && decide (i ≤ hi))) := by
  have n : FP df_is_number [.int i] fun r => r = .val (.bl true) := by
    refine fp_def rfl ?_
    unfold b_is_number
    repeat infer_instance
    rfl
  refine fp_def rfl ?_
  unfold b_is_number_from
  repeat infer_instance
  refine FP.mono n fun r hr => ?_
  subst hr
  repeat infer_instance
  refine br_dec (fun h => ?_) (fun h => ?_)
  · repeat infer_instance
    rw [decide_eq_true h]
    rfl
  · repeat infer_instance
    rw [decide_eq_false h]
    rfl
theorem is_mark_v (mk : Option (Int × Nat)) (h : ∀ c g, mk = some (c, g) → 1 ≤ c ∧ c ≤ 60 ∧ signOk g = true) : FP df_is_mark [markD mk] fun r => r = .val (.bl true) := by
  refine fp_def rfl ?_
  unfold b_is_mark
  cases mk with
  | none =>
    unfold markD
    repeat infer_instance
    rfl
  | some p =>
    obtain ⟨c, g⟩ := p
    obtain ⟨h1, h2, h3⟩ := h c g rfl
    have l1 : dLen [.str (mkS [g])] = some (.val (.int 1)) := lenL (show 1 ≤ 10000 by decide)
    have sg := is_signs_v (mkS [g]) (by rw [mk_len]; show 1 ≤ 10000; decide)
    rw [signsB_ok (L := [g]) (fun b hb => by rw [List.mem_singleton.mp hb]; exact h3)] at sg
    unfold markD
    repeat infer_instance
    refine FP.mono (num_v c 1 60) fun r hr => ?_
    subst hr
    rw [decide_eq_true h1, decide_eq_true h2]
    repeat infer_instance
    refine FP.mono sg fun r hr => ?_
    subst hr
    repeat infer_instance
    rfl
theorem is_field_v (f : Fd) (h : FdOk f) : FP df_is_field [fdD f] fun r => r = .val (.bl true) := by
  have nl : f.nm.length ≤ 10000 := by
    have := h.nm
    unfold nameOk at this
    simp only [Bool.and_eq_true, decide_eq_true_eq] at this
    omega
  have nm := is_name_v f.nm nl
  rw [h.nm] at nm
  have lk := longest_ok f.tx
  have g1 : gIn true c_LONGEST_FIELD (.str (kindS f.tx)) = some (.val (.bl false)) := by
    show some (Rs.val (.bl (!(c_LONGEST_FIELD.lookup (kindS f.tx)).isSome))) = _
    unfold c_LONGEST_FIELD
    rw [lk]
    rfl
  have g2 : gIx c_LONGEST_FIELD (.str (kindS f.tx)) = some (.val (.int (if f.tx then 20 else 9))) := by
    show (c_LONGEST_FIELD.lookup (kindS f.tx)).map (fun i => Rs.val (.int i)) = _
    unfold c_LONGEST_FIELD
    rw [lk]
    rfl
  refine fp_def rfl ?_
  unfold b_is_field fdD
  repeat infer_instance
  refine FP.mono nm fun r hr => ?_
  subst hr
  repeat infer_instance
  refine FP.mono (num_v f.lg 1 (if f.tx then 20 else 9)) fun r hr => ?_
  subst hr
  rw [decide_eq_true h.lg1, decide_eq_true h.lg]
  repeat infer_instance
  refine FP.mono (num_v f.at_ 1 (60 - f.lg + 1)) fun r hr => ?_
  subst hr
  rw [decide_eq_true h.c1, decide_eq_true (by have := h.c60; omega)]
  repeat infer_instance
  rfl
theorem unlike_v (xs : List D) (ks : List L2.Key) (hk : keysOf xs = some ks) (hl : ks.length = xs.length) (nd : ks.Nodup) (h4 : xs.length ≤ 4000) : FP df_are_unlike [.lst xs] fun r => r = .val (.bl true) := by
  refine fp_def rfl ?_
  unfold b_are_unlike
  repeat infer_instance
  refine wp (show keysL (.lst xs) = some ks from hk) (and_of (by omega) ?_)
  rw [uniq_nodup ks nd, hl]
  repeat infer_instance
  rfl
theorem unlike_strs (zs : List Str) (nd : zs.Nodup) (h : zs.length ≤ 4000) : FP df_are_unlike [.lst (zs.map D.str)] fun r => r = .val (.bl true) :=
  unlike_v _ _ (keysOf_strs zs) (by simp) (List.Pairwise.map Sum.inr (fun a b q w => q (Sum.inr.inj w)) nd) (by simpa using h)
theorem unlike_ints (zs : List Int) (nd : zs.Nodup) (h : zs.length ≤ 4000) : FP df_are_unlike [.lst (zs.map D.int)] fun r => r = .val (.bl true) :=
  unlike_v _ _ (keysOf_ints zs) (by simp) (List.Pairwise.map Sum.inl (fun a b q w => q (Sum.inl.inj w)) nd) (by simpa using h)
theorem taken_v (mk : Option (Int × Nat)) (fs : List Fd) (few : fs.length ≤ 8) (each : ∀ f ∈ fs, FdOk f) : FP df_taken_columns [markD mk, .tup (fs.map fdD)] fun r => r = .new (.lst ((mkI mk ++ takI fs).map D.int)) := by
  refine fp_def rfl ?_
  unfold b_taken_columns
  have main : WS (dFor (.nm 3) (diSeqS (dVar 1)) bl_taken_columns_1) [some (.val (markD mk)), some (.val (.tup (fs.map fdD))), some (.own false (.lst ((mkI mk).map D.int))), none] (Sq (dRet (dVar 2)) (RtP fun r => r = .new (.lst ((mkI mk ++ takI fs).map D.int)))) := by
    refine ws_forS ?_
    repeat infer_instance
    refine ⟨[2, 3], fun j ss => ∃ s3, ss = [some (Sl.own false (Ob.lst ((mkI mk ++ takI (fs.take j)).map D.int))), s3], ⟨[_, _], rfl, _, by rw [List.take_zero]; show _ = [some (Sl.own false (Ob.lst ((mkI mk ++ []).map D.int))), _]; rw [List.append_nil]⟩, fun j x ss hx ⟨s3, hs⟩ => ?_, fun ss ⟨s3, hs⟩ => ?_⟩
    · subst hs
      rw [List.getElem?_map] at hx
      obtain ⟨f, hf, rfl⟩ := Option.map_eq_some_iff.mp hx
      have fm := List.mem_of_getElem? hf
      have fo := each f fm
      have l20 := fo.le20
      have c1 := fo.c1
      have c60 := fo.c60
      have lg1 := fo.lg1
      have tl : (takI (fs.take j)).length ≤ 160 := by
        have := takI_len (fs := fs.take j) fun g hg => (each g (List.mem_of_mem_take hg)).le20
        rw [List.length_take] at this
        omega
      have ml : (mkI mk).length ≤ 1 := by cases mk with | none => decide | some p => exact Nat.le_refl _
      have tk : fs.take (j + 1) = fs.take j ++ [f] := by
        rw [List.take_add_one, hf]
        rfl
      unfold bl_taken_columns_1 fdD
      repeat infer_instance
      refine and_of ⟨okR_of (by omega) (by omega), okR_of (by omega) (by omega), le_LIM (by omega)⟩ ?_
      repeat infer_instance
      refine and_of ⟨by decide, ?_⟩ ?_
      · rw [List.length_map, List.length_append, rngD_eq, List.length_map, rngI_len]
        exact le_LIM (by omega)
      rw [rngD_eq, ← List.map_append]
      repeat infer_instance
      refine ⟨[_, _], rfl, some (.val (fdD f)), ?_⟩
      rw [tk, takI_snoc, ← List.append_assoc]
      rfl
    · subst hs
      rw [List.length_map, List.take_length]
      repeat infer_instance
      rfl
  cases mk with
  | none =>
    unfold markD at main ⊢
    repeat infer_instance
    exact main
  | some p =>
    obtain ⟨c, g⟩ := p
    unfold markD at main ⊢
    repeat infer_instance
    exact main
def nmD : D → D
  | .tup (x :: _) => x
  | d => d
theorem are_fields_v (nm : Str) (mk : Option (Int × Nat)) (fs : List Fd) (ok : ShapeOk nm mk fs) : FP df_are_fields [.tup (fs.map fdD), markD mk] fun r => r = .val (.bl true) := by
  have few := ok.few
  have tl : (mkI mk ++ takI fs).length ≤ 4000 := by
    have := takI_len (fs := fs) fun f h => (ok.each f h).le20
    have m1 : (mkI mk).length ≤ 1 := by cases mk with | none => decide | some p => exact Nat.le_refl _
    rw [List.length_append]
    omega
  refine fp_def rfl ?_
  unfold b_are_fields
  repeat infer_instance
  refine br_dec (fun h => by rw [List.length_map] at h; omega) (fun _ => ?_)
  repeat infer_instance
  refine we_map ?_
  repeat infer_instance
  refine ⟨fun _ => .bl true, by rw [List.length_map]; exact le_LIM (by omega), fun d hd => ?_, ?_⟩
  · obtain ⟨f, hf, rfl⟩ := List.mem_map.mp hd
    repeat infer_instance
    refine FP.mono (is_field_v f (ok.each f hf)) fun r hr => ?_
    subst hr
    repeat infer_instance
    exact ⟨rfl, rfl⟩
  have al : dAll [.lst ((fs.map fdD).map fun _ => D.bl true)] = some (.val (.bl true)) := by
    rw [all_v (fun _ => true)]
    have : ((fs.map fdD).all fun _ => true) = true := List.all_eq_true.mpr fun _ _ => rfl
    rw [this]
  repeat infer_instance
  refine we_map ?_
  repeat infer_instance
  refine ⟨nmD, by rw [List.length_map]; exact le_LIM (by omega), fun d hd => ?_, ?_⟩
  · obtain ⟨f, hf, rfl⟩ := List.mem_map.mp hd
    unfold fdD nmD
    repeat infer_instance
    exact ⟨rfl, rfl⟩
  rw [show (fs.map fdD).map nmD = (fs.map Fd.nm).map D.str by rw [List.map_map, List.map_map]; rfl]
  repeat infer_instance
  refine FP.mono (unlike_strs _ ok.nodup (by rw [List.length_map]; omega)) fun r hr => ?_
  subst hr
  repeat infer_instance
  refine FP.mono (taken_v mk fs few ok.each) fun r hr => ?_
  subst hr
  repeat infer_instance
  refine FP.mono (unlike_ints _ ok.apart tl) fun r hr => ?_
  subst hr
  repeat infer_instance
  rfl
theorem are_parts_v (nm : Str) (mk : Option (Int × Nat)) (fs : List Fd) (ok : ShapeOk nm mk fs) : FP df_are_parts [.str nm, markD mk, .tup (fs.map fdD)] fun r => r = .val (.bl true) := by
  have nl : nm.length ≤ 10000 := by
    have := ok.name
    unfold nameOk at this
    simp only [Bool.and_eq_true, decide_eq_true_eq] at this
    omega
  have n := is_name_v nm nl
  rw [ok.name] at n
  refine fp_def rfl ?_
  unfold b_are_parts
  repeat infer_instance
  refine FP.mono n fun r hr => ?_
  subst hr
  repeat infer_instance
  refine FP.mono (is_mark_v mk ok.mark) fun r hr => ?_
  subst hr
  repeat infer_instance
  refine FP.mono (are_fields_v nm mk fs ok) fun r hr => ?_
  subst hr
  repeat infer_instance
  rfl
end Law
namespace Law
open Sim
open PySem hiding Env
set_option maxHeartbeats 1000000
local macro_rules | `(tactic| infer_instance) => `(tactic| first | ((with_reducible apply rm_s); exact rfl; exact rfl) | ((with_reducible apply rm_o); exact rfl; exact rfl))
local macro_rules | `(tactic| infer_instance) => `(tactic| first | with_reducible refine lim_and (by decide) ?_ | ((with_reducible apply rmx_nx); exact rfl) | ((with_reducible apply rp_s); exact rfl) | ((with_reducible apply rp_o); exact rfl) | ((with_reducible apply rm_nx); exact rfl) | ((with_reducible apply rm_v); exact rfl) | ((with_reducible apply rx_s); exact rfl) | ((with_reducible apply rx_o); exact rfl))
local macro_rules | `(tactic| infer_instance) => `(tactic| first | ((with_reducible apply br_f); exact rfl) | with_reducible refine rp_nx ?_ | with_reducible refine rp_v ?_ | with_reducible refine rx_nx ?_ | with_reducible refine rx_v ?_ | with_reducible refine rx_x ?_ | with_reducible refine rmx_x ?_ | with_reducible refine wl ?_)
local macro_rules | `(tactic| infer_instance) => `(tactic| first | ((with_reducible apply wrs_n); ((try simp only [strX_str, dEq_int, dEq_str, dNe_int, dNe_str, dOrd, fLt, fLe, fGt, fGe, dSub, addX_int, dNeg, dLen, dIxA, dIx, sliceX_lst, revRs, dTuple, dListA, dAbs]); exact rfl)) | ((with_reducible apply wrs_t); ((try simp only [strX_str, dEq_int, dEq_str, dNe_int, dNe_str, dOrd, fLt, fLe, fGt, fGe, dSub, addX_int, dNeg, dLen, dIxA, dIx, sliceX_lst, revRs, dTuple, dListA, dAbs]); exact rfl)) | with_reducible refine wrv_v ?_ | with_reducible refine wrv_n ?_ | ((with_reducible apply wp); with_reducible assumption) | ((with_reducible apply wp); ((try simp only [List.set_cons_zero, List.set_cons_succ, List.take_succ_cons, List.take_zero, List.take_nil, List.length_cons, List.length_nil, List.cons_append, List.nil_append, List.map_cons, List.map_nil, List.replicate_succ, List.replicate_zero, List.getElem?_cons_zero, List.getElem?_cons_succ, wipesE, restore, sets, sqOf2, sqOf3, Ob.frz, bindP, bindPs, Option.bind_some, pin, puts, put, ownAt, storeO, Nat.reduceAdd, Nat.reduceSub, Nat.zero_add]); exact rfl)) | ((with_reducible apply wrb); ((try simp only [strX_str, dEq_int, dEq_str, dNe_int, dNe_str, dOrd, fLt, fLe, fGt, fGe, dSub, addX_int, dNeg, dLen, dIxA, dIx, sliceX_lst, revRs, dTuple, dListA, dAbs]); exact rfl)) | ((with_reducible apply br_t); exact rfl))
local macro_rules | `(tactic| infer_instance) => `(tactic| first | ((with_reducible apply wput_at); exact rfl; decide) | ((with_reducible apply wput_fr); exact rfl; decide) | ((with_reducible apply nr); ((try simp only [List.set_cons_zero, List.set_cons_succ, List.take_succ_cons, List.take_zero, List.take_nil, List.length_cons, List.length_nil, List.cons_append, List.nil_append, List.map_cons, List.map_nil, List.replicate_succ, List.replicate_zero, List.getElem?_cons_zero, List.getElem?_cons_succ, wipesE, restore, sets, sqOf2, sqOf3, Ob.frz, bindP, bindPs, Option.bind_some, pin, puts, put, ownAt, storeO, Nat.reduceAdd, Nat.reduceSub, Nat.zero_add]); exact rfl)) | ((with_reducible apply wrs_v); with_reducible assumption) | ((with_reducible apply wrs_n); with_reducible assumption) | ((with_reducible apply wrs_t); with_reducible assumption) | ((with_reducible apply wrb); with_reducible assumption) | ((with_reducible apply wrs_v); ((try simp only [strX_str, dEq_int, dEq_str, dNe_int, dNe_str, dOrd, fLt, fLe, fGt, fGe, dSub, addX_int, dNeg, dLen, dIxA, dIx, sliceX_lst, revRs, dTuple, dListA, dAbs]); exact rfl)))
local macro_rules | `(tactic| infer_instance) => `(tactic| first | ((with_reducible apply wfc_s); exact rfl) | ((with_reducible apply wfc_l); exact rfl) | ((with_reducible apply wfc_d); exact rfl) | ((with_reducible apply wfc_o); exact rfl) | with_reducible refine wfs_nil ?_ | with_reducible refine wfs_cons ?_ | with_reducible refine wput_v ?_ | ((with_reducible apply wput_s); exact rfl))
local macro_rules | `(tactic| infer_instance) => `(tactic| first | with_reducible refine wlk_v ?_ | ((with_reducible apply wlk_s); exact rfl) | ((with_reducible apply wlk_l); exact rfl) | ((with_reducible apply wlk_d); exact rfl) | ((with_reducible apply wlk_o); exact rfl) | with_reducible refine wls_nil ?_ | with_reducible refine wls_cons ?_ | with_reducible refine wfc_v ?_)
local macro_rules | `(tactic| infer_instance) => `(tactic| first | with_reducible refine wi_enumX ?_ | with_reducible refine wi_r1 ?_ | with_reducible refine wi_r2 ?_ | with_reducible refine wi_r3 ?_ | with_reducible refine wi_zip ?_ | with_reducible refine wi_zipW ?_ | with_reducible refine wi_zipM ?_ | with_reducible refine wi_keys ?_)
local macro_rules | `(tactic| infer_instance) => `(tactic| first | with_reducible refine wt_yes ?_ | with_reducible refine wa_nil ?_ | with_reducible refine wa_cons ?_ | with_reducible refine wa_star ?_ | with_reducible refine wo_none ?_ | with_reducible refine wo_some ?_ | with_reducible refine wi_seqS ?_ | with_reducible refine wi_enum ?_)
local macro_rules | `(tactic| infer_instance) => `(tactic| first | with_reducible refine we_inG ?_ | with_reducible refine we_ixG ?_ | with_reducible refine we_dpop ?_ | with_reducible refine we_clear ?_ | with_reducible refine wt_B ?_ | with_reducible refine wt_not ?_ | with_reducible refine wt_and ?_ | with_reducible refine wt_or ?_)
local macro_rules | `(tactic| infer_instance) => `(tactic| first | with_reducible refine we_fldX ?_ | with_reducible refine we_cntT ?_ | with_reducible refine we_chain ?_ | with_reducible refine we_lenSet ?_ | with_reducible refine we_listR1 ?_ | with_reducible refine we_listR2 ?_ | with_reducible refine we_ext ?_ | with_reducible refine we_get1 ?_)
local macro_rules | `(tactic| infer_instance) => `(tactic| first | with_reducible refine we_make ?_ | with_reducible refine we_MU ?_ | with_reducible refine we_fld ?_ | with_reducible refine we_isi ?_ | with_reducible refine we_isC ?_ | with_reducible refine we_revW ?_ | with_reducible refine we_rep ?_ | with_reducible refine we_isX ?_)
local macro_rules | `(tactic| infer_instance) => `(tactic| first | with_reducible refine we_not ?_ | with_reducible refine we_tup ?_ | with_reducible refine we_lst ?_ | with_reducible refine we_newD ?_ | with_reducible refine we_callP ?_ | with_reducible refine we_callM ?_ | with_reducible refine we_callPv ?_ | with_reducible refine we_callMv ?_)
local macro_rules | `(tactic| infer_instance) => `(tactic| first | with_reducible refine we_d2 ?_ | with_reducible refine we_d1 ?_ | with_reducible refine we_L ?_ | with_reducible refine we_MS ?_ | with_reducible refine we_sl ?_ | with_reducible refine we_if ?_ | with_reducible refine we_and ?_ | with_reducible refine we_or ?_)
local macro_rules | `(tactic| infer_instance) => `(tactic| first | with_reducible refine wx_call ?_ | with_reducible refine wx_make ?_ | with_reducible refine tk_nx ?_ | with_reducible refine tk_rt ?_ | ((with_reducible apply we_val); exact rfl) | ((with_reducible apply we_own); exact rfl) | ((with_reducible apply we_lcV); exact rfl) | with_reducible refine we_c ?_)
local macro_rules | `(tactic| infer_instance) => `(tactic| first | with_reducible refine ws_asgX ?_ | with_reducible refine ws_retX ?_ | with_reducible refine ws_dropX ?_ | with_reducible refine ws_raise0 ?_ | with_reducible refine ws_raise ?_ | with_reducible refine ws_try ?_ | with_reducible refine wx_pure ?_ | with_reducible refine wx_if ?_)
local macro_rules | `(tactic| infer_instance) => `(tactic| first | with_reducible refine ws_next ?_ | with_reducible refine ws_cont ?_ | with_reducible refine ws_break ?_ | with_reducible refine ws_drop ?_ | with_reducible refine ws_store ?_ | with_reducible refine ws_setF ?_ | with_reducible refine ws_slst ?_ | with_reducible refine ws_asgNS ?_)
local macro_rules | `(tactic| infer_instance) => `(tactic| first | with_reducible refine fo_ct ?_ | with_reducible refine fo_bk ?_ | with_reducible refine fo_rt ?_ | with_reducible refine ws_if ?_ | with_reducible refine ws_asg ?_ | with_reducible refine ws_asgP ?_ | with_reducible refine ws_multi ?_ | with_reducible refine ws_ret ?_)
local macro_rules | `(tactic| infer_instance) => `(tactic| first | with_reducible refine ws_seq ?_ | with_reducible refine sq_xc ?_ | with_reducible refine fo_xc ?_ | with_reducible refine sq_nx ?_ | with_reducible refine sq_rt ?_ | with_reducible refine sq_ct ?_ | with_reducible refine sq_bk ?_ | with_reducible refine fo_nx ?_)
def kindsN : List D := [.bl true, .bl false, .bl false, .bl false, .bl false, .bl false, .bl false, .bl false]
def is0 : D → Bool
  | .int i => decide (i = 0)
  | _ => false
theorem rng8 : rngD 0 8 = [.int 0, .int 1, .int 2, .int 3, .int 4, .int 5, .int 6, .int 7] := by
  rw [rngD_eq]
  rfl
theorem alone_ok (xs : List D) : FP df_law_alone [.exc 2 xs] fun r => r = .val (.str "NoShape") := by
  refine fp_def rfl ?_
  unfold b_law_alone
  repeat infer_instance
  refine wrs_n (o := .lst kindsN) ?_ ?_
  · rw [add_lstX _ _ (by show 4 + 4 ≤ _; omega)]
    rfl
  repeat infer_instance
  refine we_filter ?_
  repeat infer_instance
  refine and_of (okR_of (by decide) (by decide)) ?_
  repeat infer_instance
  rw [rng8]
  refine ⟨fun d => d, is0, le_LIM (by show 8 ≤ _; omega), fun d hd => ?_, ?_⟩
  · simp only [List.mem_cons, List.not_mem_nil, or_false] at hd
    rcases hd with rfl | rfl | rfl | rfl | rfl | rfl | rfl | rfl
    all_goals
      unfold kindsN
      repeat infer_instance
      exact ⟨rfl, rfl⟩
  rw [show ([.int 0, .int 1, .int 2, .int 3, .int 4, .int 5, .int 6, .int 7] : List D).filter is0 = [.int 0] from rfl]
  repeat infer_instance
  rfl
theorem ix_ok (xs : List D) (i : Int) (h0 : 0 ≤ i) (h1 : i < xs.length) : ∃ y ∈ xs, dIxA (.tup xs) (.int i) = some (.val y) ∧ dIxA (.lst xs) (.int i) = some (.val y) := by
  obtain ⟨k, rfl⟩ := Int.eq_ofNat_of_zero_le h0
  have hk : k < xs.length := by omega
  refine ⟨xs[k], List.getElem_mem hk, ?_, ?_⟩
  all_goals
    simp only [dIxA, dIx, L2.atI, L2.ixN]
    rw [if_pos (by omega), if_pos (by omega)]
    simp
theorem seq_same (n : Nat) (xs : List D) (hl : xs.length ≤ 1000) (ih : ∀ x ∈ xs, df_law_like n [x, x] = some (.val (.bl true))) (d : D) (hd : d = .tup xs ∨ d = .lst xs) : FP (df_law_like (n + 1)) [d, d] fun r => r = .val (.bl true) := by
  have hL : ∀ m, m ≤ 1000 → m ≤ LIM := fun m h => le_LIM (by omega)
  have hok : okR (xs.length : Int) = true := okR_of (by omega) (by omega)
  rcases hd with rfl | rfl
  all_goals
    refine fp_def rfl ?_
    unfold b_law_like
    repeat infer_instance
    refine we_filter ?_
    repeat infer_instance
    rw [ite_self]
    refine ⟨hok, ?_⟩
    repeat infer_instance
    refine ⟨fun d => d, fun _ => false, by rw [rngD_eq, List.length_map, rngI_len]; exact hL _ (by omega), fun x hx => ?_, ?_⟩
    · rw [rngD_eq] at hx
      obtain ⟨i, hi, rfl⟩ := List.mem_map.mp hx
      obtain ⟨h0, h1⟩ := mem_rngI.mp hi
      obtain ⟨y, hy, e1, e2⟩ := ix_ok xs i h0 h1
      repeat infer_instance
      refine fP_of (ih y hy) ?_
      repeat infer_instance
      exact ⟨rfl, rfl⟩
    · repeat infer_instance
      have e0 : List.map (fun d => d) (List.filter (fun _ => false) (rngD 0 (xs.length : Int))) = [] := by simp
      rw [e0]
      refine wrs_v (d := .bl true) rfl ?_
      repeat infer_instance
      rfl
theorem keyOf_keyD (k : L2.Key) : keyOf (keyD k) = some k := by cases k <;> rfl
theorem dic_same (n : Nat) (kvs : KD) (hl : kvs.length ≤ 1000) (nd : (kvs.map (·.1)).Nodup) (ok : ∀ z, Sum.inr z ∈ kvs.map (·.1) → PyData.strOk z = true) (ih : ∀ p ∈ kvs, df_law_like n [p.2, p.2] = some (.val (.bl true))) : FP (df_law_like (n + 1)) [.dic kvs, .dic kvs] fun r => r = .val (.bl true) := by
  have ks : pl 1 (.lst (kvs.map fun kv => keyD kv.1)) = true := pls_all fun x h => by
    obtain ⟨kv, hk, rfl⟩ := List.mem_map.mp h
    obtain ⟨k, d⟩ := kv
    cases k with
    | inl i => rfl
    | inr z => exact ok z (List.mem_map.mpr ⟨_, hk, rfl⟩)
  refine fp_def rfl ?_
  unfold b_law_like
  repeat infer_instance
  refine wrs_v (pl_same (by decide) ks).2 ?_
  repeat infer_instance
  refine we_filter ?_
  repeat infer_instance
  refine ⟨fun d => d, fun _ => false, by rw [List.length_map]; exact le_LIM (by omega), fun x hx => ?_, ?_⟩
  · obtain ⟨kv, hk, rfl⟩ := List.mem_map.mp hx
    have g : dIxA (.dic kvs) (keyD kv.1) = some (.val kv.2) := by
      show (keyOf (keyD kv.1)).bind (fun k => (valK kvs k).map Rs.val) = _
      rw [keyOf_keyD, Option.bind_some, valK_mem nd kv hk]
      rfl
    repeat infer_instance
    refine fP_of (ih kv hk) ?_
    repeat infer_instance
    exact ⟨rfl, rfl⟩
  · repeat infer_instance
    have e0 : List.map (fun d => d) (List.filter (fun _ => false) (List.map (fun kv => keyD kv.fst) kvs)) = [] := by simp
    rw [e0]
    refine wrs_v (d := .bl true) rfl ?_
    repeat infer_instance
    rfl
theorem like_leaf (n : Nat) (d : D) (h : (∃ b, d = .bl b) ∨ (∃ b, d = .int b) ∨ (∃ b, d = .str b) ∨ d = .non) : FP (df_law_like (n + 1)) [d, d] fun r => r = .val (.bl true) := by
  rcases h with ⟨b, rfl⟩ | ⟨b, rfl⟩ | ⟨b, rfl⟩ | rfl
  all_goals
    refine fp_def rfl ?_
    unfold b_law_like
    repeat infer_instance
    first | rfl | simp
/-- .. of any plain thing -/
def Plk : Nat → D → Prop
  | _, .non => True
  | _, .bl _ => True
  | _, .int _ => True
  | _, .str _ => True
  | n + 1, .tup xs => xs.length ≤ 1000 ∧ ∀ x ∈ xs, Plk n x
  | n + 1, .lst xs => xs.length ≤ 1000 ∧ ∀ x ∈ xs, Plk n x
  | n + 1, .dic kvs => (kvs.map (·.1)).Nodup ∧ kvs.length ≤ 1000 ∧ (∀ z, Sum.inr z ∈ kvs.map (·.1) → PyData.strOk z = true) ∧ ∀ p ∈ kvs, Plk n p.2
  | _, _ => False
theorem fp_val {df : DFp} {ds : List D} {d : D} (h : FP df ds fun r => r = .val d) : df ds = some (.val d) := by
  obtain ⟨r, a, rfl⟩ := h
  exact a
theorem like_same : ∀ (n : Nat) (d : D), Plk n d → df_law_like (n + 1) [d, d] = some (.val (.bl true))
  | n, .non, _ => fp_val (like_leaf n _ (.inr (.inr (.inr rfl))))
  | n, .bl b, _ => fp_val (like_leaf n _ (.inl ⟨b, rfl⟩))
  | n, .int b, _ => fp_val (like_leaf n _ (.inr (.inl ⟨b, rfl⟩)))
  | n, .str b, _ => fp_val (like_leaf n _ (.inr (.inr (.inl ⟨b, rfl⟩))))
  | n + 1, .tup xs, h => fp_val (seq_same (n + 1) xs h.1 (fun x hx => like_same n x (h.2 x hx)) _ (.inl rfl))
  | n + 1, .lst xs, h => fp_val (seq_same (n + 1) xs h.1 (fun x hx => like_same n x (h.2 x hx)) _ (.inr rfl))
  | n + 1, .dic kvs, h => fp_val (dic_same (n + 1) kvs h.2.1 h.1 h.2.2.1 fun p hp => like_same n p.2 (h.2.2.2 p hp))
  | 0, .tup _, h => h.elim
  | 0, .lst _, h => h.elim
  | 0, .dic _, h => h.elim
  | 0, .ins _ _, h => h.elim
  | _ + 1, .ins _ _, h => h.elim
  | 0, .exc _ _, h => h.elim
  | _ + 1, .exc _ _, h => h.elim
end Law
namespace Law
open Sim
open PySem hiding Env
set_option maxHeartbeats 1000000
local macro_rules | `(tactic| infer_instance) => `(tactic| first | ((with_reducible apply rm_s); exact rfl; exact rfl) | ((with_reducible apply rm_o); exact rfl; exact rfl))
local macro_rules | `(tactic| infer_instance) => `(tactic| first | with_reducible refine lim_and (by decide) ?_ | ((with_reducible apply rmx_nx); exact rfl) | ((with_reducible apply rp_s); exact rfl) | ((with_reducible apply rp_o); exact rfl) | ((with_reducible apply rm_nx); exact rfl) | ((with_reducible apply rm_v); exact rfl) | ((with_reducible apply rx_s); exact rfl) | ((with_reducible apply rx_o); exact rfl))
local macro_rules | `(tactic| infer_instance) => `(tactic| first | ((with_reducible apply br_f); exact rfl) | with_reducible refine rp_nx ?_ | with_reducible refine rp_v ?_ | with_reducible refine rx_nx ?_ | with_reducible refine rx_v ?_ | with_reducible refine rx_x ?_ | with_reducible refine rmx_x ?_ | with_reducible refine wl ?_)
local macro_rules | `(tactic| infer_instance) => `(tactic| first | ((with_reducible apply wrs_n); ((try simp only [strX_str, dEq_int, dEq_str, dNe_int, dNe_str, dOrd, fLt, fLe, fGt, fGe, dSub, addX_int, dNeg, dLen, dIxA, dIx, sliceX_lst, revRs, dTuple, dListA, dAbs]); exact rfl)) | ((with_reducible apply wrs_t); ((try simp only [strX_str, dEq_int, dEq_str, dNe_int, dNe_str, dOrd, fLt, fLe, fGt, fGe, dSub, addX_int, dNeg, dLen, dIxA, dIx, sliceX_lst, revRs, dTuple, dListA, dAbs]); exact rfl)) | with_reducible refine wrv_v ?_ | with_reducible refine wrv_n ?_ | ((with_reducible apply wp); with_reducible assumption) | ((with_reducible apply wp); ((try simp only [List.set_cons_zero, List.set_cons_succ, List.take_succ_cons, List.take_zero, List.take_nil, List.length_cons, List.length_nil, List.cons_append, List.nil_append, List.map_cons, List.map_nil, List.replicate_succ, List.replicate_zero, List.getElem?_cons_zero, List.getElem?_cons_succ, wipesE, restore, sets, sqOf2, sqOf3, Ob.frz, bindP, bindPs, Option.bind_some, pin, puts, put, ownAt, storeO, Nat.reduceAdd, Nat.reduceSub, Nat.zero_add]); exact rfl)) | ((with_reducible apply wrb); ((try simp only [strX_str, dEq_int, dEq_str, dNe_int, dNe_str, dOrd, fLt, fLe, fGt, fGe, dSub, addX_int, dNeg, dLen, dIxA, dIx, sliceX_lst, revRs, dTuple, dListA, dAbs]); exact rfl)) | ((with_reducible apply br_t); exact rfl))
local macro_rules | `(tactic| infer_instance) => `(tactic| first | ((with_reducible apply wput_at); exact rfl; decide) | ((with_reducible apply wput_fr); exact rfl; decide) | ((with_reducible apply nr); ((try simp only [List.set_cons_zero, List.set_cons_succ, List.take_succ_cons, List.take_zero, List.take_nil, List.length_cons, List.length_nil, List.cons_append, List.nil_append, List.map_cons, List.map_nil, List.replicate_succ, List.replicate_zero, List.getElem?_cons_zero, List.getElem?_cons_succ, wipesE, restore, sets, sqOf2, sqOf3, Ob.frz, bindP, bindPs, Option.bind_some, pin, puts, put, ownAt, storeO, Nat.reduceAdd, Nat.reduceSub, Nat.zero_add]); exact rfl)) | ((with_reducible apply wrs_v); with_reducible assumption) | ((with_reducible apply wrs_n); with_reducible assumption) | ((with_reducible apply wrs_t); with_reducible assumption) | ((with_reducible apply wrb); with_reducible assumption) | ((with_reducible apply wrs_v); ((try simp only [strX_str, dEq_int, dEq_str, dNe_int, dNe_str, dOrd, fLt, fLe, fGt, fGe, dSub, addX_int, dNeg, dLen, dIxA, dIx, sliceX_lst, revRs, dTuple, dListA, dAbs]); exact rfl)))
local macro_rules | `(tactic| infer_instance) => `(tactic| first | ((with_reducible apply wfc_s); exact rfl) | ((with_reducible apply wfc_l); exact rfl) | ((with_reducible apply wfc_d); exact rfl) | ((with_reducible apply wfc_o); exact rfl) | with_reducible refine wfs_nil ?_ | with_reducible refine wfs_cons ?_ | with_reducible refine wput_v ?_ | ((with_reducible apply wput_s); exact rfl))
local macro_rules | `(tactic| infer_instance) => `(tactic| first | with_reducible refine wlk_v ?_ | ((with_reducible apply wlk_s); exact rfl) | ((with_reducible apply wlk_l); exact rfl) | ((with_reducible apply wlk_d); exact rfl) | ((with_reducible apply wlk_o); exact rfl) | with_reducible refine wls_nil ?_ | with_reducible refine wls_cons ?_ | with_reducible refine wfc_v ?_)
local macro_rules | `(tactic| infer_instance) => `(tactic| first | with_reducible refine wi_enumX ?_ | with_reducible refine wi_r1 ?_ | with_reducible refine wi_r2 ?_ | with_reducible refine wi_r3 ?_ | with_reducible refine wi_zip ?_ | with_reducible refine wi_zipW ?_ | with_reducible refine wi_zipM ?_ | with_reducible refine wi_keys ?_)
local macro_rules | `(tactic| infer_instance) => `(tactic| first | with_reducible refine wt_yes ?_ | with_reducible refine wa_nil ?_ | with_reducible refine wa_cons ?_ | with_reducible refine wa_star ?_ | with_reducible refine wo_none ?_ | with_reducible refine wo_some ?_ | with_reducible refine wi_seqS ?_ | with_reducible refine wi_enum ?_)
local macro_rules | `(tactic| infer_instance) => `(tactic| first | with_reducible refine we_inG ?_ | with_reducible refine we_ixG ?_ | with_reducible refine we_dpop ?_ | with_reducible refine we_clear ?_ | with_reducible refine wt_B ?_ | with_reducible refine wt_not ?_ | with_reducible refine wt_and ?_ | with_reducible refine wt_or ?_)
local macro_rules | `(tactic| infer_instance) => `(tactic| first | with_reducible refine we_fldX ?_ | with_reducible refine we_cntT ?_ | with_reducible refine we_chain ?_ | with_reducible refine we_lenSet ?_ | with_reducible refine we_listR1 ?_ | with_reducible refine we_listR2 ?_ | with_reducible refine we_ext ?_ | with_reducible refine we_get1 ?_)
local macro_rules | `(tactic| infer_instance) => `(tactic| first | with_reducible refine we_make ?_ | with_reducible refine we_MU ?_ | with_reducible refine we_fld ?_ | with_reducible refine we_isi ?_ | with_reducible refine we_isC ?_ | with_reducible refine we_revW ?_ | with_reducible refine we_rep ?_ | with_reducible refine we_isX ?_)
local macro_rules | `(tactic| infer_instance) => `(tactic| first | with_reducible refine we_not ?_ | with_reducible refine we_tup ?_ | with_reducible refine we_lst ?_ | with_reducible refine we_newD ?_ | with_reducible refine we_callP ?_ | with_reducible refine we_callM ?_ | with_reducible refine we_callPv ?_ | with_reducible refine we_callMv ?_)
local macro_rules | `(tactic| infer_instance) => `(tactic| first | with_reducible refine we_d2 ?_ | with_reducible refine we_d1 ?_ | with_reducible refine we_L ?_ | with_reducible refine we_MS ?_ | with_reducible refine we_sl ?_ | with_reducible refine we_if ?_ | with_reducible refine we_and ?_ | with_reducible refine we_or ?_)
local macro_rules | `(tactic| infer_instance) => `(tactic| first | with_reducible refine wx_call ?_ | with_reducible refine wx_make ?_ | with_reducible refine tk_nx ?_ | with_reducible refine tk_rt ?_ | ((with_reducible apply we_val); exact rfl) | ((with_reducible apply we_own); exact rfl) | ((with_reducible apply we_lcV); exact rfl) | with_reducible refine we_c ?_)
local macro_rules | `(tactic| infer_instance) => `(tactic| first | with_reducible refine ws_asgX ?_ | with_reducible refine ws_retX ?_ | with_reducible refine ws_dropX ?_ | with_reducible refine ws_raise0 ?_ | with_reducible refine ws_raise ?_ | with_reducible refine ws_try ?_ | with_reducible refine wx_pure ?_ | with_reducible refine wx_if ?_)
local macro_rules | `(tactic| infer_instance) => `(tactic| first | with_reducible refine ws_next ?_ | with_reducible refine ws_cont ?_ | with_reducible refine ws_break ?_ | with_reducible refine ws_drop ?_ | with_reducible refine ws_store ?_ | with_reducible refine ws_setF ?_ | with_reducible refine ws_slst ?_ | with_reducible refine ws_asgNS ?_)
local macro_rules | `(tactic| infer_instance) => `(tactic| first | with_reducible refine fo_ct ?_ | with_reducible refine fo_bk ?_ | with_reducible refine fo_rt ?_ | with_reducible refine ws_if ?_ | with_reducible refine ws_asg ?_ | with_reducible refine ws_asgP ?_ | with_reducible refine ws_multi ?_ | with_reducible refine ws_ret ?_)
local macro_rules | `(tactic| infer_instance) => `(tactic| first | with_reducible refine ws_seq ?_ | with_reducible refine sq_xc ?_ | with_reducible refine fo_xc ?_ | with_reducible refine sq_nx ?_ | with_reducible refine sq_rt ?_ | with_reducible refine sq_ct ?_ | with_reducible refine sq_bk ?_ | with_reducible refine fo_nx ?_)
theorem any_ok : ∀ c ∈ TL.tl (" !\"#$&'()*+,-./0123456789:;<=>?@ABCXYZ[]^_`abcmnoxyz{|}~" : Str), signOk c = true := by decide +kernel
theorem any_sign_ok {n : Nat} {o : Ob} (s : St n o) (hn : n < 1000000) : FM df_law_any_sign o [] fun r o' => ∃ c, r = .val (.str (mkS [c])) ∧ signOk c = true ∧ St (n + 1) o' := by
  refine fm_def rfl ?_
  unfold b_law_any_sign
  repeat infer_instance
  refine FM.mono (pick_str s (by omega) (by decide +kernel) (by decide +kernel)) fun r o2 ⟨x, hr, hx, s2⟩ => ?_
  subst hr
  repeat infer_instance
  exact ⟨x, rfl, any_ok x hx, s2⟩
def fdB (f : Fd) : Bool := nameOk f.nm && (decide (1 ≤ f.lg) && decide (f.lg ≤ if f.tx then 20 else 9)) && (decide (1 ≤ f.at_) && decide (f.at_ ≤ 60 - f.lg + 1))
theorem is_field_b (f : Fd) (hl : f.nm.length ≤ 10000) : FP df_is_field [fdD f] fun r => r = .val (.bl (fdB f)) := by
  have nm := is_name_v f.nm hl
  have lk := longest_ok f.tx
  have g1 : gIn true c_LONGEST_FIELD (.str (kindS f.tx)) = some (.val (.bl false)) := by
    show some (Rs.val (.bl (!(c_LONGEST_FIELD.lookup (kindS f.tx)).isSome))) = _
    unfold c_LONGEST_FIELD
    rw [lk]
    rfl
  have g2 : gIx c_LONGEST_FIELD (.str (kindS f.tx)) = some (.val (.int (if f.tx then 20 else 9))) := by
    show (c_LONGEST_FIELD.lookup (kindS f.tx)).map (fun i => Rs.val (.int i)) = _
    unfold c_LONGEST_FIELD
    rw [lk]
    rfl
  unfold fdB
  refine fp_def rfl ?_
  unfold b_is_field fdD
  repeat infer_instance
  refine FP.mono nm fun r hr => ?_
  subst hr
  cases nameOk f.nm with
  | false =>
    repeat infer_instance
    rfl
  | true =>
    repeat infer_instance
    refine FP.mono (num_v f.lg 1 (if f.tx then 20 else 9)) fun r hr => ?_
    subst hr
    cases (decide (1 ≤ f.lg) && decide (f.lg ≤ if f.tx then 20 else 9)) with
    | false =>
      repeat infer_instance
      rfl
    | true =>
      repeat infer_instance
      refine FP.mono (num_v f.at_ 1 (60 - f.lg + 1)) fun r hr => ?_
      subst hr
      repeat infer_instance
      rfl
def fdU : D → Bool
  | .tup [.str n, .int a, .int l, .str k] => fdB ⟨n, a, l, k == kindS true⟩
  | _ => false
theorem fdU_v (f : Fd) : fdU (fdD f) = fdB f := by
  obtain ⟨n, a, l, t⟩ := f
  show fdB ⟨n, a, l, kindS t == kindS true⟩ = _
  rw [show (kindS t == kindS true) = t by cases t <;> decide +kernel]
theorem fields_bad (mk : D) (fs : List Fd) (few : fs.length ≤ 8) (hl : ∀ f ∈ fs, f.nm.length ≤ 10000) (bad : fs.all fdB = false) : FP df_are_fields [.tup (fs.map fdD), mk] fun r => r = .val (.bl false) := by
  refine fp_def rfl ?_
  unfold b_are_fields
  repeat infer_instance
  refine br_dec (fun h => by rw [List.length_map] at h; omega) (fun _ => ?_)
  repeat infer_instance
  refine we_map ?_
  repeat infer_instance
  refine ⟨fun d => .bl (fdU d), by rw [List.length_map]; exact le_LIM (by omega), fun d hd => ?_, ?_⟩
  · obtain ⟨f, hf, rfl⟩ := List.mem_map.mp hd
    repeat infer_instance
    refine FP.mono (is_field_b f (hl f hf)) fun r hr => ?_
    subst hr
    repeat infer_instance
    refine ⟨?_, ?_⟩
    · show some (D.bl (fdB f)) = some (D.bl (fdU (fdD f)))
      rw [fdU_v]
    · rfl
  have al : dAll [.lst ((fs.map fdD).map fun d => D.bl (fdU d))] = some (.val (.bl false)) := by
    rw [all_v fdU, List.all_map, show (fdU ∘ fdD) = fdB from funext fdU_v, bad]
  repeat infer_instance
  rfl
theorem fields_many (mk : D) (fs : List Fd) (many : 8 < fs.length) (hi : fs.length ≤ 100) : FP df_are_fields [.tup (fs.map fdD), mk] fun r => r = .val (.bl false) := by
  refine fp_def rfl ?_
  unfold b_are_fields
  repeat infer_instance
  refine br_dec (fun h => ?_) (fun h => by rw [List.length_map] at h; omega)
  repeat infer_instance
  rfl
theorem uniq_len {κ : Type} [DecidableEq κ] : ∀ (ks acc : List κ), (List.foldl addK acc ks).length ≤ acc.length + ks.length ∧ (acc.Nodup → (List.foldl addK acc ks).length = acc.length + ks.length → (acc ++ ks).Nodup)
  | [], acc => ⟨Nat.le_refl _, fun h _ => by rw [List.append_nil]; exact h⟩
  | k :: ks, acc => by
    have q : addK acc k = if k ∈ acc then acc else acc ++ [k] := by
      unfold addK
      simp
    rw [List.foldl_cons, q, List.length_cons]
    by_cases h : k ∈ acc
    · rw [if_pos h]
      obtain ⟨a, _⟩ := uniq_len ks acc
      exact ⟨by omega, fun _ e => by omega⟩
    · rw [if_neg h]
      obtain ⟨a, b⟩ := uniq_len ks (acc ++ [k])
      rw [List.length_append, List.length_singleton] at a b
      refine ⟨by omega, fun hn e => ?_⟩
      have := b (List.nodup_append.mpr ⟨hn, List.pairwise_singleton _ _, fun x hx y hy e => h (by rw [← List.mem_singleton.mp hy, ← e]; exact hx)⟩) (by omega)
      rw [List.append_assoc] at this
      exact this
theorem unlike_f (xs : List D) (ks : List L2.Key) (hk : keysOf xs = some ks) (hl : ks.length = xs.length) (nd : ¬ ks.Nodup) (h4 : xs.length ≤ 4000) : FP df_are_unlike [.lst xs] fun r => r = .val (.bl false) := by
  obtain ⟨u1, u2⟩ := uniq_len ks []
  have ul : (uniq ks).length ≠ ks.length := fun e => nd (u2 List.nodup_nil (by rw [List.length_nil, Nat.zero_add]; exact e))
  have u3 : (uniq ks).length ≤ ks.length := by
    rw [List.length_nil, Nat.zero_add] at u1
    exact u1
  refine fp_def rfl ?_
  unfold b_are_unlike
  repeat infer_instance
  refine wp (show keysL (.lst xs) = some ks from hk) (and_of (by omega) ?_)
  repeat infer_instance
  rw [decide_eq_false (by omega)]
theorem taken_twice (zs : List Int) (nd : ¬ zs.Nodup) (h : zs.length ≤ 4000) : FP df_are_unlike [.lst (zs.map D.int)] fun r => r = .val (.bl false) :=
  unlike_f _ _ (keysOf_ints zs) (by simp) (fun q => nd (List.Pairwise.imp (fun {a b} w e => w (by rw [e])) (List.pairwise_map.mp q))) (by simpa using h)
theorem fields_same (mk : Option (Int × Nat)) (fs : List Fd) (few : fs.length ≤ 8) (each : ∀ f ∈ fs, FdOk f) (nd : (fs.map Fd.nm).Nodup) (twice : ¬ (mkI mk ++ takI fs).Nodup) : FP df_are_fields [.tup (fs.map fdD), markD mk] fun r => r = .val (.bl false) := by
  have tl : (mkI mk ++ takI fs).length ≤ 4000 := by
    have := takI_len (fs := fs) fun f h => (each f h).le20
    have m1 : (mkI mk).length ≤ 1 := by cases mk with | none => decide | some p => exact Nat.le_refl _
    rw [List.length_append]
    omega
  refine fp_def rfl ?_
  unfold b_are_fields
  repeat infer_instance
  refine br_dec (fun h => by rw [List.length_map] at h; omega) (fun _ => ?_)
  repeat infer_instance
  refine we_map ?_
  repeat infer_instance
  refine ⟨fun _ => .bl true, by rw [List.length_map]; exact le_LIM (by omega), fun d hd => ?_, ?_⟩
  · obtain ⟨f, hf, rfl⟩ := List.mem_map.mp hd
    repeat infer_instance
    refine FP.mono (is_field_v f (each f hf)) fun r hr => ?_
    subst hr
    repeat infer_instance
    exact ⟨rfl, rfl⟩
  have al : dAll [.lst ((fs.map fdD).map fun _ => D.bl true)] = some (.val (.bl true)) := by
    rw [all_v (fun _ => true)]
    have : ((fs.map fdD).all fun _ => true) = true := List.all_eq_true.mpr fun _ _ => rfl
    rw [this]
  repeat infer_instance
  refine we_map ?_
  repeat infer_instance
  refine ⟨nmD, by rw [List.length_map]; exact le_LIM (by omega), fun d hd => ?_, ?_⟩
  · obtain ⟨f, hf, rfl⟩ := List.mem_map.mp hd
    unfold fdD nmD
    repeat infer_instance
    exact ⟨rfl, rfl⟩
  rw [show (fs.map fdD).map nmD = (fs.map Fd.nm).map D.str by rw [List.map_map, List.map_map]; rfl]
  repeat infer_instance
  refine FP.mono (unlike_strs _ nd (by rw [List.length_map]; omega)) fun r hr => ?_
  subst hr
  repeat infer_instance
  refine FP.mono (taken_v mk fs few each) fun r hr => ?_
  subst hr
  repeat infer_instance
  refine FP.mono (taken_twice _ twice tl) fun r hr => ?_
  subst hr
  repeat infer_instance
  rfl
theorem mark_bad (c : Int) (z : Str) (hz : z.length ≤ 10000) (bad : (decide (1 ≤ c) && decide (c ≤ 60) && signsB z && decide ((z.length : Int) = 1)) = false) : FP df_is_mark [.tup [.int c, .str z]] fun r => r = .val (.bl false) := by
  have ln := len_v hz
  have sg := is_signs_v z hz
  refine fp_def rfl ?_
  unfold b_is_mark
  repeat infer_instance
  refine FP.mono (num_v c 1 60) fun r hr => ?_
  subst hr
  cases h1 : (decide (1 ≤ c) && decide (c ≤ 60)) with
  | false =>
    repeat infer_instance
    rfl
  | true =>
    repeat infer_instance
    refine FP.mono sg fun r hr => ?_
    subst hr
    cases h2 : signsB z with
    | false =>
      repeat infer_instance
      rfl
    | true =>
      rw [h1, h2, Bool.true_and, Bool.true_and] at bad
      repeat infer_instance
      rw [bad]
def Pt (b : Bool) (nm mk fs : D) : Prop := FP df_are_parts [nm, mk, fs] fun r => r = .val (.bl b)
theorem parts_n {z : Str} (hz : z.length ≤ 10000) (h : nameOk z = false) (mk fs : D) : Pt false (.str z) mk fs := by
  have n := is_name_v z hz
  rw [h] at n
  refine fp_def rfl ?_
  unfold b_are_parts
  repeat infer_instance
  refine FP.mono n fun r hr => ?_
  subst hr
  repeat infer_instance
  rfl
theorem name_len {z : Str} (h : nameOk z = true) : z.length ≤ 10000 := by
  unfold nameOk at h
  simp only [Bool.and_eq_true, decide_eq_true_eq] at h
  omega
theorem parts_m {z : Str} (h : nameOk z = true) (mk fs : D) (hm : FP df_is_mark [mk] fun r => r = .val (.bl false)) : Pt false (.str z) mk fs := by
  have n := is_name_v z (name_len h)
  rw [h] at n
  refine fp_def rfl ?_
  unfold b_are_parts
  repeat infer_instance
  refine FP.mono n fun r hr => ?_
  subst hr
  repeat infer_instance
  refine FP.mono hm fun r hr => ?_
  subst hr
  repeat infer_instance
  rfl
theorem parts_f {z : Str} (h : nameOk z = true) (mk : Option (Int × Nat)) (fs : D) (hm : ∀ c g, mk = some (c, g) → 1 ≤ c ∧ c ≤ 60 ∧ signOk g = true) (hf : FP df_are_fields [fs, markD mk] fun r => r = .val (.bl false)) : Pt false (.str z) (markD mk) fs := by
  have n := is_name_v z (name_len h)
  rw [h] at n
  refine fp_def rfl ?_
  unfold b_are_parts
  repeat infer_instance
  refine FP.mono n fun r hr => ?_
  subst hr
  repeat infer_instance
  refine FP.mono (is_mark_v mk hm) fun r hr => ?_
  subst hr
  repeat infer_instance
  refine FP.mono hf fun r hr => ?_
  subst hr
  repeat infer_instance
  rfl
theorem no_mark : ∀ c g, (none : Option (Int × Nat)) = some (c, g) → 1 ≤ c ∧ c ≤ 60 ∧ signOk g = true := fun c g z => nomatch z
theorem one_good {z : Str} (h : nameOk z = true) {f : Fd} (hf : FdOk f) (mk : Option (Int × Nat)) (hm : ∀ c g, mk = some (c, g) → 1 ≤ c ∧ c ≤ 60 ∧ signOk g = true) (ha : ∀ c g, mk = some (c, g) → c < f.at_ ∨ f.at_ + f.lg ≤ c) : Pt true (.str z) (markD mk) (.tup [fdD f]) := by
  have ok : ShapeOk z mk [f] := by
    refine ⟨h, hm, (show 1 ≤ 8 by decide), fun g hg => ?_, List.pairwise_singleton _ _, ?_⟩
    · rw [List.mem_singleton.mp hg]
      exact hf
    · have e : takI [f] = rngI f.at_ (f.at_ + f.lg) := by
        show rngI f.at_ (f.at_ + f.lg) ++ [] = _
        rw [List.append_nil]
      rw [e]
      cases mk with
      | none => exact rngI_nodup _ _
      | some p =>
        obtain ⟨c, g⟩ := p
        refine List.nodup_cons.mpr ⟨fun q => ?_, rngI_nodup _ _⟩
        have := mem_rngI.mp q
        have := ha c g rfl
        omega
  exact are_parts_v z mk [f] ok
theorem one_bad {z : Str} (h : nameOk z = true) {f : Fd} (hl : f.nm.length ≤ 10000) (hf : fdB f = false) : Pt false (.str z) .non (.tup [fdD f]) :=
  parts_f h none _ no_mark (fields_bad .non [f] (show 1 ≤ 8 by decide) (fun g hg => by rw [List.mem_singleton.mp hg]; exact hl) (by rw [List.all_cons, hf]; rfl))
theorem make_ok {b : Bool} {nm mk fs : D} (h : Pt b nm mk fs) : FMX df_Shape_initX (.obj 0 []) [nm, mk, fs] (fun r _ => r = .val .non ∧ b = true) (fun c xs => c = 2 ∧ xs = [] ∧ b = false) := by
  refine fmx_def rfl ?_
  unfold b_Shape_initX
  repeat infer_instance
  refine FP.mono h fun r hr => ?_
  subst hr
  cases b with
  | true =>
    repeat infer_instance
    exact ⟨rfl, rfl⟩
  | false =>
    repeat infer_instance
    exact ⟨rfl, rfl, rfl⟩
theorem refused_ok {b : Bool} {nm mk fs : D} (h : Pt b nm mk fs) : FP df_law_refused [.tup [nm, mk, fs]] fun r => r = .val (if b = true then .non else .str "NoShape") := by
  refine fp_def rfl ?_
  unfold b_law_refused
  repeat infer_instance
  refine FMX.mono (make_ok h) (fun r o ⟨hr, hb⟩ => ?_) (fun c xs ⟨hc, hx, hb⟩ => ?_)
  · refine ⟨hr, ?_⟩
    subst hb
    repeat infer_instance
    rfl
  · subst hc hx hb
    repeat infer_instance
    refine tk_xc rfl rfl ?_
    repeat infer_instance
    refine FP.mono (alone_ok []) fun r hr => ?_
    subst hr
    repeat infer_instance
    rfl
end Law
namespace Law
open Sim
open PySem hiding Env
set_option maxHeartbeats 1000000
local macro_rules | `(tactic| infer_instance) => `(tactic| first | ((with_reducible apply rm_s); exact rfl; exact rfl) | ((with_reducible apply rm_o); exact rfl; exact rfl))
local macro_rules | `(tactic| infer_instance) => `(tactic| first | with_reducible refine lim_and (by decide) ?_ | ((with_reducible apply rmx_nx); exact rfl) | ((with_reducible apply rp_s); exact rfl) | ((with_reducible apply rp_o); exact rfl) | ((with_reducible apply rm_nx); exact rfl) | ((with_reducible apply rm_v); exact rfl) | ((with_reducible apply rx_s); exact rfl) | ((with_reducible apply rx_o); exact rfl))
local macro_rules | `(tactic| infer_instance) => `(tactic| first | ((with_reducible apply br_f); exact rfl) | with_reducible refine rp_nx ?_ | with_reducible refine rp_v ?_ | with_reducible refine rx_nx ?_ | with_reducible refine rx_v ?_ | with_reducible refine rx_x ?_ | with_reducible refine rmx_x ?_ | with_reducible refine wl ?_)
local macro_rules | `(tactic| infer_instance) => `(tactic| first | ((with_reducible apply wrs_n); ((try simp only [strX_str, dEq_int, dEq_str, dNe_int, dNe_str, dOrd, fLt, fLe, fGt, fGe, dSub, addX_int, dNeg, dLen, dIxA, dIx, sliceX_lst, revRs, dTuple, dListA, dAbs]); exact rfl)) | ((with_reducible apply wrs_t); ((try simp only [strX_str, dEq_int, dEq_str, dNe_int, dNe_str, dOrd, fLt, fLe, fGt, fGe, dSub, addX_int, dNeg, dLen, dIxA, dIx, sliceX_lst, revRs, dTuple, dListA, dAbs]); exact rfl)) | with_reducible refine wrv_v ?_ | with_reducible refine wrv_n ?_ | ((with_reducible apply wp); with_reducible assumption) | ((with_reducible apply wp); ((try simp only [List.set_cons_zero, List.set_cons_succ, List.take_succ_cons, List.take_zero, List.take_nil, List.length_cons, List.length_nil, List.cons_append, List.nil_append, List.map_cons, List.map_nil, List.replicate_succ, List.replicate_zero, List.getElem?_cons_zero, List.getElem?_cons_succ, wipesE, restore, sets, sqOf2, sqOf3, Ob.frz, bindP, bindPs, Option.bind_some, pin, puts, put, ownAt, storeO, Nat.reduceAdd, Nat.reduceSub, Nat.zero_add]); exact rfl)) | ((with_reducible apply wrb); ((try simp only [strX_str, dEq_int, dEq_str, dNe_int, dNe_str, dOrd, fLt, fLe, fGt, fGe, dSub, addX_int, dNeg, dLen, dIxA, dIx, sliceX_lst, revRs, dTuple, dListA, dAbs]); exact rfl)) | ((with_reducible apply br_t); exact rfl))
local macro_rules | `(tactic| infer_instance) => `(tactic| first | ((with_reducible apply wput_at); exact rfl; decide) | ((with_reducible apply wput_fr); exact rfl; decide) | ((with_reducible apply nr); ((try simp only [List.set_cons_zero, List.set_cons_succ, List.take_succ_cons, List.take_zero, List.take_nil, List.length_cons, List.length_nil, List.cons_append, List.nil_append, List.map_cons, List.map_nil, List.replicate_succ, List.replicate_zero, List.getElem?_cons_zero, List.getElem?_cons_succ, wipesE, restore, sets, sqOf2, sqOf3, Ob.frz, bindP, bindPs, Option.bind_some, pin, puts, put, ownAt, storeO, Nat.reduceAdd, Nat.reduceSub, Nat.zero_add]); exact rfl)) | ((with_reducible apply wrs_v); with_reducible assumption) | ((with_reducible apply wrs_n); with_reducible assumption) | ((with_reducible apply wrs_t); with_reducible assumption) | ((with_reducible apply wrb); with_reducible assumption) | ((with_reducible apply wrs_v); ((try simp only [strX_str, dEq_int, dEq_str, dNe_int, dNe_str, dOrd, fLt, fLe, fGt, fGe, dSub, addX_int, dNeg, dLen, dIxA, dIx, sliceX_lst, revRs, dTuple, dListA, dAbs]); exact rfl)))
local macro_rules | `(tactic| infer_instance) => `(tactic| first | ((with_reducible apply wfc_s); exact rfl) | ((with_reducible apply wfc_l); exact rfl) | ((with_reducible apply wfc_d); exact rfl) | ((with_reducible apply wfc_o); exact rfl) | with_reducible refine wfs_nil ?_ | with_reducible refine wfs_cons ?_ | with_reducible refine wput_v ?_ | ((with_reducible apply wput_s); exact rfl))
local macro_rules | `(tactic| infer_instance) => `(tactic| first | with_reducible refine wlk_v ?_ | ((with_reducible apply wlk_s); exact rfl) | ((with_reducible apply wlk_l); exact rfl) | ((with_reducible apply wlk_d); exact rfl) | ((with_reducible apply wlk_o); exact rfl) | with_reducible refine wls_nil ?_ | with_reducible refine wls_cons ?_ | with_reducible refine wfc_v ?_)
local macro_rules | `(tactic| infer_instance) => `(tactic| first | with_reducible refine wi_enumX ?_ | with_reducible refine wi_r1 ?_ | with_reducible refine wi_r2 ?_ | with_reducible refine wi_r3 ?_ | with_reducible refine wi_zip ?_ | with_reducible refine wi_zipW ?_ | with_reducible refine wi_zipM ?_ | with_reducible refine wi_keys ?_)
local macro_rules | `(tactic| infer_instance) => `(tactic| first | with_reducible refine wt_yes ?_ | with_reducible refine wa_nil ?_ | with_reducible refine wa_cons ?_ | with_reducible refine wa_star ?_ | with_reducible refine wo_none ?_ | with_reducible refine wo_some ?_ | with_reducible refine wi_seqS ?_ | with_reducible refine wi_enum ?_)
local macro_rules | `(tactic| infer_instance) => `(tactic| first | with_reducible refine we_inG ?_ | with_reducible refine we_ixG ?_ | with_reducible refine we_dpop ?_ | with_reducible refine we_clear ?_ | with_reducible refine wt_B ?_ | with_reducible refine wt_not ?_ | with_reducible refine wt_and ?_ | with_reducible refine wt_or ?_)
local macro_rules | `(tactic| infer_instance) => `(tactic| first | with_reducible refine we_fldX ?_ | with_reducible refine we_cntT ?_ | with_reducible refine we_chain ?_ | with_reducible refine we_lenSet ?_ | with_reducible refine we_listR1 ?_ | with_reducible refine we_listR2 ?_ | with_reducible refine we_ext ?_ | with_reducible refine we_get1 ?_)
local macro_rules | `(tactic| infer_instance) => `(tactic| first | with_reducible refine we_make ?_ | with_reducible refine we_MU ?_ | with_reducible refine we_fld ?_ | with_reducible refine we_isi ?_ | with_reducible refine we_isC ?_ | with_reducible refine we_revW ?_ | with_reducible refine we_rep ?_ | with_reducible refine we_isX ?_)
local macro_rules | `(tactic| infer_instance) => `(tactic| first | with_reducible refine we_not ?_ | with_reducible refine we_tup ?_ | with_reducible refine we_lst ?_ | with_reducible refine we_newD ?_ | with_reducible refine we_callP ?_ | with_reducible refine we_callM ?_ | with_reducible refine we_callPv ?_ | with_reducible refine we_callMv ?_)
local macro_rules | `(tactic| infer_instance) => `(tactic| first | with_reducible refine we_d2 ?_ | with_reducible refine we_d1 ?_ | with_reducible refine we_L ?_ | with_reducible refine we_MS ?_ | with_reducible refine we_sl ?_ | with_reducible refine we_if ?_ | with_reducible refine we_and ?_ | with_reducible refine we_or ?_)
local macro_rules | `(tactic| infer_instance) => `(tactic| first | with_reducible refine wx_call ?_ | with_reducible refine wx_make ?_ | with_reducible refine tk_nx ?_ | with_reducible refine tk_rt ?_ | ((with_reducible apply we_val); exact rfl) | ((with_reducible apply we_own); exact rfl) | ((with_reducible apply we_lcV); exact rfl) | with_reducible refine we_c ?_)
local macro_rules | `(tactic| infer_instance) => `(tactic| first | with_reducible refine ws_asgX ?_ | with_reducible refine ws_retX ?_ | with_reducible refine ws_dropX ?_ | with_reducible refine ws_raise0 ?_ | with_reducible refine ws_raise ?_ | with_reducible refine ws_try ?_ | with_reducible refine wx_pure ?_ | with_reducible refine wx_if ?_)
local macro_rules | `(tactic| infer_instance) => `(tactic| first | with_reducible refine ws_next ?_ | with_reducible refine ws_cont ?_ | with_reducible refine ws_break ?_ | with_reducible refine ws_drop ?_ | with_reducible refine ws_store ?_ | with_reducible refine ws_setF ?_ | with_reducible refine ws_slst ?_ | with_reducible refine ws_asgNS ?_)
local macro_rules | `(tactic| infer_instance) => `(tactic| first | with_reducible refine fo_ct ?_ | with_reducible refine fo_bk ?_ | with_reducible refine fo_rt ?_ | with_reducible refine ws_if ?_ | with_reducible refine ws_asg ?_ | with_reducible refine ws_asgP ?_ | with_reducible refine ws_multi ?_ | with_reducible refine ws_ret ?_)
local macro_rules | `(tactic| infer_instance) => `(tactic| first | with_reducible refine ws_seq ?_ | with_reducible refine sq_xc ?_ | with_reducible refine fo_xc ?_ | with_reducible refine sq_nx ?_ | with_reducible refine sq_rt ?_ | with_reducible refine sq_ct ?_ | with_reducible refine sq_bk ?_ | with_reducible refine fo_nx ?_)
theorem ix_get {xs : List D} {y : D} (k : Nat) (h : xs[k]? = some y) : dIxA (.lst xs) (.int (k : Int)) = some (.val y) := by
  have hk : k < xs.length := (List.getElem?_eq_some_iff.mp h).1
  simp only [dIxA, dIx, L2.atI, L2.ixN]
  rw [if_pos (by omega), if_pos (by omega), Int.toNat_natCast, Option.bind_some, h]
  rfl
theorem three {zs : List Str} (N : Names 12 zs) : ∃ z0 z1 z2, dIxA (.lst (zs.map D.str)) (.int 0) = some (.val (.str z0)) ∧ dIxA (.lst (zs.map D.str)) (.int 1) = some (.val (.str z1)) ∧ dIxA (.lst (zs.map D.str)) (.int 2) = some (.val (.str z2)) ∧ nameOk z0 = true ∧ nameOk z1 = true ∧ nameOk z2 = true ∧ z1 ≠ z2 := by
  obtain ⟨l, nd, ok⟩ := N
  match zs, l with
  | z0 :: z1 :: z2 :: r, _ =>
    refine ⟨z0, z1, z2, ?_, ?_, ?_, ok z0 (by simp), ok z1 (by simp), ok z2 (by simp), fun e => ?_⟩
    · exact ix_get (xs := (z0 :: z1 :: z2 :: r).map D.str) 0 rfl
    · exact ix_get (xs := (z0 :: z1 :: z2 :: r).map D.str) 1 rfl
    · exact ix_get (xs := (z0 :: z1 :: z2 :: r).map D.str) 2 rfl
    · rw [e] at nd
      simp at nd
theorem kinds_two {x : D} (h : x ∈ [D.str "text", D.str "number"]) : ∃ b, x = .str (kindS b) := by
  simp only [List.mem_cons, List.not_mem_nil, or_false] at h
  rcases h with rfl | rfl
  · exact ⟨true, rfl⟩
  · exact ⟨false, rfl⟩
theorem takI_two (f g : Fd) : takI [f, g] = rngI f.at_ (f.at_ + f.lg) ++ rngI g.at_ (g.at_ + g.lg) := by
  show rngI f.at_ (f.at_ + f.lg) ++ (rngI g.at_ (g.at_ + g.lg) ++ []) = _
  rw [List.append_nil]
theorem takI_one (f : Fd) : takI [f] = rngI f.at_ (f.at_ + f.lg) := by
  show rngI f.at_ (f.at_ + f.lg) ++ [] = _
  rw [List.append_nil]
theorem two_apart {f g : Fd} (h : f.at_ + f.lg ≤ g.at_) : (takI [f, g]).Nodup := by
  rw [takI_two]
  refine List.nodup_append.mpr ⟨rngI_nodup _ _, rngI_nodup _ _, fun x hx y hy e => ?_⟩
  have := mem_rngI.mp hx
  have := mem_rngI.mp hy
  omega
theorem two_meet {f g : Fd} (c : Int) (h1 : f.at_ ≤ c) (h2 : c < f.at_ + f.lg) (h3 : g.at_ ≤ c) (h4 : c < g.at_ + g.lg) : ¬ (takI [f, g]).Nodup := by
  rw [takI_two]
  intro q
  exact (List.nodup_append.mp q).2.2 c (mem_rngI.mpr ⟨h1, h2⟩) c (mem_rngI.mpr ⟨h3, h4⟩) rfl
/-- what two fields come to -/
structure Two (b : Bool) (f g : Fd) : Prop where
  f1 : FdOk f
  g1 : FdOk g
  ne : f.nm ≠ g.nm
  yes : b = true → (takI [f, g]).Nodup
  no : b = false → ¬ (takI [f, g]).Nodup
theorem Two.swap {b : Bool} {f g : Fd} (t : Two b f g) : Two b g f :=
  have p : (takI [g, f]).Perm (takI [f, g]) := takI_perm (List.Perm.swap _ _ _)
  ⟨t.g1, t.f1, t.ne.symm, fun h => p.nodup_iff.mpr (t.yes h), fun h q => t.no h (p.nodup_iff.mp q)⟩
theorem Two.parts {b : Bool} {f g : Fd} (t : Two b f g) {z : Str} (h : nameOk z = true) : Pt b (.str z) .non (.tup [fdD f, fdD g]) := by
  have each : ∀ x ∈ [f, g], FdOk x := fun x hx => by
    simp only [List.mem_cons, List.not_mem_nil, or_false] at hx
    rcases hx with rfl | rfl
    · exact t.f1
    · exact t.g1
  have nd : ([f, g].map Fd.nm).Nodup := by
    have := t.ne
    simpa using this
  cases b with
  | true => exact are_parts_v z none [f, g] ⟨h, no_mark, (show 2 ≤ 8 by decide), each, nd, t.yes rfl⟩
  | false => exact parts_f h none _ no_mark (fields_same none [f, g] (show 2 ≤ 8 by decide) each nd (t.no rfl))
theorem two_ok {n : Nat} {o : Ob} (s : St n o) (hn : n < 700000) {zs : List Str} (N : Names 12 zs) {over : Int} (ho : over = 0 ∨ over = 1) : FM df_law_two o [.lst (zs.map D.str), .int over] fun r o' => ∃ f g, r = .val (.tup [fdD f, fdD g]) ∧ Two (decide (over = 0)) f g ∧ St (n + 10) o' := by
  obtain ⟨z0, z1, z2, e0, e1, e2, k0, k1, k2, ne⟩ := three N
  refine fm_def rfl ?_
  unfold b_law_two
  repeat infer_instance
  refine FM.mono (pick_ok s (by omega) (xs := [.str "text", .str "number"]) (by simp) (by simp)) fun r o1 ⟨x, hr, hx, s1⟩ => ?_
  subst hr
  obtain ⟨tx, rfl⟩ := kinds_two hx
  repeat infer_instance
  refine FM.mono (next_ok s1 (by omega) (by decide) (by decide)) fun r o2 ⟨l, hr, l0, l1, s2⟩ => ?_
  subst hr
  repeat infer_instance
  refine FM.mono (next_ok s2 (by omega) (by decide) (by decide)) fun r o3 ⟨m, hr, m0, m1, s3⟩ => ?_
  subst hr
  repeat infer_instance
  refine FM.mono (next_ok s3 (by omega) (by decide) (by decide)) fun r o4 ⟨a, hr, a0, a1, s4⟩ => ?_
  subst hr
  have k20 : ∀ i : Int, i ≤ 9 → i ≤ if tx = true then 20 else 9 := fun i h => by split <;> omega
  have one : FdOk ⟨z1, 1 + a, 1 + l, tx⟩ := ⟨k1, by show 1 ≤ 1 + l; omega, k20 (1 + l) (by omega), by show 1 ≤ 1 + a; omega, by show 1 + a + (1 + l) ≤ 61; omega⟩
  have oth : FdOk ⟨z2, 1 + a + (1 + l) - over, 1 + m, true⟩ := ⟨k2, by show 1 ≤ 1 + m; omega, by show 1 + m ≤ 20; omega, by show 1 ≤ 1 + a + (1 + l) - over; omega, by show 1 + a + (1 + l) - over + (1 + m) ≤ 61; omega⟩
  have base : Two (decide (over = 0)) ⟨z1, 1 + a, 1 + l, tx⟩ ⟨z2, 1 + a + (1 + l) - over, 1 + m, true⟩ := by
    refine ⟨one, oth, ne, fun h => ?_, fun h => ?_⟩
    · have := of_decide_eq_true h
      exact two_apart (by show 1 + a + (1 + l) ≤ 1 + a + (1 + l) - over; omega)
    · have := of_decide_eq_false h
      refine two_meet (1 + a + l) ?_ ?_ ?_ ?_
      · show 1 + a ≤ 1 + a + l; omega
      · show 1 + a + l < 1 + a + (1 + l); omega
      · show 1 + a + (1 + l) - over ≤ 1 + a + l; omega
      · show 1 + a + l < 1 + a + (1 + l) - over + (1 + m); omega
  have bent : ∀ i j : Int, 0 ≤ i → i < 1 + l → 0 ≤ j → j < 1 + l - i → over = 1 → Two (decide (over = 0)) ⟨z1, 1 + a, 1 + l, tx⟩ ⟨z2, 1 + a + i, 1 + j, false⟩ := by
    intro i j i0 i1 j0 j1 e
    refine ⟨one, ⟨k2, by show 1 ≤ 1 + j; omega, by show 1 + j ≤ 9; omega, by show 1 ≤ 1 + a + i; omega, by show 1 + a + i + (1 + j) ≤ 61; omega⟩, ne, fun h => ?_, fun h => ?_⟩
    · have := of_decide_eq_true h
      omega
    · refine two_meet (1 + a + i) ?_ ?_ ?_ ?_
      · show 1 + a ≤ 1 + a + i; omega
      · show 1 + a + i < 1 + a + (1 + l); omega
      · exact Int.le_refl _
      · show 1 + a + i < 1 + a + i + (1 + j); omega
  repeat infer_instance
  refine br_dec (fun h1 => ?_) (fun h1 => ?_)
  · repeat infer_instance
    refine FM.mono (next_ok s4 (by omega) (by decide) (by decide)) fun r o5 ⟨q, hr, q0, q1, s5⟩ => ?_
    subst hr
    repeat infer_instance
    refine br_dec (fun h2 => ?_) (fun h2 => ?_)
    · repeat infer_instance
      refine FM.mono (next_ok s5 (by omega) (sz := 1 + l) (by omega) (by omega)) fun r o6 ⟨i, hr, i0, i1, s6⟩ => ?_
      subst hr
      repeat infer_instance
      refine FM.mono (next_ok s6 (by omega) (sz := 1 + l - i) (by omega) (by omega)) fun r o7 ⟨j, hr, j0, j1, s7⟩ => ?_
      subst hr
      have bt := bent i j i0 i1 j0 j1 h1
      repeat infer_instance
      refine FM.mono (next_ok s7 (by omega) (by decide) (by decide)) fun r o8 ⟨u, hr, u0, u1, s8⟩ => ?_
      subst hr
      repeat infer_instance
      refine br_dec (fun h3 => ?_) (fun h3 => ?_)
      · repeat infer_instance
        exact ⟨_, _, rfl, bt, s8.mono (by omega)⟩
      · repeat infer_instance
        exact ⟨_, _, rfl, bt.swap, s8.mono (by omega)⟩
    · repeat infer_instance
      refine FM.mono (next_ok s5 (by omega) (by decide) (by decide)) fun r o8 ⟨u, hr, u0, u1, s8⟩ => ?_
      subst hr
      repeat infer_instance
      refine br_dec (fun h3 => ?_) (fun h3 => ?_)
      · repeat infer_instance
        exact ⟨_, _, rfl, base, s8.mono (by omega)⟩
      · repeat infer_instance
        exact ⟨_, _, rfl, base.swap, s8.mono (by omega)⟩
  · repeat infer_instance
    refine FM.mono (next_ok s4 (by omega) (by decide) (by decide)) fun r o8 ⟨u, hr, u0, u1, s8⟩ => ?_
    subst hr
    repeat infer_instance
    refine br_dec (fun h3 => ?_) (fun h3 => ?_)
    · repeat infer_instance
      exact ⟨_, _, rfl, base, s8.mono (by omega)⟩
    · repeat infer_instance
      exact ⟨_, _, rfl, base.swap, s8.mono (by omega)⟩
theorem marked_parts {z : Str} (h : nameOk z = true) {f : Fd} (hf : FdOk f) {c : Int} {g : Nat} (hc : 1 ≤ c) (hc2 : c ≤ 60) (hg : signOk g = true) {b : Bool} (hb : b = !(decide (f.at_ ≤ c) && decide (c < f.at_ + f.lg))) : Pt b (.str z) (.tup [.int c, .str (mkS [g])]) (.tup [fdD f]) := by
  have hm : ∀ c' g', some (c, g) = some (c', g') → 1 ≤ c' ∧ c' ≤ 60 ∧ signOk g' = true := fun c' g' e => by
    cases e
    exact ⟨hc, hc2, hg⟩
  cases b with
  | true =>
    refine one_good h hf (some (c, g)) hm fun c' g' e => ?_
    cases e
    by_cases q : f.at_ ≤ c
    · by_cases w : c < f.at_ + f.lg
      · rw [decide_eq_true q, decide_eq_true w] at hb
        cases hb
      · omega
    · omega
  | false =>
    have q : f.at_ ≤ c ∧ c < f.at_ + f.lg := by
      by_cases q : f.at_ ≤ c
      · by_cases w : c < f.at_ + f.lg
        · exact ⟨q, w⟩
        · rw [decide_eq_false w, Bool.and_false] at hb
          cases hb
      · rw [decide_eq_false q, Bool.false_and] at hb
        cases hb
    refine parts_f h (some (c, g)) _ hm (fields_same (some (c, g)) [f] (show 1 ≤ 8 by decide) (fun x hx => by rw [List.mem_singleton.mp hx]; exact hf) (List.pairwise_singleton _ _) fun nd => ?_)
    rw [takI_one] at nd
    exact (List.nodup_cons.mp nd).1 (mem_rngI.mpr q)
theorem marked_ok {n : Nat} {o : Ob} (s : St n o) (hn : n < 700000) {zs : List Str} (N : Names 12 zs) {over : Int} (ho : over = 0 ∨ over = 1) : FM df_law_marked o [.lst (zs.map D.str), .int over] fun r o' => ∃ nm mk fs, r = .val (.tup [nm, mk, fs]) ∧ Pt (decide (over = 0)) nm mk fs ∧ St (n + 10) o' := by
  obtain ⟨z0, z1, z2, e0, e1, e2, k0, k1, k2, ne⟩ := three N
  refine fm_def rfl ?_
  unfold b_law_marked
  repeat infer_instance
  refine FM.mono (next_ok s (by omega) (by decide) (by decide)) fun r o2 ⟨a, hr, a0, a1, s2⟩ => ?_
  subst hr
  repeat infer_instance
  refine FM.mono (next_ok s2 (by omega) (by decide) (by decide)) fun r o3 ⟨l, hr, l0, l1, s3⟩ => ?_
  subst hr
  have one : FdOk ⟨z1, 2 + a, 1 + l, false⟩ := ⟨k1, by show 1 ≤ 1 + l; omega, by show 1 + l ≤ 9; omega, by show 1 ≤ 2 + a; omega, by show 2 + a + (1 + l) ≤ 61; omega⟩
  repeat infer_instance
  refine br_dec (fun h1 => ?_) (fun h1 => ?_)
  · repeat infer_instance
    refine FM.mono (next_ok s3 (by omega) (sz := 1 + l) (by omega) (by omega)) fun r o4 ⟨i, hr, i0, i1, s4⟩ => ?_
    subst hr
    repeat infer_instance
    refine FM.mono (any_sign_ok s4 (by omega)) fun r o5 ⟨g, hr, hg, s5⟩ => ?_
    subst hr
    repeat infer_instance
    refine ⟨_, _, _, rfl, marked_parts k0 one (by omega) (by omega) hg ?_, s5.mono (by omega)⟩
    rw [decide_eq_false (by omega), decide_eq_true (show 2 + a ≤ 2 + a + i by omega), decide_eq_true (show 2 + a + i < 2 + a + (1 + l) by omega)]
    rfl
  · repeat infer_instance
    refine FM.mono (pick_ok s3 (by omega) (xs := [.int (2 + a - 1), .int (2 + a + (1 + l))]) (by simp) (by simp)) fun r o4 ⟨x, hr, hx, s4⟩ => ?_
    subst hr
    simp only [List.mem_cons, List.not_mem_nil, or_false] at hx
    have e : over = 0 := by omega
    rcases hx with rfl | rfl
    · repeat infer_instance
      refine FM.mono (any_sign_ok s4 (by omega)) fun r o5 ⟨g, hr, hg, s5⟩ => ?_
      subst hr
      repeat infer_instance
      refine ⟨_, _, _, rfl, marked_parts k0 one (by omega) (by omega) hg ?_, s5.mono (by omega)⟩
      rw [decide_eq_true e, decide_eq_false (show ¬ 2 + a ≤ 2 + a - 1 by omega)]
      rfl
    · repeat infer_instance
      refine FM.mono (any_sign_ok s4 (by omega)) fun r o5 ⟨g, hr, hg, s5⟩ => ?_
      subst hr
      repeat infer_instance
      refine ⟨_, _, _, rfl, marked_parts k0 one (by omega) (by omega) hg ?_, s5.mono (by omega)⟩
      rw [decide_eq_true e, decide_eq_false (show ¬ 2 + a + (1 + l) < 2 + a + (1 + l) by omega), Bool.and_false]
      rfl
end Law
namespace Law
open Sim
open PySem hiding Env
set_option maxHeartbeats 1000000
local macro_rules | `(tactic| infer_instance) => `(tactic| first | ((with_reducible apply rm_s); exact rfl; exact rfl) | ((with_reducible apply rm_o); exact rfl; exact rfl))
local macro_rules | `(tactic| infer_instance) => `(tactic| first | with_reducible refine lim_and (by decide) ?_ | ((with_reducible apply rmx_nx); exact rfl) | ((with_reducible apply rp_s); exact rfl) | ((with_reducible apply rp_o); exact rfl) | ((with_reducible apply rm_nx); exact rfl) | ((with_reducible apply rm_v); exact rfl) | ((with_reducible apply rx_s); exact rfl) | ((with_reducible apply rx_o); exact rfl))
local macro_rules | `(tactic| infer_instance) => `(tactic| first | ((with_reducible apply br_f); exact rfl) | with_reducible refine rp_nx ?_ | with_reducible refine rp_v ?_ | with_reducible refine rx_nx ?_ | with_reducible refine rx_v ?_ | with_reducible refine rx_x ?_ | with_reducible refine rmx_x ?_ | with_reducible refine wl ?_)
local macro_rules | `(tactic| infer_instance) => `(tactic| first | ((with_reducible apply wrs_n); ((try simp only [strX_str, dEq_int, dEq_str, dNe_int, dNe_str, dOrd, fLt, fLe, fGt, fGe, dSub, addX_int, dNeg, dLen, dIxA, dIx, sliceX_lst, revRs, dTuple, dListA, dAbs]); exact rfl)) | ((with_reducible apply wrs_t); ((try simp only [strX_str, dEq_int, dEq_str, dNe_int, dNe_str, dOrd, fLt, fLe, fGt, fGe, dSub, addX_int, dNeg, dLen, dIxA, dIx, sliceX_lst, revRs, dTuple, dListA, dAbs]); exact rfl)) | with_reducible refine wrv_v ?_ | with_reducible refine wrv_n ?_ | ((with_reducible apply wp); with_reducible assumption) | ((with_reducible apply wp); ((try simp only [List.set_cons_zero, List.set_cons_succ, List.take_succ_cons, List.take_zero, List.take_nil, List.length_cons, List.length_nil, List.cons_append, List.nil_append, List.map_cons, List.map_nil, List.replicate_succ, List.replicate_zero, List.getElem?_cons_zero, List.getElem?_cons_succ, wipesE, restore, sets, sqOf2, sqOf3, Ob.frz, bindP, bindPs, Option.bind_some, pin, puts, put, ownAt, storeO, Nat.reduceAdd, Nat.reduceSub, Nat.zero_add]); exact rfl)) | ((with_reducible apply wrb); ((try simp only [strX_str, dEq_int, dEq_str, dNe_int, dNe_str, dOrd, fLt, fLe, fGt, fGe, dSub, addX_int, dNeg, dLen, dIxA, dIx, sliceX_lst, revRs, dTuple, dListA, dAbs]); exact rfl)) | ((with_reducible apply br_t); exact rfl))
local macro_rules | `(tactic| infer_instance) => `(tactic| first | ((with_reducible apply wput_at); exact rfl; decide) | ((with_reducible apply wput_fr); exact rfl; decide) | ((with_reducible apply nr); ((try simp only [List.set_cons_zero, List.set_cons_succ, List.take_succ_cons, List.take_zero, List.take_nil, List.length_cons, List.length_nil, List.cons_append, List.nil_append, List.map_cons, List.map_nil, List.replicate_succ, List.replicate_zero, List.getElem?_cons_zero, List.getElem?_cons_succ, wipesE, restore, sets, sqOf2, sqOf3, Ob.frz, bindP, bindPs, Option.bind_some, pin, puts, put, ownAt, storeO, Nat.reduceAdd, Nat.reduceSub, Nat.zero_add]); exact rfl)) | ((with_reducible apply wrs_v); with_reducible assumption) | ((with_reducible apply wrs_n); with_reducible assumption) | ((with_reducible apply wrs_t); with_reducible assumption) | ((with_reducible apply wrb); with_reducible assumption) | ((with_reducible apply wrs_v); ((try simp only [strX_str, dEq_int, dEq_str, dNe_int, dNe_str, dOrd, fLt, fLe, fGt, fGe, dSub, addX_int, dNeg, dLen, dIxA, dIx, sliceX_lst, revRs, dTuple, dListA, dAbs]); exact rfl)))
local macro_rules | `(tactic| infer_instance) => `(tactic| first | ((with_reducible apply wfc_s); exact rfl) | ((with_reducible apply wfc_l); exact rfl) | ((with_reducible apply wfc_d); exact rfl) | ((with_reducible apply wfc_o); exact rfl) | with_reducible refine wfs_nil ?_ | with_reducible refine wfs_cons ?_ | with_reducible refine wput_v ?_ | ((with_reducible apply wput_s); exact rfl))
local macro_rules | `(tactic| infer_instance) => `(tactic| first | with_reducible refine wlk_v ?_ | ((with_reducible apply wlk_s); exact rfl) | ((with_reducible apply wlk_l); exact rfl) | ((with_reducible apply wlk_d); exact rfl) | ((with_reducible apply wlk_o); exact rfl) | with_reducible refine wls_nil ?_ | with_reducible refine wls_cons ?_ | with_reducible refine wfc_v ?_)
local macro_rules | `(tactic| infer_instance) => `(tactic| first | with_reducible refine wi_enumX ?_ | with_reducible refine wi_r1 ?_ | with_reducible refine wi_r2 ?_ | with_reducible refine wi_r3 ?_ | with_reducible refine wi_zip ?_ | with_reducible refine wi_zipW ?_ | with_reducible refine wi_zipM ?_ | with_reducible refine wi_keys ?_)
local macro_rules | `(tactic| infer_instance) => `(tactic| first | with_reducible refine wt_yes ?_ | with_reducible refine wa_nil ?_ | with_reducible refine wa_cons ?_ | with_reducible refine wa_star ?_ | with_reducible refine wo_none ?_ | with_reducible refine wo_some ?_ | with_reducible refine wi_seqS ?_ | with_reducible refine wi_enum ?_)
local macro_rules | `(tactic| infer_instance) => `(tactic| first | with_reducible refine we_inG ?_ | with_reducible refine we_ixG ?_ | with_reducible refine we_dpop ?_ | with_reducible refine we_clear ?_ | with_reducible refine wt_B ?_ | with_reducible refine wt_not ?_ | with_reducible refine wt_and ?_ | with_reducible refine wt_or ?_)
local macro_rules | `(tactic| infer_instance) => `(tactic| first | with_reducible refine we_fldX ?_ | with_reducible refine we_cntT ?_ | with_reducible refine we_chain ?_ | with_reducible refine we_lenSet ?_ | with_reducible refine we_listR1 ?_ | with_reducible refine we_listR2 ?_ | with_reducible refine we_ext ?_ | with_reducible refine we_get1 ?_)
local macro_rules | `(tactic| infer_instance) => `(tactic| first | with_reducible refine we_make ?_ | with_reducible refine we_MU ?_ | with_reducible refine we_fld ?_ | with_reducible refine we_isi ?_ | with_reducible refine we_isC ?_ | with_reducible refine we_revW ?_ | with_reducible refine we_rep ?_ | with_reducible refine we_isX ?_)
local macro_rules | `(tactic| infer_instance) => `(tactic| first | with_reducible refine we_not ?_ | with_reducible refine we_tup ?_ | with_reducible refine we_lst ?_ | with_reducible refine we_newD ?_ | with_reducible refine we_callP ?_ | with_reducible refine we_callM ?_ | with_reducible refine we_callPv ?_ | with_reducible refine we_callMv ?_)
local macro_rules | `(tactic| infer_instance) => `(tactic| first | with_reducible refine we_d2 ?_ | with_reducible refine we_d1 ?_ | with_reducible refine we_L ?_ | with_reducible refine we_MS ?_ | with_reducible refine we_sl ?_ | with_reducible refine we_if ?_ | with_reducible refine we_and ?_ | with_reducible refine we_or ?_)
local macro_rules | `(tactic| infer_instance) => `(tactic| first | with_reducible refine wx_call ?_ | with_reducible refine wx_make ?_ | with_reducible refine tk_nx ?_ | with_reducible refine tk_rt ?_ | ((with_reducible apply we_val); exact rfl) | ((with_reducible apply we_own); exact rfl) | ((with_reducible apply we_lcV); exact rfl) | with_reducible refine we_c ?_)
local macro_rules | `(tactic| infer_instance) => `(tactic| first | with_reducible refine ws_asgX ?_ | with_reducible refine ws_retX ?_ | with_reducible refine ws_dropX ?_ | with_reducible refine ws_raise0 ?_ | with_reducible refine ws_raise ?_ | with_reducible refine ws_try ?_ | with_reducible refine wx_pure ?_ | with_reducible refine wx_if ?_)
local macro_rules | `(tactic| infer_instance) => `(tactic| first | with_reducible refine ws_next ?_ | with_reducible refine ws_cont ?_ | with_reducible refine ws_break ?_ | with_reducible refine ws_drop ?_ | with_reducible refine ws_store ?_ | with_reducible refine ws_setF ?_ | with_reducible refine ws_slst ?_ | with_reducible refine ws_asgNS ?_)
local macro_rules | `(tactic| infer_instance) => `(tactic| first | with_reducible refine fo_ct ?_ | with_reducible refine fo_bk ?_ | with_reducible refine fo_rt ?_ | with_reducible refine ws_if ?_ | with_reducible refine ws_asg ?_ | with_reducible refine ws_asgP ?_ | with_reducible refine ws_multi ?_ | with_reducible refine ws_ret ?_)
local macro_rules | `(tactic| infer_instance) => `(tactic| first | with_reducible refine ws_seq ?_ | with_reducible refine sq_xc ?_ | with_reducible refine fo_xc ?_ | with_reducible refine sq_nx ?_ | with_reducible refine sq_rt ?_ | with_reducible refine sq_ct ?_ | with_reducible refine sq_bk ?_ | with_reducible refine fo_nx ?_)
/-- eight fields in a row, or nine -/
structure Row8 (zs : List Str) (lead : Int) (j : Nat) (fs : List Fd) : Prop where
  len : fs.length = j
  nms : fs.map Fd.nm = (zs.drop 1).take j
  each : ∀ f ∈ fs, FdOk f
  apart : (takI fs).Nodup
  hi : ∀ c ∈ takI fs, c < lead + 6 * j
theorem Row8.snoc {zs : List Str} {lead : Int} {j : Nat} {fs : List Fd} (h : Row8 zs lead j fs) (N : Names 12 zs) (hj : j < 9) {z : Str} (hz : zs[1 + j]? = some z) {l : Int} (l1 : 1 ≤ l) (l6 : l ≤ 6) (d1 : 1 ≤ lead) (d6 : lead ≤ 6) : Row8 zs lead (j + 1) (fs ++ [⟨z, lead + 6 * j, l, true⟩]) := by
  have zm : z ∈ zs := List.mem_of_getElem? hz
  refine ⟨by rw [List.length_append, h.len]; rfl, ?_, fun f hf => ?_, ?_, fun c hc => ?_⟩
  · rw [List.map_append, h.nms, List.take_add_one, List.getElem?_drop, hz]
    rfl
  · rcases List.mem_append.mp hf with h1 | h1
    · exact h.each f h1
    · rw [List.mem_singleton.mp h1]
      exact ⟨N.ok z zm, l1, by show l ≤ 20; omega, by show 1 ≤ lead + 6 * (j : Int); omega, by show lead + 6 * (j : Int) + l ≤ 61; omega⟩
  · rw [takI_snoc]
    refine List.nodup_append.mpr ⟨h.apart, rngI_nodup _ _, fun x hx y hy e => ?_⟩
    have h1 := h.hi x hx
    have h2 := (mem_rngI.mp hy).1
    have h3 : lead + 6 * (j : Int) ≤ y := h2
    omega
  · rw [takI_snoc] at hc
    rcases List.mem_append.mp hc with h1 | h1
    · have := h.hi c h1
      omega
    · have h2 : c < lead + 6 * (j : Int) + l := (mem_rngI.mp h1).2
      omega
theorem Row8.parts {zs : List Str} {lead : Int} {over : Int} (ho : over = 0 ∨ over = 1) {fs : List Fd} (h : Row8 zs lead (8 + over).toNat fs) (N : Names 12 zs) {z : Str} (hz : nameOk z = true) : Pt (decide (over = 0)) (.str z) .non (.tup (fs.map fdD)) := by
  rcases ho with rfl | rfl
  · have l8 : fs.length = 8 := h.len
    refine are_parts_v z none fs ⟨hz, no_mark, by rw [l8]; exact Nat.le_refl _, h.each, ?_, h.apart⟩
    rw [h.nms]
    exact (N.nodup.sublist (List.drop_sublist _ _)).sublist (List.take_sublist _ _)
  · have l9 : fs.length = 9 := h.len
    exact parts_f hz none _ no_mark (fields_many .non fs (by omega) (by omega))
theorem zyx_ok : nameOk "zyxwvu" = true ∧ nameOk "zyxwvut" = false := by decide +kernel
theorem fdk {z : Str} (h : nameOk z = true) (a l : Int) (t : Bool) (q : (decide (1 ≤ l) && decide (l ≤ if t then 20 else 9) && (decide (1 ≤ a) && decide (a + l ≤ 61))) = true) : FdOk ⟨z, a, l, t⟩ := by
  simp only [Bool.and_eq_true, decide_eq_true_eq] at q
  exact ⟨h, q.1.1, q.1.2, q.2.1, q.2.2⟩
theorem mulT0 : dMulM (.str "t") (.int 0) = some (.val (.str "")) := by
  rw [show ("t" : Str) = mkS [116] by decide +kernel, mulS_M 116 (by decide) (by decide), show mkS (List.replicate (Int.toNat 0) 116) = "" by decide +kernel]
theorem mulT1 : dMulM (.str "t") (.int 1) = some (.val (.str "t")) := by
  rw [show ("t" : Str) = mkS [116] by decide +kernel, mulS_M 116 (by decide) (by decide), show List.replicate (Int.toNat 1) 116 = [116] from rfl]
theorem addZ0 : dAddX (.str "zyxwvu") (.str "") = some (.val (.str "zyxwvu")) := by
  rw [addX_str, if_pos (by rw [LIM_eq]; decide +kernel), show (("zyxwvu" : Str) ++ ("" : Str)) = "zyxwvu" by decide +kernel]
theorem addZ1 : dAddX (.str "zyxwvu") (.str "t") = some (.val (.str "zyxwvut")) := by
  rw [addX_str, if_pos (by rw [LIM_eq]; decide +kernel), show (("zyxwvu" : Str) ++ ("t" : Str)) = "zyxwvut" by decide +kernel]
theorem at_bound_ok {n : Nat} {o : Ob} (s : St n o) (hn : n < 600000) {way : Int} (w0 : 0 ≤ way) (w1 : way < 12) {over : Int} (ho : over = 0 ∨ over = 1) : FM df_law_at_bound o [.int way, .int over] fun r o' => ∃ nm mk fs, r = .val (.tup [nm, mk, fs]) ∧ Pt (decide (over = 0)) nm mk fs ∧ St (n + 40) o' := by
  refine fm_def rfl ?_
  unfold b_law_at_bound
  repeat infer_instance
  refine FM.mono (names_ok s (by omega) (m := 12) (by omega)) fun r o1 ⟨zs, hr, N, s1⟩ => ?_
  subst hr
  obtain ⟨z0, z1, z2, e0, e1, e2, k0, k1, k2, ne⟩ := three N
  have z1l := name_len k1
  have std : FdOk ⟨z1, 3, 4, true⟩ := (fdk k1 _ _ _ rfl)
  repeat infer_instance
  unfold bs_law_at_bound_2
  repeat infer_instance
  refine br_dec (fun h => ?_) (fun _ => ?_)
  · repeat infer_instance
    refine FM.mono (next_ok s1 (by omega) (by decide) (by decide)) fun r o2 ⟨ld, hr, d0, d1, s2⟩ => ?_
    subst hr
    repeat infer_instance
    refine we_lcS ?_
    repeat infer_instance
    refine and_of (okR_of (by omega) (by omega)) ?_
    repeat infer_instance
    have hlen : (rngD 0 (8 + over)).length = (8 + over).toNat := by rw [rngD_eq, List.length_map, rngI_len]; omega
    refine ⟨[0], fun j acc ss => ∃ o' fs, ss = [some (.own true o')] ∧ acc = fs.map fdD ∧ Row8 zs (1 + ld) j fs ∧ St (n + 10 + j) o', by rw [hlen]; exact le_LIM (by omega), ⟨[_], rfl, _, [], rfl, rfl, ⟨rfl, rfl, (fun f h => nomatch h), List.nodup_nil, (fun c h => nomatch h)⟩, s2.mono (by omega)⟩, fun j x a ss hx ⟨o', fs, hs, ha, h8, s'⟩ => ?_, fun a ss ⟨o', fs, hs, ha, h8, s'⟩ => ?_⟩
    · subst hs ha
      have hj : j < (8 + over).toNat := by rw [← hlen]; exact (List.getElem?_eq_some_iff.mp hx).1
      have hx' : x = .int j := by
        rw [rngD_eq, List.getElem?_map] at hx
        obtain ⟨k, hk, rfl⟩ := Option.map_eq_some_iff.mp hx
        unfold rngI at hk
        rw [List.getElem?_map] at hk
        obtain ⟨i, hi, rfl⟩ := Option.map_eq_some_iff.mp hk
        rw [(List.getElem?_eq_some_iff.mp hi).2.symm, List.getElem_range, Int.zero_add]
      subst hx'
      have l12 := N.len
      have hz : zs[1 + j]? = some (zs[1 + j]'(by omega)) := List.getElem?_eq_getElem _
      generalize zs[1 + j]'(by omega) = z at hz
      have eI : dIxA (.lst (zs.map D.str)) (.int (1 + (j : Int))) = some (.val (.str z)) := by
        have := ix_get (xs := zs.map D.str) (y := .str z) (1 + j) (by rw [List.getElem?_map, hz]; rfl)
        rw [show ((1 + j : Nat) : Int) = 1 + (j : Int) by omega] at this
        exact this
      have m6 : dMulM (.int 6) (.int (j : Int)) = some (.val (.int (6 * (j : Int)))) := mulM_s (by omega) (by omega)
      repeat infer_instance
      refine FM.mono (next_ok s' (by omega) (by decide) (by decide)) fun r o3 ⟨l, hr, l0, l1, s3⟩ => ?_
      subst hr
      repeat infer_instance
      refine ⟨[_], rfl, _, fs ++ [⟨z, 1 + ld + 6 * j, 1 + l, true⟩], rfl, ?_, h8.snoc N (by omega) hz (by omega) (by omega) (by omega) (by omega), s3.mono (by omega)⟩
      rw [List.map_append]
      rfl
    · subst hs ha
      rw [hlen] at h8 s'
      repeat infer_instance
      exact ⟨_, _, _, rfl, h8.parts ho N k0, s'.mono (by omega)⟩
  repeat infer_instance
  refine br_dec (fun h => ?_) (fun _ => ?_)
  · rcases ho with rfl | rfl
    · have m1 := mulT0
      have m2 := addZ0
      repeat infer_instance
      exact ⟨_, _, _, rfl, one_good zyx_ok.1 std none no_mark (fun c g e => nomatch e), s1.mono (by omega)⟩
    · have m1 := mulT1
      have m2 := addZ1
      repeat infer_instance
      exact ⟨_, _, _, rfl, parts_n (by decide +kernel) zyx_ok.2 _ _, s1.mono (by omega)⟩
  repeat infer_instance
  refine br_dec (fun h => ?_) (fun _ => ?_)
  · rcases ho with rfl | rfl
    · have m1 := mulT0
      have m2 := addZ0
      repeat infer_instance
      exact ⟨_, _, _, rfl, one_good k0 (f := ⟨"zyxwvu", 3, 4, true⟩) (fdk zyx_ok.1 _ _ _ rfl) none no_mark (fun c g e => nomatch e), s1.mono (by omega)⟩
    · have m1 := mulT1
      have m2 := addZ1
      repeat infer_instance
      exact ⟨_, _, _, rfl, one_bad k0 (f := ⟨"zyxwvut", 3, 4, true⟩) (by decide +kernel) (by decide +kernel), s1.mono (by omega)⟩
  repeat infer_instance
  refine br_dec (fun h => ?_) (fun _ => ?_)
  · repeat infer_instance
    refine FM.mono (next_ok s1 (by omega) (by decide) (by decide)) fun r o2 ⟨a, hr, a0, a1, s2⟩ => ?_
    subst hr
    repeat infer_instance
    refine ⟨_, _, _, rfl, ?_, s2.mono (by omega)⟩
    rcases ho with rfl | rfl
    · exact one_good k0 (f := ⟨z1, 1 + a, 20 + 0, true⟩) ⟨k1, (show (1 : Int) ≤ 20 + 0 by decide), (show (20 : Int) + 0 ≤ 20 by decide), by show 1 ≤ 1 + a; omega, by show 1 + a + (20 + 0) ≤ 61; omega⟩ none no_mark (fun c g e => nomatch e)
    · refine one_bad k0 (f := ⟨z1, 1 + a, 20 + 1, true⟩) z1l ?_
      unfold fdB
      rw [k1, show (decide ((20 : Int) + 1 ≤ if true = true then 20 else 9)) = false from rfl, Bool.and_false, Bool.and_false, Bool.false_and]
  repeat infer_instance
  refine br_dec (fun h => ?_) (fun _ => ?_)
  · repeat infer_instance
    refine FM.mono (next_ok s1 (by omega) (by decide) (by decide)) fun r o2 ⟨a, hr, a0, a1, s2⟩ => ?_
    subst hr
    repeat infer_instance
    refine ⟨_, _, _, rfl, ?_, s2.mono (by omega)⟩
    rcases ho with rfl | rfl
    · exact one_good k0 (f := ⟨z1, 1 + a, 9 + 0, false⟩) ⟨k1, (show (1 : Int) ≤ 9 + 0 by decide), (show (9 : Int) + 0 ≤ 9 by decide), by show 1 ≤ 1 + a; omega, by show 1 + a + (9 + 0) ≤ 61; omega⟩ none no_mark (fun c g e => nomatch e)
    · refine one_bad k0 (f := ⟨z1, 1 + a, 9 + 1, false⟩) z1l ?_
      unfold fdB
      rw [k1, show (decide ((9 : Int) + 1 ≤ if false = true then 20 else 9)) = false from rfl, Bool.and_false, Bool.and_false, Bool.false_and]
  repeat infer_instance
  refine br_dec (fun h => ?_) (fun _ => ?_)
  · repeat infer_instance
    refine FM.mono (next_ok s1 (by omega) (by decide) (by decide)) fun r o2 ⟨l, hr, l0, l1, s2⟩ => ?_
    subst hr
    repeat infer_instance
    refine FM.mono (pick_ok s2 (by omega) (xs := [.str "text", .str "number"]) (by simp) (by simp)) fun r o3 ⟨x, hr, hx, s3⟩ => ?_
    subst hr
    obtain ⟨tx, rfl⟩ := kinds_two hx
    repeat infer_instance
    refine ⟨_, _, _, rfl, ?_, s3.mono (by omega)⟩
    have k20 : ∀ i : Int, i ≤ 9 → i ≤ if tx = true then 20 else 9 := fun i h => by split <;> omega
    rcases ho with rfl | rfl
    · exact one_good k0 (f := ⟨z1, 61 - (1 + l) + 0, 1 + l, tx⟩) ⟨k1, by show 1 ≤ 1 + l; omega, k20 (1 + l) (by omega), by show 1 ≤ 61 - (1 + l) + 0; omega, by show 61 - (1 + l) + 0 + (1 + l) ≤ 61; omega⟩ none no_mark (fun c g e => nomatch e)
    · refine one_bad k0 (f := ⟨z1, 61 - (1 + l) + 1, 1 + l, tx⟩) z1l ?_
      unfold fdB
      rw [show decide (61 - (1 + l) + 1 ≤ 60 - (1 + l) + 1) = false from decide_eq_false (by omega), Bool.and_false, Bool.and_false]
  repeat infer_instance
  refine br_dec (fun h => ?_) (fun _ => ?_)
  · repeat infer_instance
    refine FM.mono (pick_ok s1 (by omega) (xs := [.int (60 + over), .int (1 - over)]) (by simp) (by simp)) fun r o2 ⟨x, hr, hx, s2⟩ => ?_
    subst hr
    have hc : ∃ c, x = .int c ∧ (c = 60 + over ∨ c = 1 - over) := by
      simp only [List.mem_cons, List.not_mem_nil, or_false] at hx
      rcases hx with rfl | rfl
      · exact ⟨_, rfl, .inl rfl⟩
      · exact ⟨_, rfl, .inr rfl⟩
    obtain ⟨c, rfl, hc⟩ := hc
    repeat infer_instance
    refine FM.mono (any_sign_ok s2 (by omega)) fun r o3 ⟨g, hr, hg, s3⟩ => ?_
    subst hr
    repeat infer_instance
    refine ⟨_, _, _, rfl, ?_, s3.mono (by omega)⟩
    rcases ho with rfl | rfl
    · refine marked_parts k0 std (by omega) (by omega) hg ?_
      show true = !(decide (3 ≤ c) && decide (c < 3 + 4))
      rcases hc with rfl | rfl <;> decide
    · refine parts_m k0 _ _ (mark_bad c _ (by rw [mk_len]; show 1 ≤ 10000; decide) ?_)
      rw [show (decide (1 ≤ c) && decide (c ≤ 60)) = false by rcases hc with rfl | rfl <;> decide]
      rfl
  repeat infer_instance
  refine br_dec (fun h => ?_) (fun _ => ?_)
  · rcases ho with rfl | rfl
    · repeat infer_instance
      refine FM.mono (pick_ok s1 (by omega) (xs := [.str " ", .str "~"]) (by simp) (by simp)) fun r o2 ⟨x, hr, hx, s2⟩ => ?_
      subst hr
      have hc : ∃ g, x = .str (mkS [g]) ∧ signOk g = true := by
        simp only [List.mem_cons, List.not_mem_nil, or_false] at hx
        rcases hx with rfl | rfl
        · exact ⟨32, congrArg D.str (by decide +kernel), by decide +kernel⟩
        · exact ⟨126, congrArg D.str (by decide +kernel), by decide +kernel⟩
      obtain ⟨g, rfl, hg⟩ := hc
      repeat infer_instance
      exact ⟨_, _, _, rfl, marked_parts k0 std (by decide) (by decide) hg rfl, s2.mono (by omega)⟩
    · repeat infer_instance
      refine FM.mono (pick_ok s1 (by omega) (xs := [.str "\n", .str "", .str "ab"]) (by simp) (by simp)) fun r o2 ⟨x, hr, hx, s2⟩ => ?_
      subst hr
      have hc : ∃ z : Str, x = .str z ∧ z.length ≤ 10000 ∧ (decide ((1 : Int) ≤ 60) && decide ((60 : Int) ≤ 60) && signsB z && decide ((z.length : Int) = 1)) = false := by
        simp only [List.mem_cons, List.not_mem_nil, or_false] at hx
        rcases hx with rfl | rfl | rfl
        · exact ⟨_, rfl, by decide +kernel, by decide +kernel⟩
        · exact ⟨_, rfl, by decide +kernel, by decide +kernel⟩
        · exact ⟨_, rfl, by decide +kernel, by decide +kernel⟩
      obtain ⟨z, rfl, hz, hb⟩ := hc
      repeat infer_instance
      exact ⟨_, _, _, rfl, parts_m k0 _ _ (mark_bad 60 z hz hb), s2.mono (by omega)⟩
  repeat infer_instance
  refine br_dec (fun h => ?_) (fun _ => ?_)
  · rcases ho with rfl | rfl
    · repeat infer_instance
      refine FM.mono (pick_ok s1 (by omega) (xs := [.int 1, .int (1 - 0)]) (by simp) (by simp)) fun r o2 ⟨x, hr, hx, s2⟩ => ?_
      subst hr
      have hc : x = .int 1 := by
        simp only [List.mem_cons, List.not_mem_nil, or_false] at hx
        rcases hx with rfl | rfl <;> rfl
      subst hc
      repeat infer_instance
      exact ⟨_, _, _, rfl, one_good k0 (f := ⟨z1, 1, 1, false⟩) (fdk k1 _ _ _ rfl) none no_mark (fun c g e => nomatch e), s2.mono (by omega)⟩
    · repeat infer_instance
      refine ⟨_, _, _, rfl, one_bad k0 (f := ⟨z1, 0, 1, false⟩) z1l ?_, s1.mono (by omega)⟩
      unfold fdB
      rw [k1]
      rfl
  repeat infer_instance
  refine br_dec (fun h => ?_) (fun _ => ?_)
  · rcases ho with rfl | rfl
    · repeat infer_instance
      exact ⟨_, _, _, rfl, one_good k0 (f := ⟨z1, 5, 1 - 0, true⟩) (fdk k1 _ _ _ rfl) none no_mark (fun c g e => nomatch e), s1.mono (by omega)⟩
    · repeat infer_instance
      refine ⟨_, _, _, rfl, one_bad k0 (f := ⟨z1, 5, 1 - 1, true⟩) z1l ?_, s1.mono (by omega)⟩
      unfold fdB
      rw [k1]
      rfl
  repeat infer_instance
  refine br_dec (fun h => ?_) (fun _ => ?_)
  · repeat infer_instance
    refine FM.mono (marked_ok s1 (by omega) N ho) fun r o2 ⟨nm, mk, fs, hr, p, s2⟩ => ?_
    subst hr
    repeat infer_instance
    exact ⟨_, _, _, rfl, p, s2.mono (by omega)⟩
  · repeat infer_instance
    refine FM.mono (two_ok s1 (by omega) N ho) fun r o2 ⟨f, g, hr, t, s2⟩ => ?_
    subst hr
    repeat infer_instance
    exact ⟨_, _, _, rfl, t.parts k0, s2.mono (by omega)⟩
end Law
namespace Law
open Sim
open PySem hiding Env
set_option maxHeartbeats 1000000
local macro_rules | `(tactic| infer_instance) => `(tactic| first | ((with_reducible apply rm_s); exact rfl; exact rfl) | ((with_reducible apply rm_o); exact rfl; exact rfl))
local macro_rules | `(tactic| infer_instance) => `(tactic| first | with_reducible refine lim_and (by decide) ?_ | ((with_reducible apply rmx_nx); exact rfl) | ((with_reducible apply rp_s); exact rfl) | ((with_reducible apply rp_o); exact rfl) | ((with_reducible apply rm_nx); exact rfl) | ((with_reducible apply rm_v); exact rfl) | ((with_reducible apply rx_s); exact rfl) | ((with_reducible apply rx_o); exact rfl))
local macro_rules | `(tactic| infer_instance) => `(tactic| first | ((with_reducible apply br_f); exact rfl) | with_reducible refine rp_nx ?_ | with_reducible refine rp_v ?_ | with_reducible refine rx_nx ?_ | with_reducible refine rx_v ?_ | with_reducible refine rx_x ?_ | with_reducible refine rmx_x ?_ | with_reducible refine wl ?_)
local macro_rules | `(tactic| infer_instance) => `(tactic| first | ((with_reducible apply wrs_n); ((try simp only [strX_str, dEq_int, dEq_str, dNe_int, dNe_str, dOrd, fLt, fLe, fGt, fGe, dSub, addX_int, dNeg, dLen, dIxA, dIx, sliceX_lst, revRs, dTuple, dListA, dAbs]); exact rfl)) | ((with_reducible apply wrs_t); ((try simp only [strX_str, dEq_int, dEq_str, dNe_int, dNe_str, dOrd, fLt, fLe, fGt, fGe, dSub, addX_int, dNeg, dLen, dIxA, dIx, sliceX_lst, revRs, dTuple, dListA, dAbs]); exact rfl)) | with_reducible refine wrv_v ?_ | with_reducible refine wrv_n ?_ | ((with_reducible apply wp); with_reducible assumption) | ((with_reducible apply wp); ((try simp only [List.set_cons_zero, List.set_cons_succ, List.take_succ_cons, List.take_zero, List.take_nil, List.length_cons, List.length_nil, List.cons_append, List.nil_append, List.map_cons, List.map_nil, List.replicate_succ, List.replicate_zero, List.getElem?_cons_zero, List.getElem?_cons_succ, wipesE, restore, sets, sqOf2, sqOf3, Ob.frz, bindP, bindPs, Option.bind_some, pin, puts, put, ownAt, storeO, Nat.reduceAdd, Nat.reduceSub, Nat.zero_add]); exact rfl)) | ((with_reducible apply wrb); ((try simp only [strX_str, dEq_int, dEq_str, dNe_int, dNe_str, dOrd, fLt, fLe, fGt, fGe, dSub, addX_int, dNeg, dLen, dIxA, dIx, sliceX_lst, revRs, dTuple, dListA, dAbs]); exact rfl)) | ((with_reducible apply br_t); exact rfl))
local macro_rules | `(tactic| infer_instance) => `(tactic| first | ((with_reducible apply wput_at); exact rfl; decide) | ((with_reducible apply wput_fr); exact rfl; decide) | ((with_reducible apply nr); ((try simp only [List.set_cons_zero, List.set_cons_succ, List.take_succ_cons, List.take_zero, List.take_nil, List.length_cons, List.length_nil, List.cons_append, List.nil_append, List.map_cons, List.map_nil, List.replicate_succ, List.replicate_zero, List.getElem?_cons_zero, List.getElem?_cons_succ, wipesE, restore, sets, sqOf2, sqOf3, Ob.frz, bindP, bindPs, Option.bind_some, pin, puts, put, ownAt, storeO, Nat.reduceAdd, Nat.reduceSub, Nat.zero_add]); exact rfl)) | ((with_reducible apply wrs_v); with_reducible assumption) | ((with_reducible apply wrs_n); with_reducible assumption) | ((with_reducible apply wrs_t); with_reducible assumption) | ((with_reducible apply wrb); with_reducible assumption) | ((with_reducible apply wrs_v); ((try simp only [strX_str, dEq_int, dEq_str, dNe_int, dNe_str, dOrd, fLt, fLe, fGt, fGe, dSub, addX_int, dNeg, dLen, dIxA, dIx, sliceX_lst, revRs, dTuple, dListA, dAbs]); exact rfl)))
local macro_rules | `(tactic| infer_instance) => `(tactic| first | ((with_reducible apply wfc_s); exact rfl) | ((with_reducible apply wfc_l); exact rfl) | ((with_reducible apply wfc_d); exact rfl) | ((with_reducible apply wfc_o); exact rfl) | with_reducible refine wfs_nil ?_ | with_reducible refine wfs_cons ?_ | with_reducible refine wput_v ?_ | ((with_reducible apply wput_s); exact rfl))
local macro_rules | `(tactic| infer_instance) => `(tactic| first | with_reducible refine wlk_v ?_ | ((with_reducible apply wlk_s); exact rfl) | ((with_reducible apply wlk_l); exact rfl) | ((with_reducible apply wlk_d); exact rfl) | ((with_reducible apply wlk_o); exact rfl) | with_reducible refine wls_nil ?_ | with_reducible refine wls_cons ?_ | with_reducible refine wfc_v ?_)
local macro_rules | `(tactic| infer_instance) => `(tactic| first | with_reducible refine wi_enumX ?_ | with_reducible refine wi_r1 ?_ | with_reducible refine wi_r2 ?_ | with_reducible refine wi_r3 ?_ | with_reducible refine wi_zip ?_ | with_reducible refine wi_zipW ?_ | with_reducible refine wi_zipM ?_ | with_reducible refine wi_keys ?_)
local macro_rules | `(tactic| infer_instance) => `(tactic| first | with_reducible refine wt_yes ?_ | with_reducible refine wa_nil ?_ | with_reducible refine wa_cons ?_ | with_reducible refine wa_star ?_ | with_reducible refine wo_none ?_ | with_reducible refine wo_some ?_ | with_reducible refine wi_seqS ?_ | with_reducible refine wi_enum ?_)
local macro_rules | `(tactic| infer_instance) => `(tactic| first | with_reducible refine we_inG ?_ | with_reducible refine we_ixG ?_ | with_reducible refine we_dpop ?_ | with_reducible refine we_clear ?_ | with_reducible refine wt_B ?_ | with_reducible refine wt_not ?_ | with_reducible refine wt_and ?_ | with_reducible refine wt_or ?_)
local macro_rules | `(tactic| infer_instance) => `(tactic| first | with_reducible refine we_fldX ?_ | with_reducible refine we_cntT ?_ | with_reducible refine we_chain ?_ | with_reducible refine we_lenSet ?_ | with_reducible refine we_listR1 ?_ | with_reducible refine we_listR2 ?_ | with_reducible refine we_ext ?_ | with_reducible refine we_get1 ?_)
local macro_rules | `(tactic| infer_instance) => `(tactic| first | with_reducible refine we_make ?_ | with_reducible refine we_MU ?_ | with_reducible refine we_fld ?_ | with_reducible refine we_isi ?_ | with_reducible refine we_isC ?_ | with_reducible refine we_revW ?_ | with_reducible refine we_rep ?_ | with_reducible refine we_isX ?_)
local macro_rules | `(tactic| infer_instance) => `(tactic| first | with_reducible refine we_not ?_ | with_reducible refine we_tup ?_ | with_reducible refine we_lst ?_ | with_reducible refine we_newD ?_ | with_reducible refine we_callP ?_ | with_reducible refine we_callM ?_ | with_reducible refine we_callPv ?_ | with_reducible refine we_callMv ?_)
local macro_rules | `(tactic| infer_instance) => `(tactic| first | with_reducible refine we_d2 ?_ | with_reducible refine we_d1 ?_ | with_reducible refine we_L ?_ | with_reducible refine we_MS ?_ | with_reducible refine we_sl ?_ | with_reducible refine we_if ?_ | with_reducible refine we_and ?_ | with_reducible refine we_or ?_)
local macro_rules | `(tactic| infer_instance) => `(tactic| first | with_reducible refine wx_call ?_ | with_reducible refine wx_make ?_ | with_reducible refine tk_nx ?_ | with_reducible refine tk_rt ?_ | ((with_reducible apply we_val); exact rfl) | ((with_reducible apply we_own); exact rfl) | ((with_reducible apply we_lcV); exact rfl) | with_reducible refine we_c ?_)
local macro_rules | `(tactic| infer_instance) => `(tactic| first | with_reducible refine ws_asgX ?_ | with_reducible refine ws_retX ?_ | with_reducible refine ws_dropX ?_ | with_reducible refine ws_raise0 ?_ | with_reducible refine ws_raise ?_ | with_reducible refine ws_try ?_ | with_reducible refine wx_pure ?_ | with_reducible refine wx_if ?_)
local macro_rules | `(tactic| infer_instance) => `(tactic| first | with_reducible refine ws_next ?_ | with_reducible refine ws_cont ?_ | with_reducible refine ws_break ?_ | with_reducible refine ws_drop ?_ | with_reducible refine ws_store ?_ | with_reducible refine ws_setF ?_ | with_reducible refine ws_slst ?_ | with_reducible refine ws_asgNS ?_)
local macro_rules | `(tactic| infer_instance) => `(tactic| first | with_reducible refine fo_ct ?_ | with_reducible refine fo_bk ?_ | with_reducible refine fo_rt ?_ | with_reducible refine ws_if ?_ | with_reducible refine ws_asg ?_ | with_reducible refine ws_asgP ?_ | with_reducible refine ws_multi ?_ | with_reducible refine ws_ret ?_)
local macro_rules | `(tactic| infer_instance) => `(tactic| first | with_reducible refine ws_seq ?_ | with_reducible refine sq_xc ?_ | with_reducible refine fo_xc ?_ | with_reducible refine sq_nx ?_ | with_reducible refine sq_rt ?_ | with_reducible refine sq_ct ?_ | with_reducible refine sq_bk ?_ | with_reducible refine fo_nx ?_)
theorem FPE {df : DFp} {ds : List D} {d : D} (h : df ds = some (.val d)) : FP df ds fun r => r = .val d := ⟨_, h, rfl⟩
theorem right_ok (c : Int) (k : Nat) (hk : k < 1000) : FP df_law_right [.int c, .int k] fun r => r = .val (.bl true) := by
  refine fp_def rfl ?_
  unfold b_law_right
  repeat infer_instance
  refine FP.mono (begun_ok c k hk) fun r ⟨o, hr, s⟩ => ?_
  subst hr
  repeat infer_instance
  refine FM.mono (next_ok s (by omega) (by decide) (by decide)) fun r o1 ⟨way, hr, w0, w1, s1⟩ => ?_
  subst hr
  repeat infer_instance
  refine FM.mono (next_ok s1 (by omega) (by decide) (by decide)) fun r o2 ⟨over, hr, v0, v1, s2⟩ => ?_
  subst hr
  have ho : over = 0 ∨ over = 1 := by omega
  repeat infer_instance
  refine FM.mono (at_bound_ok s2 (by omega) w0 w1 ho) fun r o3 ⟨nm, mk, fs, hr, p, s3⟩ => ?_
  subst hr
  repeat infer_instance
  refine FP.mono (refused_ok p) fun r hr => ?_
  subst hr
  rcases ho with rfl | rfl
  · repeat infer_instance
    refine FP.mono (FPE (like_same 7 .non trivial)) fun r hr => ?_
    subst hr
    repeat infer_instance
    rfl
  · repeat infer_instance
    refine FP.mono (FPE (like_same 7 (.str "NoShape") trivial)) fun r hr => ?_
    subst hr
    repeat infer_instance
    rfl
theorem math (ns : List Int) (h : ns.length ≤ 63) : df_law [.lst (ns.map D.int)] = some (.val (.bl true)) := by
  refine fp_val ?_
  refine fp_def rfl ?_
  unfold b_law
  repeat infer_instance
  refine ws_forS ?_
  repeat infer_instance
  have e1 : dAddX (.lst (ns.map D.int)) (.lst [.int 3]) = some (.new (.lst ((ns ++ [3]).map D.int))) := by
    rw [addX_lst, if_pos (by rw [List.length_map]; exact le_LIM (by show ns.length + 1 ≤ _; omega)), List.map_append]
    rfl
  refine wrs_n e1 ?_
  repeat infer_instance
  generalize (if (if ((List.map D.int ns).length : Int) < 40 then ((List.map D.int ns).length : Int) else 40) > 1 then (if ((List.map D.int ns).length : Int) < 40 then ((List.map D.int ns).length : Int) else 40) else 1) = b
  rw [cutD_map]
  refine ⟨[1, 2], fun _ ss => ∃ a b, ss = [a, b], ⟨[none, none], rfl, _, _, rfl⟩, fun j x ss hx ⟨a, c, hs⟩ => ?_, fun ss ⟨a, c, hs⟩ => ?_⟩
  · subst hs
    rw [enumD_get, Nat.zero_add, List.getElem?_map] at hx
    obtain ⟨y, hy, rfl⟩ := Option.map_eq_some_iff.mp hx
    obtain ⟨c, hc, rfl⟩ := Option.map_eq_some_iff.mp hy
    have lj := (List.getElem?_eq_some_iff.mp hc).1
    have lc := cut_len (ns ++ [3]) none (some b)
    rw [List.length_append] at lc
    have l3 : ([3] : List Int).length = 1 := rfl
    unfold bl_law_1
    repeat infer_instance
    have rk := right_ok c j (by omega)
    refine FP.mono rk fun r hr => ?_
    subst hr
    repeat infer_instance
    exact ⟨[_, _], rfl, _, _, rfl⟩
  subst hs
  repeat infer_instance
  rfl
end Law
namespace Law
open PySem PySem.Spec PyProof.Rows L2 Sim
set_option maxHeartbeats 1000000
theorem all_mk {l : PySem.W.OpenLaw} {w : World} {K : PySem.W.Frag} {h : Heap} {mg : Str → Option Value} {fa C_Shape C_RoundError C_NoShape C_NoSource C_NoRecord C_NoOrder C_NoProgram C_NoText C_NoEven C_TooLong : Addr} (X : K.In h) (G : h.Ns mainGlobals mg) (hfa : mg "law" = some (.ref fa))
    (z_ValueError : PySem.W.nsIn K mainGlobals "ValueError" = some none)
    (z_all : PySem.W.nsIn K mainGlobals "all" = some none)
    (z_bool : PySem.W.nsIn K mainGlobals "bool" = some none)
    (z_dict : PySem.W.nsIn K mainGlobals "dict" = some none)
    (z_enumerate : PySem.W.nsIn K mainGlobals "enumerate" = some none)
    (z_int : PySem.W.nsIn K mainGlobals "int" = some none)
    (z_isinstance : PySem.W.nsIn K mainGlobals "isinstance" = some none)
    (z_len : PySem.W.nsIn K mainGlobals "len" = some none)
    (z_list : PySem.W.nsIn K mainGlobals "list" = some none)
    (z_max : PySem.W.nsIn K mainGlobals "max" = some none)
    (z_min : PySem.W.nsIn K mainGlobals "min" = some none)
    (z_range : PySem.W.nsIn K mainGlobals "range" = some none)
    (z_set : PySem.W.nsIn K mainGlobals "set" = some none)
    (z_str : PySem.W.nsIn K mainGlobals "str" = some none)
    (z_tuple : PySem.W.nsIn K mainGlobals "tuple" = some none)
    (i_LONGEST_FIELD : GDict w K mg "LONGEST_FIELD" c_LONGEST_FIELD)
    (i_LONGEST_NAME : ∃ t, PySem.W.nsIn K mainGlobals "LONGEST_NAME" = some (some (.int (6) t)))
    (i_MOST_FIELDS : ∃ t, PySem.W.nsIn K mainGlobals "MOST_FIELDS" = some (some (.int (8) t)))
    (i_WIDTH : ∃ t, PySem.W.nsIn K mainGlobals "WIDTH" = some (some (.int (60) t)))
    (k_Shape : TopCls K "Shape" C_Shape)
    (n_Shape_name : PySem.W.findIn K (.ref C_Shape) "name" = some none)
    (n_Shape_mark : PySem.W.findIn K (.ref C_Shape) "mark" = some none)
    (n_Shape_fields : PySem.W.findIn K (.ref C_Shape) "fields" = some none)
    (m_Shape : MetDef K C_Shape "__init__" "Shape.__init__" s_Shape_initX)
    (o_RoundError : PySem.W.nsIn K mainGlobals "RoundError" = some (some (.ref C_RoundError)))
    (o_NoShape : PySem.W.nsIn K mainGlobals "NoShape" = some (some (.ref C_NoShape)))
    (o_NoSource : PySem.W.nsIn K mainGlobals "NoSource" = some (some (.ref C_NoSource)))
    (o_NoRecord : PySem.W.nsIn K mainGlobals "NoRecord" = some (some (.ref C_NoRecord)))
    (o_NoOrder : PySem.W.nsIn K mainGlobals "NoOrder" = some (some (.ref C_NoOrder)))
    (o_NoProgram : PySem.W.nsIn K mainGlobals "NoProgram" = some (some (.ref C_NoProgram)))
    (o_NoText : PySem.W.nsIn K mainGlobals "NoText" = some (some (.ref C_NoText)))
    (o_NoEven : PySem.W.nsIn K mainGlobals "NoEven" = some (some (.ref C_NoEven)))
    (o_TooLong : PySem.W.nsIn K mainGlobals "TooLong" = some (some (.ref C_TooLong)))
    (f_NoShape : ExcC K C_NoShape)
    (ex_NoShape_RoundError : PySem.W.exmOne K (.ref C_NoShape) (.ref C_RoundError) = some true)
    (kt_NoShape_NoEven : PySem.W.kitOne K (.ref C_NoShape) (.ref C_NoEven) = some false)
    (kn_NoEven : PySem.W.kitOne K (.type "NoneType") (.ref C_NoEven) = some false)
    (kt_NoShape_NoOrder : PySem.W.kitOne K (.ref C_NoShape) (.ref C_NoOrder) = some false)
    (kn_NoOrder : PySem.W.kitOne K (.type "NoneType") (.ref C_NoOrder) = some false)
    (kt_NoShape_NoProgram : PySem.W.kitOne K (.ref C_NoShape) (.ref C_NoProgram) = some false)
    (kn_NoProgram : PySem.W.kitOne K (.type "NoneType") (.ref C_NoProgram) = some false)
    (kt_NoShape_NoRecord : PySem.W.kitOne K (.ref C_NoShape) (.ref C_NoRecord) = some false)
    (kn_NoRecord : PySem.W.kitOne K (.type "NoneType") (.ref C_NoRecord) = some false)
    (kt_NoShape_NoShape : PySem.W.kitOne K (.ref C_NoShape) (.ref C_NoShape) = some true)
    (kn_NoShape : PySem.W.kitOne K (.type "NoneType") (.ref C_NoShape) = some false)
    (kt_NoShape_NoSource : PySem.W.kitOne K (.ref C_NoShape) (.ref C_NoSource) = some false)
    (kn_NoSource : PySem.W.kitOne K (.type "NoneType") (.ref C_NoSource) = some false)
    (kt_NoShape_NoText : PySem.W.kitOne K (.ref C_NoShape) (.ref C_NoText) = some false)
    (kn_NoText : PySem.W.kitOne K (.type "NoneType") (.ref C_NoText) = some false)
    (kt_NoShape_RoundError : PySem.W.kitOne K (.ref C_NoShape) (.ref C_RoundError) = some true)
    (kn_RoundError : PySem.W.kitOne K (.type "NoneType") (.ref C_RoundError) = some false)
    (kt_NoShape_TooLong : PySem.W.kitOne K (.ref C_NoShape) (.ref C_TooLong) = some false)
    (kn_TooLong : PySem.W.kitOne K (.type "NoneType") (.ref C_TooLong) = some false)
    (kt_NoShape_ValueError : PySem.W.kitOne K (.ref C_NoShape) (.type "ValueError") = some true)
    (kn_ValueError : PySem.W.kitOne K (.type "NoneType") (.type "ValueError") = some false)
    (p0_NoShape : PySem.W.excIn K C_NoShape bmVE "ValueError.__new__" = true)
    (p1_NoShape : PySem.W.keepIn K (.ref C_NoShape) = true)
    (p2_NoShape : PySem.W.subIn K (.ref C_NoShape) (.type "BaseException") = some true)
    (p3_NoShape : PySem.W.typeIn K (.ref C_NoShape) = some (.type "type"))
    (t_is_name : TopDef K "is_name" s_is_name)
    (t_is_signs : TopDef K "is_signs" s_is_signs)
    (t_is_number : TopDef K "is_number" s_is_number)
    (t_is_number_from : TopDef K "is_number_from" s_is_number_from)
    (t_is_mark : TopDef K "is_mark" s_is_mark)
    (t_is_field : TopDef K "is_field" s_is_field)
    (t_are_unlike : TopDef K "are_unlike" s_are_unlike)
    (t_taken_columns : TopDef K "taken_columns" s_taken_columns)
    (t_are_fields : TopDef K "are_fields" s_are_fields)
    (t_are_parts : TopDef K "are_parts" s_are_parts)
    (t_law_begun : TopDef K "_law_begun" s_law_begun)
    (t_law_next : TopDef K "_law_next" s_law_next)
    (t_law_pick : TopDef K "_law_pick" s_law_pick)
    (t_law_names : TopDef K "_law_names" s_law_names)
    (t_law_any_sign : TopDef K "_law_any_sign" s_law_any_sign)
    (t_law_alone : TopDef K "_law_alone" s_law_alone)
    (t_law_like : TopDef K "_law_like" s_law_like)
    (t_law_two : TopDef K "_law_two" s_law_two)
    (t_law_marked : TopDef K "_law_marked" s_law_marked)
    (t_law_at_bound : TopDef K "_law_at_bound" s_law_at_bound)
    (t_law_refused : TopDef K "_law_refused" s_law_refused)
    (t_law_right : TopDef K "_law_right" s_law_right)
    (t_law : TopDef K "law" s_law)
    (math : ∀ ns : List Int, ns.length ≤ 63 → df_law [.lst (ns.map D.int)] = some (.val (.bl true))) :
    ∃ fd : FuncData, (∀ (s : Shared) (v : Value), BindsTo s fd ⟨[v], []⟩ [("_law_script", v)]) ∧ ∀ base : Heap, K.In base → base.Ns mainGlobals mg → FnOk l.prog w K mg base CX0 11 fa fd ["_law_script"] (spLaw K) := by
  have hins : InsFs ⟨K, mg, CT⟩ [0] := by
    intro c hc
    by_cases h0 : c = 0
    · subst h0; exact ⟨C_Shape, PySem.W.mg_of X G k_Shape.at_, k_Shape.isf⟩
    simp only [List.contains_cons, List.contains_nil, Bool.or_false, Bool.or_eq_true, beq_iff_eq] at hc
    omega
  have T : Txt w K mg := {
    b_ValueError := PySem.W.mg_none_of X G z_ValueError,
    b_all := PySem.W.mg_none_of X G z_all,
    b_bool := PySem.W.mg_none_of X G z_bool,
    b_dict := PySem.W.mg_none_of X G z_dict,
    b_enumerate := PySem.W.mg_none_of X G z_enumerate,
    b_int := PySem.W.mg_none_of X G z_int,
    b_isinstance := PySem.W.mg_none_of X G z_isinstance,
    b_len := PySem.W.mg_none_of X G z_len,
    b_list := PySem.W.mg_none_of X G z_list,
    b_max := PySem.W.mg_none_of X G z_max,
    b_min := PySem.W.mg_none_of X G z_min,
    b_range := PySem.W.mg_none_of X G z_range,
    b_set := PySem.W.mg_none_of X G z_set,
    b_str := PySem.W.mg_none_of X G z_str,
    b_tuple := PySem.W.mg_none_of X G z_tuple,
    c_LONGEST_FIELD := i_LONGEST_FIELD,
    c_LONGEST_NAME := let ⟨t, e⟩ := i_LONGEST_NAME; ⟨t, PySem.W.mg_of X G e⟩,
    c_MOST_FIELDS := let ⟨t, e⟩ := i_MOST_FIELDS; ⟨t, PySem.W.mg_of X G e⟩,
    c_WIDTH := let ⟨t, e⟩ := i_WIDTH; ⟨t, PySem.W.mg_of X G e⟩,
    a_Shape_name := attrF k_Shape X G rfl rfl n_Shape_name,
    a_Shape_mark := attrF k_Shape X G rfl rfl n_Shape_mark,
    a_Shape_fields := attrF k_Shape X G rfl rfl n_Shape_fields,
    ins := hins,
    xc_RoundError := ⟨C_RoundError, PySem.W.mg_of X G o_RoundError, by intro c hc; by_cases h2 : c = 2; (subst h2; intro C hC; have := (PySem.W.mg_of X G o_NoShape).symm.trans hC; cases this; exact ex_NoShape_RoundError); simp only [List.contains_cons, List.contains_nil, Bool.or_false, Bool.or_eq_true, beq_iff_eq] at hc; omega⟩,
    xi_NoEven := ⟨C_NoEven, PySem.W.mg_of X G o_NoEven, ⟨by intro c hc; by_cases h2 : c = 2; (subst h2; exact ⟨C_NoShape, PySem.W.mg_of X G o_NoShape, f_NoShape, kt_NoShape_NoEven⟩); simp only [List.contains_cons, List.contains_nil, Bool.or_false, Bool.or_eq_true, beq_iff_eq] at hc; omega, kn_NoEven⟩⟩,
    xi_NoOrder := ⟨C_NoOrder, PySem.W.mg_of X G o_NoOrder, ⟨by intro c hc; by_cases h2 : c = 2; (subst h2; exact ⟨C_NoShape, PySem.W.mg_of X G o_NoShape, f_NoShape, kt_NoShape_NoOrder⟩); simp only [List.contains_cons, List.contains_nil, Bool.or_false, Bool.or_eq_true, beq_iff_eq] at hc; omega, kn_NoOrder⟩⟩,
    xi_NoProgram := ⟨C_NoProgram, PySem.W.mg_of X G o_NoProgram, ⟨by intro c hc; by_cases h2 : c = 2; (subst h2; exact ⟨C_NoShape, PySem.W.mg_of X G o_NoShape, f_NoShape, kt_NoShape_NoProgram⟩); simp only [List.contains_cons, List.contains_nil, Bool.or_false, Bool.or_eq_true, beq_iff_eq] at hc; omega, kn_NoProgram⟩⟩,
    xi_NoRecord := ⟨C_NoRecord, PySem.W.mg_of X G o_NoRecord, ⟨by intro c hc; by_cases h2 : c = 2; (subst h2; exact ⟨C_NoShape, PySem.W.mg_of X G o_NoShape, f_NoShape, kt_NoShape_NoRecord⟩); simp only [List.contains_cons, List.contains_nil, Bool.or_false, Bool.or_eq_true, beq_iff_eq] at hc; omega, kn_NoRecord⟩⟩,
    xi_NoShape := ⟨C_NoShape, PySem.W.mg_of X G o_NoShape, ⟨by intro c hc; by_cases h2 : c = 2; (subst h2; exact ⟨C_NoShape, PySem.W.mg_of X G o_NoShape, f_NoShape, kt_NoShape_NoShape⟩); simp only [List.contains_cons, List.contains_nil, Bool.or_false, Bool.or_eq_true, beq_iff_eq] at hc; omega, kn_NoShape⟩⟩,
    xi_NoSource := ⟨C_NoSource, PySem.W.mg_of X G o_NoSource, ⟨by intro c hc; by_cases h2 : c = 2; (subst h2; exact ⟨C_NoShape, PySem.W.mg_of X G o_NoShape, f_NoShape, kt_NoShape_NoSource⟩); simp only [List.contains_cons, List.contains_nil, Bool.or_false, Bool.or_eq_true, beq_iff_eq] at hc; omega, kn_NoSource⟩⟩,
    xi_NoText := ⟨C_NoText, PySem.W.mg_of X G o_NoText, ⟨by intro c hc; by_cases h2 : c = 2; (subst h2; exact ⟨C_NoShape, PySem.W.mg_of X G o_NoShape, f_NoShape, kt_NoShape_NoText⟩); simp only [List.contains_cons, List.contains_nil, Bool.or_false, Bool.or_eq_true, beq_iff_eq] at hc; omega, kn_NoText⟩⟩,
    xi_RoundError := ⟨C_RoundError, PySem.W.mg_of X G o_RoundError, ⟨by intro c hc; by_cases h2 : c = 2; (subst h2; exact ⟨C_NoShape, PySem.W.mg_of X G o_NoShape, f_NoShape, kt_NoShape_RoundError⟩); simp only [List.contains_cons, List.contains_nil, Bool.or_false, Bool.or_eq_true, beq_iff_eq] at hc; omega, kn_RoundError⟩⟩,
    xi_TooLong := ⟨C_TooLong, PySem.W.mg_of X G o_TooLong, ⟨by intro c hc; by_cases h2 : c = 2; (subst h2; exact ⟨C_NoShape, PySem.W.mg_of X G o_NoShape, f_NoShape, kt_NoShape_TooLong⟩); simp only [List.contains_cons, List.contains_nil, Bool.or_false, Bool.or_eq_true, beq_iff_eq] at hc; omega, kn_TooLong⟩⟩,
    xb_ValueError := ⟨by intro c hc; by_cases h2 : c = 2; (subst h2; exact ⟨C_NoShape, PySem.W.mg_of X G o_NoShape, f_NoShape, kt_NoShape_ValueError⟩); simp only [List.contains_cons, List.contains_nil, Bool.or_false, Bool.or_eq_true, beq_iff_eq] at hc; omega, kn_ValueError⟩,
    x0_NoShape := ⟨C_NoShape, PySem.W.mg_of X G o_NoShape, rfl, p1_NoShape, p0_NoShape, p2_NoShape, p3_NoShape⟩ }
  refine law_of (CT := CT) t_law X G hfa math (fun _ _ _ _ _ _ _ _ _ => .of_eq rfl) (fun base X' G' => ?_)
  have C_law_next : CalM CT l.prog w K mg base 1 "_law_next" df_law_next := CalM.of t_law_next X G (fun f fd F => ok_law_next T  F) (fun _ _ F => F.binds (ps := ["_law_draw", "_law_size"]) fun _ _ _ _ _ _ us hl => match us, hl with | [_, _], _ => rfl)
  have C_law_pick : CalM CT l.prog w K mg base 2 "_law_pick" df_law_pick := CalM.of t_law_pick X G (fun f fd F => ok_law_pick T C_law_next F) (fun _ _ F => F.binds (ps := ["_law_draw", "_law_some"]) fun _ _ _ _ _ _ us hl => match us, hl with | [_, _], _ => rfl)
  have C_law_any_sign : CalM CT l.prog w K mg base 3 "_law_any_sign" df_law_any_sign := CalM.of t_law_any_sign X G (fun f fd F => ok_law_any_sign T C_law_pick F) (fun _ _ F => F.binds (ps := ["_law_draw"]) fun _ _ _ _ _ _ us hl => match us, hl with | [_], _ => rfl)
  have C_law_marked : CalM CT l.prog w K mg base 4 "_law_marked" df_law_marked := CalM.of t_law_marked X G (fun f fd F => ok_law_marked T C_law_any_sign C_law_next C_law_pick F) (fun _ _ F => F.binds (ps := ["_law_draw", "_law_names_here", "_law_over"]) fun _ _ _ _ _ _ us hl => match us, hl with | [_, _, _], _ => rfl)
  have C_law_names : CalM CT l.prog w K mg base 2 "_law_names" df_law_names := CalM.of t_law_names X G (fun f fd F => ok_law_names T C_law_next F) (fun _ _ F => F.binds (ps := ["_law_draw", "_law_many"]) fun _ _ _ _ _ _ us hl => match us, hl with | [_, _], _ => rfl)
  have C_law_two : CalM CT l.prog w K mg base 3 "_law_two" df_law_two := CalM.of t_law_two X G (fun f fd F => ok_law_two T C_law_next C_law_pick F) (fun _ _ F => F.binds (ps := ["_law_draw", "_law_names_here", "_law_over"]) fun _ _ _ _ _ _ us hl => match us, hl with | [_, _, _], _ => rfl)
  have C_law_at_bound : CalM CT l.prog w K mg base 5 "_law_at_bound" df_law_at_bound := CalM.of t_law_at_bound X G (fun f fd F => ok_law_at_bound T C_law_any_sign C_law_marked C_law_names C_law_next C_law_pick C_law_two F) (fun _ _ F => F.binds (ps := ["_law_draw", "_law_way", "_law_over"]) fun _ _ _ _ _ _ us hl => match us, hl with | [_, _, _], _ => rfl)
  have C_law_begun : CalP CT l.prog w K mg base 1 "_law_begun" df_law_begun := CalP.of t_law_begun X G (fun f fd F => ok_law_begun T  F) (fun _ _ F => F.binds (ps := ["_law_cell", "_law_k"]) fun _ _ _ _ _ _ us hl => match us, hl with | [_, _], _ => rfl)
  have R_law_like : ∀ n, CalP CT l.prog w K mg base (n + 1) "_law_like" (df_law_like n) := by
    intro n
    induction n with
    | zero => exact CalP.none t_law_like X G (fun _ _ F => F.binds (ps := ["_law_found", "_law_due"]) fun _ _ _ _ _ _ us hl => match us, hl with | [_, _], _ => rfl)
    | succ n ih => exact CalP.of t_law_like X G (fun f fd F => ok_law_like T ih F) (fun _ _ F => F.binds (ps := ["_law_found", "_law_due"]) fun _ _ _ _ _ _ us hl => match us, hl with | [_, _], _ => rfl)
  have C_law_like := R_law_like 8
  have C_law_alone : CalP CT l.prog w K mg base 1 "_law_alone" df_law_alone := CalP.of t_law_alone X G (fun f fd F => ok_law_alone T  F) (fun _ _ F => F.binds (ps := ["_law_e"]) fun _ _ _ _ _ _ us hl => match us, hl with | [_], _ => rfl)
  have C_are_unlike : CalP CT l.prog w K mg base 1 "are_unlike" df_are_unlike := CalP.of t_are_unlike X G (fun f fd F => ok_are_unlike T  F) (fun _ _ F => F.binds (ps := ["things"]) fun _ _ _ _ _ _ us hl => match us, hl with | [_], _ => rfl)
  have C_is_name : CalP CT l.prog w K mg base 1 "is_name" df_is_name := CalP.of t_is_name X G (fun f fd F => ok_is_name T  F) (fun _ _ F => F.binds (ps := ["thing"]) fun _ _ _ _ _ _ us hl => match us, hl with | [_], _ => rfl)
  have C_is_number : CalP CT l.prog w K mg base 1 "is_number" df_is_number := CalP.of t_is_number X G (fun f fd F => ok_is_number T  F) (fun _ _ F => F.binds (ps := ["thing"]) fun _ _ _ _ _ _ us hl => match us, hl with | [_], _ => rfl)
  have C_is_number_from : CalP CT l.prog w K mg base 2 "is_number_from" df_is_number_from := CalP.of t_is_number_from X G (fun f fd F => ok_is_number_from T C_is_number F) (fun _ _ F => F.binds (ps := ["thing", "least", "most"]) fun _ _ _ _ _ _ us hl => match us, hl with | [_, _, _], _ => rfl)
  have C_is_field : CalP CT l.prog w K mg base 3 "is_field" df_is_field := CalP.of t_is_field X G (fun f fd F => ok_is_field T C_is_name C_is_number_from F) (fun _ _ F => F.binds (ps := ["thing"]) fun _ _ _ _ _ _ us hl => match us, hl with | [_], _ => rfl)
  have C_taken_columns : CalP CT l.prog w K mg base 1 "taken_columns" df_taken_columns := CalP.of t_taken_columns X G (fun f fd F => ok_taken_columns T  F) (fun _ _ F => F.binds (ps := ["mark", "fields"]) fun _ _ _ _ _ _ us hl => match us, hl with | [_, _], _ => rfl)
  have C_are_fields : CalP CT l.prog w K mg base 4 "are_fields" df_are_fields := CalP.of t_are_fields X G (fun f fd F => ok_are_fields T C_are_unlike C_is_field C_taken_columns F) (fun _ _ F => F.binds (ps := ["things", "mark"]) fun _ _ _ _ _ _ us hl => match us, hl with | [_, _], _ => rfl)
  have C_is_signs : CalP CT l.prog w K mg base 1 "is_signs" df_is_signs := CalP.of t_is_signs X G (fun f fd F => ok_is_signs T  F) (fun _ _ F => F.binds (ps := ["thing"]) fun _ _ _ _ _ _ us hl => match us, hl with | [_], _ => rfl)
  have C_is_mark : CalP CT l.prog w K mg base 3 "is_mark" df_is_mark := CalP.of t_is_mark X G (fun f fd F => ok_is_mark T C_is_number_from C_is_signs F) (fun _ _ F => F.binds (ps := ["thing"]) fun _ _ _ _ _ _ us hl => match us, hl with | [_], _ => rfl)
  have C_are_parts : CalP CT l.prog w K mg base 5 "are_parts" df_are_parts := CalP.of t_are_parts X G (fun f fd F => ok_are_parts T C_are_fields C_is_mark C_is_name F) (fun _ _ F => F.binds (ps := ["name", "mark", "fields"]) fun _ _ _ _ _ _ us hl => match us, hl with | [_, _, _], _ => rfl)
  have C_mx_Shape : MakX CT l.prog w K mg base 6 "Shape" 0 df_Shape_initX := MakX.of k_Shape m_Shape X G rfl (fun f fd F => ok_Shape_initX T C_are_parts F) (fun _ _ F => F.binds (ps := ["self", "name", "mark", "fields"]) fun _ _ _ _ _ _ us hl => match us, hl with | [_, _, _, _], _ => rfl)
  have C_law_refused : CalP CT l.prog w K mg base 8 "_law_refused" df_law_refused := CalP.of t_law_refused X G (fun f fd F => ok_law_refused T C_law_alone C_mx_Shape F) (fun _ _ F => F.binds (ps := ["_law_parts"]) fun _ _ _ _ _ _ us hl => match us, hl with | [_], _ => rfl)
  have C_law_right : CalP CT l.prog w K mg base 10 "_law_right" df_law_right := CalP.of t_law_right X G (fun f fd F => ok_law_right T C_law_at_bound C_law_begun C_law_like C_law_next C_law_refused F) (fun _ _ F => F.binds (ps := ["_law_cell", "_law_k"]) fun _ _ _ _ _ _ us hl => match us, hl with | [_, _], _ => rfl)
  exact fun f fd F => ok_law T C_law_right F
end Law
open PySem PySem.W PyProof.Rows Sim
set_option maxHeartbeats 0 in
theorem PySem.Challenge.cw_totalround_k02_shapes_at_their_bounds_holds : PySem.Challenge.rw_totalround_k02_shapes_at_their_bounds.Holds := by
  w_on; o_law; k_head; (case hw => w_witness2)
  k_fill
  refine L2.walk_of (l := PySem.Challenge.rw_totalround_k02_shapes_at_their_bounds) (n := 63) (k := 11) (x := "_law_script") (CX := fun _ => L2.CX0) (sp := fun w => Sim.spLaw _) rfl (by decide) rfl ⟨rfl, by decide, by decide⟩ (fun w h Y => PySem.W.kIn_of Y) ?F (fun _ _ a ns hl _ hS => ⟨a, ns, rfl, hl, hS, fun _ => rfl⟩) (fun _ _ _ _ _ h => h)
  case F =>
    intro w mg fa h KX G hmg
    refine' Law.all_mk KX G hmg ?z_ValueError ?z_all ?z_bool ?z_dict ?z_enumerate ?z_int ?z_isinstance ?z_len ?z_list ?z_max ?z_min ?z_range ?z_set ?z_str ?z_tuple ?i_LONGEST_FIELD ?i_LONGEST_NAME ?i_MOST_FIELDS ?i_WIDTH ?k_Shape ?n_Shape_name ?n_Shape_mark ?n_Shape_fields ?m_Shape ?o_RoundError ?o_NoShape ?o_NoSource ?o_NoRecord ?o_NoOrder ?o_NoProgram ?o_NoText ?o_NoEven ?o_TooLong ?f_NoShape ?ex_NoShape_RoundError ?kt_NoShape_NoEven ?kn_NoEven ?kt_NoShape_NoOrder ?kn_NoOrder ?kt_NoShape_NoProgram ?kn_NoProgram ?kt_NoShape_NoRecord ?kn_NoRecord ?kt_NoShape_NoShape ?kn_NoShape ?kt_NoShape_NoSource ?kn_NoSource ?kt_NoShape_NoText ?kn_NoText ?kt_NoShape_RoundError ?kn_RoundError ?kt_NoShape_TooLong ?kn_TooLong ?kt_NoShape_ValueError ?kn_ValueError ?p0_NoShape ?p1_NoShape ?p2_NoShape ?p3_NoShape ?t_is_name ?t_is_signs ?t_is_number ?t_is_number_from ?t_is_mark ?t_is_field ?t_are_unlike ?t_taken_columns ?t_are_fields ?t_are_parts ?t_law_begun ?t_law_next ?t_law_pick ?t_law_names ?t_law_any_sign ?t_law_alone ?t_law_like ?t_law_two ?t_law_marked ?t_law_at_bound ?t_law_refused ?t_law_right ?t_law Law.math
    (case z_ValueError => k_is)
    (case z_all => k_is)
    (case z_bool => k_is)
    (case z_dict => k_is)
    (case z_enumerate => k_is)
    (case z_int => k_is)
    (case z_isinstance => k_is)
    (case z_len => k_is)
    (case z_list => k_is)
    (case z_max => k_is)
    (case z_min => k_is)
    (case z_range => k_is)
    (case z_set => k_is)
    (case z_str => k_is)
    (case z_tuple => k_is)
    (case i_LONGEST_FIELD => refine' gdict KX G ?ga_LONGEST_FIELD ?gl_LONGEST_FIELD ?go_LONGEST_FIELD ?gq_LONGEST_FIELD; (case ga_LONGEST_FIELD => k_is); (case gl_LONGEST_FIELD => k_is); (case go_LONGEST_FIELD => rfl); (case gq_LONGEST_FIELD => exact ⟨⟨_, rfl⟩, rfl, ⟨_, rfl⟩, ⟨_, rfl⟩, rfl, ⟨_, rfl⟩, trivial⟩))
    (case i_LONGEST_NAME => refine' exI ?ex_LONGEST_NAME; (case ex_LONGEST_NAME => k_is))
    (case i_MOST_FIELDS => refine' exI ?ex_MOST_FIELDS; (case ex_MOST_FIELDS => k_is))
    (case i_WIDTH => refine' exI ?ex_WIDTH; (case ex_WIDTH => k_is))
    (case k_Shape => refine' topCls ?c_a_Shape ?c_b_Shape ?c_c_Shape ?c_d_Shape ?c_e_Shape ?c_f_Shape ?c_g_Shape ?c_h_Shape ?c_i_Shape ?c_j_Shape ?c_k_Shape ?c_l_Shape ?c_m_Shape ?c_n_Shape ?c_o_Shape ?c_p_Shape ?c_q_Shape; (case c_a_Shape => k_is); (case c_b_Shape => k_is); (case c_c_Shape => k_is); (case c_d_Shape => k_is); (case c_e_Shape => k_is); (case c_f_Shape => k_is); (case c_g_Shape => k_is); (case c_h_Shape => k_is); (case c_i_Shape => k_is); (case c_j_Shape => k_is); (case c_k_Shape => k_is); (case c_l_Shape => kit_is); (case c_m_Shape => kit_is); (case c_n_Shape => kit_is); (case c_o_Shape => kit_is); (case c_p_Shape => kit_is); (case c_q_Shape => kit_is))
    (case n_Shape_name => k_is)
    (case n_Shape_mark => k_is)
    (case n_Shape_fields => k_is)
    (case m_Shape => refine' metDef ?m_a_Shape ?m_i_Shape ?m_l_Shape ?m_c_Shape ?m_k_Shape; (case m_a_Shape => k_is); (case m_i_Shape => k_is); (case m_l_Shape => k_is); (case m_c_Shape => k_is); (case m_k_Shape => k_is))
    (case o_RoundError => k_is)
    (case o_NoShape => k_is)
    (case o_NoSource => k_is)
    (case o_NoRecord => k_is)
    (case o_NoOrder => k_is)
    (case o_NoProgram => k_is)
    (case o_NoText => k_is)
    (case o_NoEven => k_is)
    (case o_TooLong => k_is)
    (case f_NoShape => refine' excC ?e_a_NoShape ?e_b_NoShape ?e_c_NoShape ?e_d_NoShape ?e_e_NoShape ?e_f_NoShape ?e_g_NoShape ?e_h_NoShape; (case e_a_NoShape => k_is); (case e_b_NoShape => k_is); (case e_c_NoShape => k_is); (case e_d_NoShape => k_is); (case e_e_NoShape => k_is); (case e_f_NoShape => k_is); (case e_g_NoShape => k_is); (case e_h_NoShape => k_is))
    (case ex_NoShape_RoundError => refine' exm_ref ?y_a_NoShape_RoundError ?y_b_NoShape_RoundError ?y_c_NoShape_RoundError ?y_d_NoShape_RoundError; (case y_a_NoShape_RoundError => k_is); (case y_b_NoShape_RoundError => k_is); (case y_c_NoShape_RoundError => k_is); (case y_d_NoShape_RoundError => k_is))
    (case kt_NoShape_NoEven => kit_is)
    (case kn_NoEven => kit_is)
    (case kt_NoShape_NoOrder => kit_is)
    (case kn_NoOrder => kit_is)
    (case kt_NoShape_NoProgram => kit_is)
    (case kn_NoProgram => kit_is)
    (case kt_NoShape_NoRecord => kit_is)
    (case kn_NoRecord => kit_is)
    (case kt_NoShape_NoShape => kit_is)
    (case kn_NoShape => kit_is)
    (case kt_NoShape_NoSource => kit_is)
    (case kn_NoSource => kit_is)
    (case kt_NoShape_NoText => kit_is)
    (case kn_NoText => kit_is)
    (case kt_NoShape_RoundError => kit_is)
    (case kn_RoundError => kit_is)
    (case kt_NoShape_TooLong => kit_is)
    (case kn_TooLong => kit_is)
    (case kt_NoShape_ValueError => kit_is)
    (case kn_ValueError => kit_is)
    (case p0_NoShape => unfold bmVE; k_exc)
    (case p1_NoShape => k_is)
    (case p2_NoShape => k_is)
    (case p3_NoShape => k_is)
    (case t_is_name => refine' topDef ?d_a_is_name ?d_l_is_name ?d_c_is_name ?d_k_is_name; (case d_a_is_name => k_is); (case d_l_is_name => k_is); (case d_c_is_name => k_is); (case d_k_is_name => k_is))
    (case t_is_signs => refine' topDef ?d_a_is_signs ?d_l_is_signs ?d_c_is_signs ?d_k_is_signs; (case d_a_is_signs => k_is); (case d_l_is_signs => k_is); (case d_c_is_signs => k_is); (case d_k_is_signs => k_is))
    (case t_is_number => refine' topDef ?d_a_is_number ?d_l_is_number ?d_c_is_number ?d_k_is_number; (case d_a_is_number => k_is); (case d_l_is_number => k_is); (case d_c_is_number => k_is); (case d_k_is_number => k_is))
    (case t_is_number_from => refine' topDef ?d_a_is_number_from ?d_l_is_number_from ?d_c_is_number_from ?d_k_is_number_from; (case d_a_is_number_from => k_is); (case d_l_is_number_from => k_is); (case d_c_is_number_from => k_is); (case d_k_is_number_from => k_is))
    (case t_is_mark => refine' topDef ?d_a_is_mark ?d_l_is_mark ?d_c_is_mark ?d_k_is_mark; (case d_a_is_mark => k_is); (case d_l_is_mark => k_is); (case d_c_is_mark => k_is); (case d_k_is_mark => k_is))
    (case t_is_field => refine' topDef ?d_a_is_field ?d_l_is_field ?d_c_is_field ?d_k_is_field; (case d_a_is_field => k_is); (case d_l_is_field => k_is); (case d_c_is_field => k_is); (case d_k_is_field => k_is))
    (case t_are_unlike => refine' topDef ?d_a_are_unlike ?d_l_are_unlike ?d_c_are_unlike ?d_k_are_unlike; (case d_a_are_unlike => k_is); (case d_l_are_unlike => k_is); (case d_c_are_unlike => k_is); (case d_k_are_unlike => k_is))
    (case t_taken_columns => refine' topDef ?d_a_taken_columns ?d_l_taken_columns ?d_c_taken_columns ?d_k_taken_columns; (case d_a_taken_columns => k_is); (case d_l_taken_columns => k_is); (case d_c_taken_columns => k_is); (case d_k_taken_columns => k_is))
    (case t_are_fields => refine' topDef ?d_a_are_fields ?d_l_are_fields ?d_c_are_fields ?d_k_are_fields; (case d_a_are_fields => k_is); (case d_l_are_fields => k_is); (case d_c_are_fields => k_is); (case d_k_are_fields => k_is))
    (case t_are_parts => refine' topDef ?d_a_are_parts ?d_l_are_parts ?d_c_are_parts ?d_k_are_parts; (case d_a_are_parts => k_is); (case d_l_are_parts => k_is); (case d_c_are_parts => k_is); (case d_k_are_parts => k_is))
    (case t_law_begun => refine' topDef ?d_a_law_begun ?d_l_law_begun ?d_c_law_begun ?d_k_law_begun; (case d_a_law_begun => k_is); (case d_l_law_begun => k_is); (case d_c_law_begun => k_is); (case d_k_law_begun => k_is))
    (case t_law_next => refine' topDef ?d_a_law_next ?d_l_law_next ?d_c_law_next ?d_k_law_next; (case d_a_law_next => k_is); (case d_l_law_next => k_is); (case d_c_law_next => k_is); (case d_k_law_next => k_is))
    (case t_law_pick => refine' topDef ?d_a_law_pick ?d_l_law_pick ?d_c_law_pick ?d_k_law_pick; (case d_a_law_pick => k_is); (case d_l_law_pick => k_is); (case d_c_law_pick => k_is); (case d_k_law_pick => k_is))
    (case t_law_names => refine' topDef ?d_a_law_names ?d_l_law_names ?d_c_law_names ?d_k_law_names; (case d_a_law_names => k_is); (case d_l_law_names => k_is); (case d_c_law_names => k_is); (case d_k_law_names => k_is))
    (case t_law_any_sign => refine' topDef ?d_a_law_any_sign ?d_l_law_any_sign ?d_c_law_any_sign ?d_k_law_any_sign; (case d_a_law_any_sign => k_is); (case d_l_law_any_sign => k_is); (case d_c_law_any_sign => k_is); (case d_k_law_any_sign => k_is))
    (case t_law_alone => refine' topDef ?d_a_law_alone ?d_l_law_alone ?d_c_law_alone ?d_k_law_alone; (case d_a_law_alone => k_is); (case d_l_law_alone => k_is); (case d_c_law_alone => k_is); (case d_k_law_alone => k_is))
    (case t_law_like => refine' topDef ?d_a_law_like ?d_l_law_like ?d_c_law_like ?d_k_law_like; (case d_a_law_like => k_is); (case d_l_law_like => k_is); (case d_c_law_like => k_is); (case d_k_law_like => k_is))
    (case t_law_two => refine' topDef ?d_a_law_two ?d_l_law_two ?d_c_law_two ?d_k_law_two; (case d_a_law_two => k_is); (case d_l_law_two => k_is); (case d_c_law_two => k_is); (case d_k_law_two => k_is))
    (case t_law_marked => refine' topDef ?d_a_law_marked ?d_l_law_marked ?d_c_law_marked ?d_k_law_marked; (case d_a_law_marked => k_is); (case d_l_law_marked => k_is); (case d_c_law_marked => k_is); (case d_k_law_marked => k_is))
    (case t_law_at_bound => refine' topDef ?d_a_law_at_bound ?d_l_law_at_bound ?d_c_law_at_bound ?d_k_law_at_bound; (case d_a_law_at_bound => k_is); (case d_l_law_at_bound => k_is); (case d_c_law_at_bound => k_is); (case d_k_law_at_bound => k_is))
    (case t_law_refused => refine' topDef ?d_a_law_refused ?d_l_law_refused ?d_c_law_refused ?d_k_law_refused; (case d_a_law_refused => k_is); (case d_l_law_refused => k_is); (case d_c_law_refused => k_is); (case d_k_law_refused => k_is))
    (case t_law_right => refine' topDef ?d_a_law_right ?d_l_law_right ?d_c_law_right ?d_k_law_right; (case d_a_law_right => k_is); (case d_l_law_right => k_is); (case d_c_law_right => k_is); (case d_k_law_right => k_is))
    (case t_law => refine' topDef ?d_a_law ?d_l_law ?d_c_law ?d_k_law; (case d_a_law => k_is); (case d_l_law => k_is); (case d_c_law => k_is); (case d_k_law => k_is))
end
