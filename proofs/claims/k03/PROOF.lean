import PyProof.Rows.All
import Wide.All
import OpenK.AllK
import Wide.FinOn
import PyProof.EqAt
import PyProof.EqKinds
import PyProof.TupleCall
import KE.BitLaws
import PyProof.ToksMono
import PyProof.GenQ
import KE.KNest
import PyProof.ListMulRoad
import PyProof.AutoListH
import PyProof.DictRoadsH
import PyProof.SetRoads
import PyProof.Rows.SetFrom
import PyProof.FactsAll.dict_keyiterator
import PyProof.DictIter
import PyProof.MakeMany
import KE.KDictSum
import PyProof.Rows.SortShellAny
import KE.KRevIter
import OpenK.KOwn
import PyProof.ExcBaseAll.ValueError
import PyProof.NsDelKeeps
import KE.KIsAll
import KE.KIsNot
import OpenK.KDescr
import PyProof.ExcArgs
import PyProof.FString
import PySem.Challenge.RW_wayguess_k03_runs_told
set_option Elab.async false
set_option linter.all false
set_option maxRecDepth 100000
namespace L2
open PySem PySem.Spec PyProof.Rows
abbrev Key := Sum Int Str
def keyIs : Key → Value → Bool
  | .inl k, v => Value.isInt k v
  | .inr x, v => Value.isStrOf x v
def keyH (w : World) : Key → Int
  | .inl k => hashInt k
  | .inr x => hashStr w x
theorem keyIs_shape : ∀ {k : Key} {v : Value}, keyIs k v = true → (∃ i t, k = Sum.inl i ∧ v = Value.int i t) ∨ (∃ x t, k = Sum.inr x ∧ v = Value.str x t)
  | .inl i, v, h => by
    obtain ⟨t, e⟩ := Value.isInt_shape (k := i) (v := v) h
    exact .inl ⟨i, t, rfl, e⟩
  | .inr x, v, h => by
    obtain ⟨t, e⟩ := Value.isStrOf_shape (x := x) (v := v) h
    exact .inr ⟨x, t, rfl, e⟩
theorem keyIs_int (i : Int) (t : Tok) : keyIs (.inl i) (.int i t) = true := by simp [keyIs, Value.isInt]
theorem keyIs_str (x : Str) (t : Tok) : keyIs (.inr x) (.str x t) = true := by simp [keyIs, Value.isStrOf]
theorem key_ll (a b : Int) : decide ((Sum.inl a : Key) = Sum.inl b) = (a == b) := by
  by_cases e : a = b
  · subst e; simp
  · have h : ¬ (Sum.inl a : Key) = Sum.inl b := fun q => e (Sum.inl.inj q)
    rw [decide_eq_false h]
    exact (beq_eq_false_iff_ne.mpr e).symm
theorem key_rr (a b : Str) : decide ((Sum.inr a : Key) = Sum.inr b) = decide (a = b) := by
  by_cases e : a = b
  · subst e; simp
  · have h : ¬ (Sum.inr a : Key) = Sum.inr b := fun q => e (Sum.inr.inj q)
    rw [decide_eq_false h, decide_eq_false e]
theorem key_lr (a : Int) (b : Str) : decide ((Sum.inl a : Key) = Sum.inr b) = false := decide_eq_false (fun q => nomatch q)
theorem key_rl (a : Str) (b : Int) : decide ((Sum.inr a : Key) = Sum.inl b) = false := decide_eq_false (fun q => nomatch q)
def mixKind (prog : Program) (w : World) : PySem.KeyKind prog w Key where
  is := keyIs
  hash := keyH w
  inj := fun v a b ha hb => by
    rcases keyIs_shape ha with ⟨i, t, rfl, rfl⟩ | ⟨x, t, rfl, rfl⟩
    · rcases keyIs_shape hb with ⟨j, u, rfl, e⟩ | ⟨y, u, rfl, e⟩
      · injection e with e1 _; rw [e1]
      · exact nomatch e
    · rcases keyIs_shape hb with ⟨j, u, rfl, e⟩ | ⟨y, u, rfl, e⟩
      · exact nomatch e
      · injection e with e1 _; rw [e1]
  byValue := fun k v h => by
    rcases keyIs_shape h with ⟨i, t, rfl, rfl⟩ | ⟨x, t, rfl, rfl⟩ <;> rfl
  pyHash := fun hv h => by
    rcases keyIs_shape hv with ⟨i, t, rfl, rfl⟩ | ⟨x, t, rfl, rfl⟩
    · exact wpAny_pyHash_int h
    · exact wpAny_pyHash_str h
  eqBool := fun hu hv h => by
    rcases keyIs_shape hu with ⟨i, t, rfl, rfl⟩ | ⟨x, t, rfl, rfl⟩
    · rcases keyIs_shape hv with ⟨j, u, rfl, rfl⟩ | ⟨y, u, rfl, rfl⟩
      · rw [key_ll] at h; exact wpAny_eqBool_int h
      · rw [key_lr] at h; exact SeqAt.EqAt.int_str i t y u _ _ _ _ h
    · rcases keyIs_shape hv with ⟨j, u, rfl, rfl⟩ | ⟨y, u, rfl, rfl⟩
      · rw [key_rl] at h; exact SeqAt.EqAt.str_int x t j u _ _ _ _ h
      · rw [key_rr] at h; exact wpAny_eqBool_str h
  «strs» := fun k x t v h => by
    rcases keyIs_shape h with ⟨i, u, rfl, e⟩ | ⟨y, u, rfl, e⟩
    · exact nomatch e
    · injection e with e1 _
      subst e1
      cases v <;> rfl
theorem mixKind_int (prog : Program) (w : World) (i : Int) (t : Tok) : (mixKind prog w).is (.inl i) (.int i t) = true := keyIs_int i t
theorem mixKind_str (prog : Program) (w : World) (x : Str) (t : Tok) : (mixKind prog w).is (.inr x) (.str x t) = true := keyIs_str x t
end L2
namespace L2
open PySem PySem.Spec PyProof.Rows
inductive V where
  | non | bl (b : Bool) | int (i : Int) | str (x : Str) | byt (b : Array UInt8) | flt (b : UInt64) | ref (a : Addr) | ty (n : String)
  deriving DecidableEq
def RelV : V → Value → Prop
  | .non, u => u = Value.none
  | .bl b, u => u = Value.bool b
  | .int i, u => ∃ t, u = Value.int i t
  | .str x, u => ∃ t, u = Value.str x t
  | .byt b, u => ∃ t, u = Value.bytes b t
  | .flt b, u => ∃ t, u = Value.float b t
  | .ref a, u => u = Value.ref a
  | .ty n, u => u = Value.type n
abbrev Vals : List V → List Value → Prop := Paired RelV
theorem Vals.length {xs : List V} {us : List Value} (r : Vals xs us) : xs.length = us.length := Paired.length r
theorem Vals.get : ∀ {xs : List V} {us : List Value} {i : Nat} {x : V}, Vals xs us → xs[i]? = some x → ∃ u, us[i]? = some u ∧ RelV x u
  | _, _, _, _, .nil, e => by simp at e
  | _, _, 0, _, .cons r _, e => by simp at e; subst e; exact ⟨_, rfl, r⟩
  | _, _, i + 1, x, .cons _ t, e => by
    obtain ⟨u, h1, h2⟩ := Vals.get (i := i) (x := x) t (by simpa using e)
    exact ⟨u, by simpa using h1, h2⟩
theorem Vals.set {x : V} {u : Value} (r : RelV x u) : ∀ {xs : List V} {us : List Value} (i : Nat), Vals xs us → Vals (xs.set i x) (us.set i u)
  | _, _, _, .nil => .nil
  | _, _, 0, .cons _ t => .cons r t
  | _, _, i + 1, .cons q t => .cons q (Vals.set r i t)
theorem Vals.append : ∀ {xs ys : List V} {us ws : List Value}, Vals xs us → Vals ys ws → Vals (xs ++ ys) (us ++ ws)
  | _, _, _, _, .nil, s => s
  | _, _, _, _, .cons r t, s => .cons r (Vals.append t s)
theorem Vals.take : ∀ {xs : List V} {us : List Value} (n : Nat), Vals xs us → Vals (xs.take n) (us.take n)
  | _, _, 0, _ => .nil
  | _, _, _ + 1, .nil => .nil
  | _, _, n + 1, .cons r t => .cons r (Vals.take n t)
theorem Vals.drop : ∀ {xs : List V} {us : List Value} (n : Nat), Vals xs us → Vals (xs.drop n) (us.drop n)
  | _, _, 0, r => r
  | _, _, _ + 1, .nil => .nil
  | _, _, n + 1, .cons _ t => Vals.drop n t
def RelO : Option V → Option Value → Prop
  | some v, some u => RelV v u
  | none, none => True
  | _, _ => False
def KV {κ : Type} : List (κ × V) → List (κ × Value) → Prop := Paired fun (p : κ × V) (q : κ × Value) => p.1 = q.1 ∧ RelV p.2 q.2
def kV : Key → V
  | .inl i => .int i
  | .inr x => .str x
inductive HO where
  /-- a list -/
  | lst (xs : List V)
  /-- a tuple (never changes) -/
  | tup (xs : List V)
  /-- a dict whose keys are ints and texts; one whose keys are tuples of ints and texts (the empty one is both) -/
  | dK (kvs : List (Key × V)) | dT (kvs : List (List Key × V))
  /-- a set of ints: its members, its size -/
  | set (S : Int → Bool) (n : Nat)
  /-- an instance of the class at C, its dict at dx, its attributes -/
  | ins (C dx : Addr) (fs : List (Str × V))
  /-- the dict of the instance at x -/
  | own (x : Addr)
  /-- the dict of an exception -/
  | xd (fs : List (Str × V))
  /-- a bound method, f of x -/
  | met (f x : Addr)
  /-- a range object lo, lo + 1, .. below hi -/
  | rng (lo hi : Int)
  /-- a thing that is known to the object (the script; a dict while a loop walks it): read, never written while it is so -/
  | frz (o : Obj) (u : HO)
  /-- a code object's table -/
  | tbl (ps : Array Value)
  /-- any other thing, by what is true of its one object (a def of one's own: SetO a S n := HO.ext fun h => ..) -/
  | ext (φ : Heap → Prop)
abbrev Hp := Addr → Option HO
def upd (H : Hp) (a : Addr) (o : HO) : Hp := fun b => if b = a then some o else H b
theorem upd_same {H : Hp} {a : Addr} {o : HO} : upd H a o a = some o := by unfold upd; rw [if_pos rfl]
theorem upd_ne {H : Hp} {a b : Addr} {o : HO} (h : b ≠ a) : upd H a o b = H b := by unfold upd; rw [if_neg h]
theorem ne_of {H : Hp} {a b : Addr} {o u : HO} (h : H a = some o) (h' : H b = some u) (d : o ≠ u) : a ≠ b := by
  intro e; subst e; rw [h] at h'; exact d (Option.some.inj h')
theorem ne_of_none {H : Hp} {a b : Addr} {o : HO} (h : H a = some o) (h' : H b = none) : a ≠ b := by
  intro e; subst e; rw [h] at h'; cases h'
section
variable (P : Program) (w : World)
def ObjOk (H : Hp) (h : Heap) (a : Addr) : HO → Prop
  | .lst xs => xs.length ≤ sizeLine ∧ ∃ (its : List Value) (n : Nat), Vals xs its ∧ h.get? a = some { cls := .type "list", data := .seq its.toArray n }
  | .tup xs => xs.length ≤ sizeLine ∧ ∃ its : List Value, Vals xs its ∧ IsTup h a its.toArray
  | .dK kvs => kvs.length ≤ sizeLine ∧ (a == sysModules) = false ∧ ∃ vs, KV kvs vs ∧ h.DictOf (mixKind P w) a vs
  | .dT kvs => kvs.length ≤ sizeLine ∧ (a == sysModules) = false ∧ ∃ xs : List (List Key × Addr × Value),
      Paired (fun (p : List Key × V) (q : List Key × Addr × Value) => p.1 = q.1 ∧ H q.2.1 = some (.tup (p.1.map kV)) ∧ RelV p.2 q.2.2) kvs xs ∧
      ∃ o es ep, h.get? a = some o ∧ o.ExactDict ∧ o.data = .dict es ep ∧ es.toList = xs.map (entryOfKey (tupleKind (mixKind P w))) ∧ (xs.map (·.1)).Nodup
  | .set S n => h.SetOf (intKind P w) a S n
  | .ins C dx fs => H dx = some (.own a) ∧ fs.length ≤ 1000 ∧ dx ≠ a ∧ h.get? a = some (PySem.W.instObj C dx) ∧
      ∃ mA, h.Ns1 dx mA ∧ (∀ f, RelO (fs.lookup f) (mA f)) ∧ PySem.Within mA (fs.map (·.1))
  | .own _ => ∃ o, h.get? a = some o
  | .xd fs => ∃ mA, h.Ns1 a mA ∧ ∀ f, RelO (fs.lookup f) (mA f)
  | .rng lo hi => ∃ t u v, h.get? a = some { cls := .type "range", data := .fields #[.int lo t, .int hi u, .int 1 v] }
  | .frz o u => h.get? a = some o ∧ ObjOk H h a u
  | .tbl ps => h.get? a = some { cls := .none, data := .fields ps }
  | .met f x => h.get? a = some (PySem.W.methodObj (.ref f) (.ref x))
  | .ext φ => φ h ∧ (∃ o, h.get? a = some o) ∧ ∀ h1 h2 : Heap, φ h1 → (∀ o, h1.get? a = some o → h2.get? a = some o) → φ h2
def HOk (H : Hp) (h : Heap) : Prop := ∀ a o, H a = some o → ObjOk P w H h a o
end
section
variable {P : Program} {w : World} {H H' : Hp} {h h' : Heap} {a : Addr} {o : HO}
theorem ObjOk.lt (x : ObjOk P w H h a o) : a < h.objs.size := by
  cases o with
  | lst xs => obtain ⟨_, _, _, _, e⟩ := x; exact Heap.lt_size e
  | tup xs => obtain ⟨_, _, _, p⟩ := x; exact p.lt
  | dK kvs => obtain ⟨_, _, _, _, o, _, _, e, _⟩ := x; exact Heap.lt_size e
  | dT kvs => obtain ⟨_, _, _, _, o, _, _, e, _⟩ := x; exact Heap.lt_size e
  | set S n => obtain ⟨o, _, _, _, e, _⟩ := x; exact Heap.lt_size e
  | ins C dx fs => obtain ⟨_, _, _, e, _⟩ := x; exact Heap.lt_size e
  | own y => obtain ⟨_, e⟩ := x; exact Heap.lt_size e
  | xd fs => obtain ⟨_, ⟨_, _, _, e, _⟩, _⟩ := x; exact Heap.lt_size e
  | rng lo hi => obtain ⟨_, _, _, e⟩ := x; exact Heap.lt_size e
  | frz ob u => obtain ⟨e, _⟩ := x; exact Heap.lt_size e
  | tbl ps => exact Heap.lt_size (show h.get? a = some _ from x)
  | met f y => exact Heap.lt_size (show h.get? a = some _ from x)
  | ext φ => obtain ⟨_, ⟨_, e⟩, _⟩ := x; exact Heap.lt_size e
theorem Paired.mapP {α β : Type} {F G : α → β → Prop} : ∀ {l₁ : List α} {l₂ : List β}, Paired F l₁ l₂ → (∀ a b, F a b → G a b) → Paired G l₁ l₂
  | _, _, .nil, _ => .nil
  | _, _, .cons r t, f => .cons (f _ _ r) (Paired.mapP t f)
theorem Paired.imp' {α β : Type} {F G : α → β → Prop} (f : ∀ a b, F a b → G a b) {l₁ : List α} {l₂ : List β} (r : Paired F l₁ l₂) : Paired G l₁ l₂ := Paired.mapP r f
theorem ObjOk.stay (x : ObjOk P w H h a o) (k : ∀ b u, (b = a ∨ H b = some (.own a)) → h.get? b = some u → h'.get? b = some u)
    (ho : ∀ b, H b = some (.own a) → H' b = some (.own a)) (ht : ∀ b xs, H b = some (.tup xs) → H' b = some (.tup xs)) : ObjOk P w H' h' a o := by
  induction o with
  | lst xs => obtain ⟨z, its, n, r, e⟩ := x; exact ⟨z, its, n, r, k _ _ (.inl rfl) e⟩
  | tup xs => obtain ⟨z, its, r, ob, e, c⟩ := x; exact ⟨z, its, r, ob, k _ _ (.inl rfl) e, c⟩
  | dK kvs => obtain ⟨z, y, vs, r, ob, es, ep, e, c⟩ := x; exact ⟨z, y, vs, r, ob, es, ep, k _ _ (.inl rfl) e, c⟩
  | dT kvs =>
    obtain ⟨z, y, xs, r, ob, es, ep, e, c⟩ := x
    exact ⟨z, y, xs, Paired.mapP r fun p q z => ⟨z.1, ht _ _ z.2.1, z.2.2⟩, ob, es, ep, k _ _ (.inl rfl) e, c⟩
  | set S n => obtain ⟨ob, es, ep, t, e, c⟩ := x; exact ⟨ob, es, ep, t, k _ _ (.inl rfl) e, c⟩
  | ins C dx fs =>
    obtain ⟨d, z, ne, e, mA, ⟨od, es, ep, e2, c⟩, r⟩ := x
    exact ⟨ho _ d, z, ne, k _ _ (.inl rfl) e, mA, ⟨od, es, ep, k _ _ (.inr d) e2, c⟩, r⟩
  | own y => obtain ⟨ob, e⟩ := x; exact ⟨ob, k _ _ (.inl rfl) e⟩
  | xd fs => obtain ⟨mA, ⟨od, es, ep, e, c⟩, r⟩ := x; exact ⟨mA, ⟨od, es, ep, k _ _ (.inl rfl) e, c⟩, r⟩
  | rng lo hi => obtain ⟨t, u, v, e⟩ := x; exact ⟨t, u, v, k _ _ (.inl rfl) e⟩
  | frz ob u ih => obtain ⟨e, q⟩ := x; exact ⟨k _ _ (.inl rfl) e, ih q⟩
  | tbl ps =>
    have e : h.get? a = some { cls := .none, data := .fields ps } := x
    show h'.get? a = some { cls := .none, data := .fields ps }
    exact k a _ (.inl rfl) e
  | met f y =>
    have e : h.get? a = some (PySem.W.methodObj (.ref f) (.ref y)) := x
    show h'.get? a = some (PySem.W.methodObj (.ref f) (.ref y))
    exact k a _ (.inl rfl) e
  | ext φ => obtain ⟨p, ⟨o, e⟩, st⟩ := x; exact ⟨st _ _ p fun o q => k _ _ (.inl rfl) q, ⟨o, k _ _ (.inl rfl) e⟩, st⟩
theorem HOk.lt (x : HOk P w H h) (e : H a = some o) : a < h.objs.size := (x a o e).lt
theorem HOk.fresh (x : HOk P w H h) (e : h.objs.size ≤ a) : H a = none := by
  cases q : H a with
  | none => rfl
  | some u => exact absurd (Nat.lt_of_lt_of_le (x.lt q) e) (Nat.lt_irrefl _)
theorem HOk.kept (x : HOk P w H h) (k : ∀ b u, h.get? b = some u → h'.get? b = some u) : HOk P w H h' := fun a o e =>
  (x a o e).stay (fun b u _ q => k b u q) (fun _ q => q) fun _ _ q => q
theorem HOk.laid (x : HOk P w H h) (k : ∀ b u, h.get? b = some u → h'.get? b = some u) (hp : h.objs.size ≤ a) (new : ObjOk P w (upd H a o) h' a o) : HOk P w (upd H a o) h' := fun b u e => by
  have hn := x.fresh hp
  by_cases hb : b = a
  · subst hb; rw [upd_same] at e; cases e; exact new
  · rw [upd_ne hb] at e
    exact (x b u e).stay (fun c v _ q => k c v q) (fun c q => by rw [upd_ne (ne_of_none q hn)]; exact q) fun c xs q => by rw [upd_ne (ne_of_none q hn)]; exact q
end
def Rd (H : Hp) (a : Addr) (u : HO) : Prop := H a = some u ∨ ∃ o, H a = some (.frz o u)
theorem Rd.of {H : Hp} {a : Addr} {u : HO} (h : H a = some u) : Rd H a u := .inl h
theorem Rd.ok {P : Program} {w : World} {H : Hp} {h : Heap} {a : Addr} {u : HO} (r : Rd H a u) (x : HOk P w H h) : ObjOk P w H h a u := by
  rcases r with r | ⟨o, r⟩
  · exact x a u r
  · obtain ⟨_, q⟩ := x a _ r
    exact q
def Mut : Option HO → Prop
  | some (.lst _) => True
  | some (.dK _) => True
  | some (.dT _) => True
  | some (.set _ _) => True
  | some (.ins _ _ _) => True
  | some (.ext _) => True
  | _ => False
section
variable {P : Program} {w : World} {H : Hp} {h h' : Heap} {x e : Addr} {o' : HO}
theorem HOk.write (ok : HOk P w H h) (mu : Mut (H x)) (he : e = x ∨ H e = some (.own x)) (k : ∀ b u, b ≠ e → h.get? b = some u → h'.get? b = some u) (heo : ∃ u, h'.get? e = some u)
    (new : ObjOk P w (upd H x o') h' x o') : HOk P w (upd H x o') h' := fun b u q => by
  have nown : ∀ c y, H c = some (.own y) → c ≠ x := fun c y r z => by subst z; rw [r] at mu; exact mu
  have ntup : ∀ c xs, H c = some (.tup xs) → c ≠ x := fun c xs r z => by subst z; rw [r] at mu; exact mu
  by_cases hb : b = x
  · subst hb; rw [upd_same] at q; cases q; exact new
  · rw [upd_ne hb] at q
    by_cases hbe : b = e
    · have q' : H b = some (.own x) := by
        rcases he with z | z
        · exact absurd (hbe.trans z) hb
        · rw [hbe]; exact z
      rw [q] at q'; cases q'
      obtain ⟨v, hv⟩ := heo
      exact ⟨v, by rw [hbe]; exact hv⟩
    · refine (ok b u q).stay (fun c v hc r => k c v ?_ r) (fun c r => by rw [upd_ne (nown c b r)]; exact r) fun c xs r => by rw [upd_ne (ntup c xs r)]; exact r
      rcases hc with rfl | hc
      · exact hbe
      · rintro rfl
        rcases he with z | z
        · exact nown c b hc z
        · rw [hc] at z; cases z; exact hb rfl
end
structure Un (fs ex : List Addr) (H H' : Hp) (h h' : Heap) : Prop where
  keep : ∀ b o, h.get? b = some o → H b = none → b ∉ fs → b ∉ ex → h'.get? b = some o
  slot : ∀ b o, h.get? b = some o → H b = none → b ∈ fs → b ∉ ex → ∃ sl, h'.get? b = some { o with slots := sl }
  free : ∀ b o, h.get? b = some o → H b = none → b ∉ ex → H' b = none
  there : ∀ b o, h.get? b = some o → b ∉ ex → ∃ o', h'.get? b = some o'
  tups : ∀ b xs, H b = some (.tup xs) → H' b = some (.tup xs)
  frzs : ∀ b o u, H b = some (.frz o u) → H' b = some (.frz o u)
  tbls : ∀ b ps, H b = some (.tbl ps) → ∃ more, H' b = some (.tbl (ps ++ more))
section
variable {fs fs' ex ex' : List Addr} {H H1 H2 : Hp} {h h1 h2 h' : Heap} {a x e : Addr} {o : HO}
theorem Un.any (u : Un fs ex H H1 h h1) {b : Addr} {ob : Obj} (q : h.get? b = some ob) (n : H b = none) (hx : b ∉ ex) : ∃ sl, h1.get? b = some { ob with slots := sl } := by
  by_cases hb : b ∈ fs
  · exact u.slot b ob q n hb hx
  · exact ⟨ob.slots, u.keep b ob q n hb hx⟩
theorem Un.trans (a : Un fs ex H H1 h h1) (b : Un fs ex H1 H2 h1 h2) : Un fs ex H H2 h h2 where
  keep := fun c ob q n hc hx => b.keep c ob (a.keep c ob q n hc hx) (a.free c ob q n hx) hc hx
  slot := fun c ob q n hc hx => by
    obtain ⟨sl, e1⟩ := a.slot c ob q n hc hx
    obtain ⟨sl', e2⟩ := b.slot c _ e1 (a.free c ob q n hx) hc hx
    exact ⟨sl', e2⟩
  free := fun c ob q n hx => by
    obtain ⟨o', e1⟩ := a.there c ob q hx
    exact b.free c o' e1 (a.free c ob q n hx) hx
  there := fun c ob q hx => by
    obtain ⟨o', e1⟩ := a.there c ob q hx
    exact b.there c o' e1 hx
  tups := fun c xs q => b.tups c xs (a.tups c xs q)
  frzs := fun c ob xs q => b.frzs c ob xs (a.frzs c ob xs q)
  tbls := fun c ps q => by
    obtain ⟨m1, e1⟩ := a.tbls c ps q
    obtain ⟨m2, e2⟩ := b.tbls c _ e1
    exact ⟨m1 ++ m2, by rw [e2, Array.append_assoc]⟩
theorem Un.kept (k : ∀ b u, h.get? b = some u → h'.get? b = some u) : Un fs ex H H h h' :=
  ⟨fun b ob q _ _ _ => k b ob q, fun b ob q _ _ _ => ⟨ob.slots, k b ob q⟩, fun _ _ _ n _ => n, fun b ob q _ => ⟨ob, k b ob q⟩, fun _ _ q => q, fun _ _ _ q => q, fun _ ps q => ⟨#[], by rw [q]; simp⟩⟩
theorem Un.refl : Un fs ex H H h h := Un.kept fun _ _ q => q
theorem Un.laid (k : ∀ b u, h.get? b = some u → h'.get? b = some u) (hp : h.objs.size ≤ a) (hn : H a = none) : Un fs ex H (upd H a o) h h' where
  keep := fun b u q _ _ _ => k b u q
  slot := fun b u q _ _ _ => ⟨u.slots, k b u q⟩
  free := fun b u q n _ => by rw [upd_ne (Nat.ne_of_lt (Nat.lt_of_lt_of_le (Heap.lt_size q) hp))]; exact n
  there := fun b u q _ => ⟨u, k b u q⟩
  tups := fun b xs q => by rw [upd_ne (ne_of_none q hn)]; exact q
  frzs := fun b u xs q => by rw [upd_ne (ne_of_none q hn)]; exact q
  tbls := fun b ps q => ⟨#[], by rw [upd_ne (ne_of_none q hn), q]; simp⟩
theorem Un.write (mu : Mut (H x)) (he : e = x ∨ H e = some (.own x)) (k : ∀ b u, b ≠ e → h.get? b = some u → h'.get? b = some u) (heo : ∃ u, h'.get? e = some u) : Un fs ex H (upd H x o) h h' := by
  have hx : ∀ b, H b = none → b ≠ x := fun b n z => by subst z; rw [n] at mu; exact mu
  have hb : ∀ b, H b = none → b ≠ e := fun b n z => by
    subst z
    rcases he with r | r
    · exact hx b n r
    · rw [n] at r; cases r
  have hm : ∀ b u, H b = some u → ¬ Mut (some u) → b ≠ x := fun b u q nm z => by subst z; rw [q] at mu; exact nm mu
  refine ⟨fun b u q n _ _ => k b u (hb b n) q, fun b u q n _ _ => ⟨u.slots, k b u (hb b n) q⟩, fun b u q n _ => by rw [upd_ne (hx b n)]; exact n, fun b u q _ => ?_,
    fun b xs q => by rw [upd_ne (hm b _ q fun z => z)]; exact q, fun b u xs q => by rw [upd_ne (hm b _ q fun z => z)]; exact q, fun b ps q => ⟨#[], by rw [upd_ne (hm b _ q fun z => z), q]; simp⟩⟩
  by_cases hbe : b = e
  · subst hbe; exact heo
  · exact ⟨u, k b u hbe q⟩
theorem Un.mono (u : Un fs ex H H1 h h1) (hs : ∀ b ∈ fs, b ∈ fs') (hx : ∀ b ∈ ex, b ∈ ex') : Un fs' ex' H H1 h h1 :=
  ⟨fun b ob q n hb he => u.keep b ob q n (fun z => hb (hs b z)) fun z => he (hx b z), fun _ _ q n _ he => u.any q n fun z => he (hx _ z), fun b ob q n he => u.free b ob q n fun z => he (hx b z), fun b ob q he => u.there b ob q fun z => he (hx b z), u.tups, u.frzs, u.tbls⟩
end
def trk (h : Heap) (H : Hp) : List Addr := (List.range h.objs.size).filter fun a => (H a).isSome
def hidT (h : Heap) (H : Hp) : Heap := PySem.W.hideAll h (trk h H)
theorem hidT_size (h : Heap) (H : Hp) : (hidT h H).objs.size = h.objs.size := PySem.W.hideAll_size _ _
theorem hidT_get {h : Heap} {H : Hp} {b : Addr} {o : Obj} (e : h.get? b = some o) (n : H b = none) : (hidT h H).get? b = some o :=
  PySem.W.hideAll_get _ e fun hm => by
    have q : (H b).isSome = true := (List.mem_filter.mp hm).2
    rw [n] at q; simp at q
theorem of_hidT {h : Heap} {H : Hp} {b : Addr} {o : Obj} (e : (hidT h H).get? b = some o) : h.get? b = some o ∧ H b = none := by
  have e' : h.get? b = some o := PySem.W.of_hideAll (trk h H) e
  refine ⟨e', ?_⟩
  cases q : H b with
  | none => rfl
  | some x =>
    have hm : b ∈ trk h H := List.mem_filter.mpr ⟨List.mem_range.mpr (Heap.lt_size e'), by simp [q]⟩
    have z : (hidT h H).get? b = none := PySem.W.hideAll_none (trk h H) hm
    rw [z] at e; cases e
def allNews (g h : Heap) (L : Addr) : List (Addr × Obj) := (List.range h.objs.size).filterMap fun a => if a = L ∨ (g.get? a).isSome = true then none else (h.get? a).map fun o => (a, o)
def rest (g h : Heap) (L d : Addr) : List (Addr × Obj) := (allNews g h L).filter fun p => decide (p.1 ≠ d)
end L2
namespace L2
open PySem PySem.Spec PyProof.Rows
structure Mod (K : PySem.W.Frag) (mg : Str → Option Value) (base : Heap) : Prop where
  kin : K.In base
  glob : base.Ns mainGlobals mg
  blt : ∃ mb, base.Ns builtinsNs mb ∧ ∀ x : Str, x ≠ "__name__" → mb x = bootBuiltins x
  nolimit : base.NoLimit
structure Cx where
  prog : Program
  w : World
  K : PySem.W.Frag
  mg : Str → Option Value
  base : Heap
  A : Around
  N : List Str
  s_0 : Shared
  H_0 : Hp
  env : Env
  outer : List Env
  stack : List Env
  ex : List Addr
  fn : Str → Bool
  calm : Bool
  pn : List (Addr × Obj)
  xe : Value → Shared → Prop
def frs (l : List Env) : List Addr := l.filterMap (·.frame)
abbrev Cx.fs (X : Cx) : List Addr := frs X.outer
def Vis (sc : Scope) (x : Str) : Prop := sc.names.lookup x = some .local ∨ sc.names.lookup x = some .cell ∨ sc.names.lookup x = some .free
def Loc (sc : Scope) (x : Str) : Prop := sc.names.lookup x = some .local ∨ sc.names.lookup x = some .cell
def Look (env : Env) (h : Heap) (m : Str → Option Value) (x : Str) (u : Value) : Prop :=
  (env.kindOf x = some .local ∧ m x = some u) ∨ ((env.kindOf x = some .cell ∨ env.kindOf x = some .free) ∧ ∃ c, env.cells.lookup x = some c ∧ h.IsCell c (some u))
structure Cx.Ok (X : Cx) : Prop where
  mod : Mod X.K X.mg X.base
  kind : X.env.scope.kind = .function
  glob : X.env.globals = mainGlobals
  blt : X.env.builtins = builtinsNs
  above : X.s_0.heap.objs.size ≤ X.env.locals
  inj : ∀ x y c, X.env.cells.lookup x = some c → X.env.cells.lookup y = some c → x = y
  has : ∀ x, (X.env.kindOf x = some .cell ∨ X.env.kindOf x = some .free) → ∃ c, X.env.cells.lookup x = some c
  cab : ∀ x c, X.fn x = true → X.env.cells.lookup x = some c → X.s_0.heap.objs.size ≤ c
  hd : X.calm = true → X.A.handled = none
  frames : X.A.frames = some X.stack
  stk : X.stack = X.outer ∨ (X.stack = X.env :: X.outer ∧ X.env.frame = some X.env.locals)
  exf : ∀ b ∈ X.ex, b ≠ X.env.locals ∧ ∀ x c, X.env.cells.lookup x = some c → c ≠ b
  bs : ∀ b o, X.base.get? b = some o → X.s_0.heap.get? b = some o ∧ X.H_0 b = none
  bsz : X.base.objs.size ≤ X.s_0.heap.objs.size
  noex : ∀ b o, X.base.get? b = some o → b ∉ X.ex
  exfs : ∀ b ∈ X.ex, b ∉ X.fs
  funs : X.s_0.heap.FunFrames X.base X.outer
  frf : ∀ b ∈ X.fs, X.H_0 b = none
structure Inv (X : Cx) (pins : List (Addr × Obj)) (σ : List (Option V)) (H : Hp) (s : Shared) : Prop where
  ok : X.Ok
  os : s.os = X.s_0.os
  bare : AllBare s.gens
  base : Un X.fs X.ex X.H_0 H X.s_0.heap s.heap
  loc : ∃ m, s.heap.Ns X.env.locals m ∧ ∀ (i : Nat) (x : Str) (v : V), X.N[i]? = some x → σ[i]? = some (some v) → Vis X.env.scope x → ∃ u, RelV v u ∧ Look X.env s.heap m x u
  cell : ∀ x c, X.env.cells.lookup x = some c → ∃ v, s.heap.IsCell c v
  free : H X.env.locals = none
  freeC : ∀ x c, X.env.cells.lookup x = some c → H c = none
  pin : ∀ p ∈ X.pn ++ pins, s.heap.get? p.1 = some p.2 ∧ H p.1 = none ∧ p.1 ≠ X.env.locals ∧ p.1 ∉ X.fs ∧ ∀ v, p.2.data ≠ .cell v
  hok : HOk X.prog X.w H s.heap
  len : σ.length = X.N.length
section
variable {X : Cx} {pins : List (Addr × Obj)} {σ : List (Option V)} {H H' : Hp} {s : Shared} {h' : Heap}
theorem Cx.Ok.nofr (ok : X.Ok) {b : Addr} {o : Obj} (e : X.base.get? b = some o) : b ∉ X.fs := fun hb => by
  have := (ok.funs.mem hb).1
  rw [e] at this; cases this
theorem Inv.bs (I : Inv X pins σ H s) : ∀ b o, X.base.get? b = some o → s.heap.get? b = some o ∧ H b = none := fun b o e =>
  ⟨I.base.keep b o (I.ok.bs b o e).1 (I.ok.bs b o e).2 (I.ok.nofr e) (I.ok.noex b o e), I.base.free b o (I.ok.bs b o e).1 (I.ok.bs b o e).2 (I.ok.noex b o e)⟩
theorem Inv.bk (I : Inv X pins σ H s) : ∀ b o, X.base.get? b = some o → s.heap.get? b = some o := fun b o e => (I.bs b o e).1
theorem Inv.mod (I : Inv X pins σ H s) : Mod X.K X.mg X.base := I.ok.mod
theorem Inv.kIn (I : Inv X pins σ H s) : X.K.In s.heap := I.ok.mod.kin.keeps I.bk
theorem Inv.nolimit (I : Inv X pins σ H s) : s.heap.NoLimit := I.ok.mod.nolimit.keeps I.bk
theorem Inv.fr (I : Inv X pins σ H s) : ∃ m, Fr X.base X.env.locals s.heap m :=
  let ⟨m, hn, _⟩ := I.loc
  ⟨m, hn, I.bk, Nat.le_trans I.ok.bsz I.ok.above⟩
theorem Inv.lt (I : Inv X pins σ H s) : X.env.locals < s.heap.objs.size := let ⟨_, hn, _⟩ := I.loc; hn.lt
theorem Inv.sz (I : Inv X pins σ H s) : X.s_0.heap.objs.size ≤ s.heap.objs.size := Nat.le_trans I.ok.above (Nat.le_of_lt I.lt)
theorem Inv.nofs (I : Inv X pins σ H s) {a : Addr} (h : s.heap.objs.size ≤ a) : a ∉ X.fs := fun hb => by
  obtain ⟨_, o, ho, _⟩ := I.ok.funs.mem hb
  exact absurd (Nat.lt_of_lt_of_le (Heap.lt_size ho) (Nat.le_trans I.sz h)) (Nat.lt_irrefl _)
theorem Inv.cne (I : Inv X pins σ H s) : ∀ x c, X.env.cells.lookup x = some c → c ≠ X.env.locals := fun x c e z => by
  obtain ⟨v, o, ho, hd⟩ := I.cell x c e
  obtain ⟨m, ⟨o', es, ep, ho', hd', _⟩, _⟩ := I.loc
  rw [z, ho'] at ho; cases ho; rw [hd'] at hd; cases hd
theorem Inv.funs (I : Inv X pins σ H s) : s.heap.FunFrames X.base X.outer := by
  have all : ∀ (l : List Env), (∀ b ∈ frs l, b ∈ X.fs) → X.s_0.heap.FunFrames X.base l → s.heap.FunFrames X.base l := by
    intro l
    induction l with
    | nil => intro _ _; trivial
    | cons env r ih =>
      intro hs hl
      obtain ⟨hk, ⟨L, o, hf, hn, ho, hd⟩, hr⟩ := hl
      have hL : L ∈ X.fs := hs L (by unfold frs; rw [List.filterMap_cons, hf]; exact List.mem_cons_self)
      obtain ⟨sl, e⟩ := I.base.slot L o ho (I.ok.frf L hL) hL fun z => I.ok.exfs L z hL
      exact ⟨hk, ⟨L, _, hf, hn, e, hd⟩, ih (fun b hb => hs b (by unfold frs; rw [List.filterMap_cons, hf]; exact List.mem_cons_of_mem _ hb)) hr⟩
  exact all X.outer (fun _ hb => hb) I.ok.funs
theorem Inv.stack (I : Inv X pins σ H s) : s.heap.FunFrames X.base X.stack := by
  rcases I.ok.stk with e | ⟨e, hf⟩
  · rw [e]; exact I.funs
  · rw [e]
    obtain ⟨m, hn, _⟩ := I.loc
    refine .cons (by rw [I.ok.kind]; decide) hf hn ?_ I.funs
    exact Heap.get?_none_of_le (Nat.le_trans I.ok.bsz I.ok.above)
theorem Inv.stkSub (I : Inv X pins σ H s) : ∀ b ∈ frs X.stack, b ∈ X.env.locals :: X.fs := fun b hb => by
  rcases I.ok.stk with e | ⟨e, hf⟩
  · rw [e] at hb; exact List.mem_cons_of_mem _ hb
  · rw [e] at hb
    unfold frs at hb
    rw [List.filterMap_cons, hf] at hb
    exact hb
theorem Inv.stkFree (I : Inv X pins σ H s) : ∀ b ∈ frs X.stack, H b = none := fun b hb => by
  rcases List.mem_cons.mp (I.stkSub b hb) with e | hb
  · rw [e]; exact I.free
  · obtain ⟨_, o, ho, _⟩ := I.ok.funs.mem hb
    exact I.base.free b o ho (I.ok.frf b hb) fun z => I.ok.exfs b z hb
theorem Inv.step {g' : Array GenState} {t' : Nat} {d' : Drawn} {ch : List Addr} (I : Inv X pins σ H s)
    (hch : ∀ b ∈ ch, (b ∈ X.ex ∨ X.s_0.heap.objs.size ≤ b) ∧ b ≠ X.env.locals ∧ (∀ x c, X.env.cells.lookup x = some c → c ≠ b) ∧ ∀ p ∈ X.pn ++ pins, p.1 ≠ b)
    (keep : ∀ b o, b ≠ X.env.locals → b ∉ X.fs → b ∉ ch → s.heap.get? b = some o → H b = none → h'.get? b = some o)
    (slot : ∀ b o, b ≠ X.env.locals → b ∈ X.fs → b ∉ ch → s.heap.get? b = some o → H b = none → ∃ sl, h'.get? b = some { o with slots := sl }) (free : ∀ b o, b ∉ ch → s.heap.get? b = some o → H b = none → H' b = none)
    (there : ∀ b o, b ∉ ch → s.heap.get? b = some o → ∃ o', h'.get? b = some o')
    (tups : ∀ b xs, H b = some (.tup xs) → H' b = some (.tup xs)) (frzs : ∀ b o u, H b = some (.frz o u) → H' b = some (.frz o u)) (tbls : ∀ b ps, H b = some (.tbl ps) → ∃ more, H' b = some (.tbl (ps ++ more)))
    (ns : ∀ m, s.heap.Ns X.env.locals m → h'.Ns X.env.locals m) (hok : HOk X.prog X.w H' h') (hg : AllBare g') :
    Inv X pins σ H' { s with heap := h', gens := g', drawn := d', toks := t' } := by
  have neL : ∀ b o, X.s_0.heap.get? b = some o → b ≠ X.env.locals := fun b o e => Nat.ne_of_lt (Nat.lt_of_lt_of_le (Heap.lt_size e) I.ok.above)
  have neC : ∀ b o, X.s_0.heap.get? b = some o → b ∉ X.ex → b ∉ ch := fun b o e hx hb => by
    rcases (hch b hb).1 with z | z
    · exact hx z
    · exact absurd (Nat.lt_of_lt_of_le (Heap.lt_size e) z) (Nat.lt_irrefl _)
  have cellK : ∀ x c, X.env.cells.lookup x = some c → ∀ v, s.heap.IsCell c v → h'.IsCell c v := fun x c e v ⟨o, ho, hd⟩ => by
    have nch : c ∉ ch := fun z => (hch c z).2.2.1 x c e rfl
    by_cases hc : c ∈ X.fs
    · obtain ⟨sl, q⟩ := slot c o (I.cne x c e) hc nch ho (I.freeC x c e)
      exact ⟨_, q, hd⟩
    · exact ⟨o, keep c o (I.cne x c e) hc nch ho (I.freeC x c e), hd⟩
  refine ⟨I.ok, I.os, hg, ⟨fun b o e n hb hx => ?_, fun b o e n hb hx => ?_, fun b o e n hx => ?_, fun b o e hx => ?_, fun b xs e => tups b xs (I.base.tups b xs e), fun b o xs e => frzs b o xs (I.base.frzs b o xs e), fun b ps e => ?_⟩, ?_, fun x c e => ?_, ?_, fun x c e => ?_, fun p hp => ?_, hok, I.len⟩
  · exact keep b o (neL b o e) hb (neC b o e hx) (I.base.keep b o e n hb hx) (I.base.free b o e n hx)
  · obtain ⟨sl, e1⟩ := I.base.slot b o e n hb hx
    obtain ⟨sl', e2⟩ := slot b _ (neL b o e) hb (neC b o e hx) e1 (I.base.free b o e n hx)
    exact ⟨sl', e2⟩
  · obtain ⟨o', e1⟩ := I.base.there b o e hx
    exact free b o' (neC b o e hx) e1 (I.base.free b o e n hx)
  · obtain ⟨o', e1⟩ := I.base.there b o e hx
    exact there b o' (neC b o e hx) e1
  · obtain ⟨m1, e1⟩ := I.base.tbls b ps e
    obtain ⟨m2, e2⟩ := tbls b _ e1
    exact ⟨m1 ++ m2, by rw [e2, Array.append_assoc]⟩
  · obtain ⟨m, hn, hl⟩ := I.loc
    refine ⟨m, ns m hn, fun i x v e1 e2 e3 => ?_⟩
    obtain ⟨u, r, l⟩ := hl i x v e1 e2 e3
    refine ⟨u, r, ?_⟩
    rcases l with l | ⟨k, c, e, z⟩
    · exact .inl l
    · exact .inr ⟨k, c, e, cellK x c e _ z⟩
  · obtain ⟨v, z⟩ := I.cell x c e
    exact ⟨v, cellK x c e v z⟩
  · obtain ⟨m, ⟨o, _, _, ho, _⟩, _⟩ := I.loc
    exact free _ o (fun z => (hch _ z).2.1 rfl) ho I.free
  · obtain ⟨v, o, ho, hd⟩ := I.cell x c e
    exact free c o (fun z => (hch c z).2.2.1 x c e rfl) ho (I.freeC x c e)
  · obtain ⟨e, n, ne, nf, d⟩ := I.pin p hp
    have nch : p.1 ∉ ch := fun z => (hch p.1 z).2.2.2 p hp rfl
    exact ⟨keep p.1 p.2 ne nf nch e n, free p.1 p.2 nch e n, ne, nf, d⟩
theorem Inv.un {t' : Nat} (I : Inv X pins σ H s) (u : Un X.fs [] H H' s.heap h') (hok : HOk X.prog X.w H' h') : Inv X pins σ H' { s with heap := h', toks := t' } := by
  obtain ⟨m, ⟨o, es, ep, ho, r⟩, _⟩ := id I.loc
  obtain ⟨sl, hL⟩ := u.any ho I.free (by simp)
  exact I.step (g' := s.gens) (d' := s.drawn) (ch := []) (fun _ z => nomatch z) (fun b o _ hb _ e n => u.keep b o e n hb (by simp)) (fun b o _ hb _ e n => u.slot b o e n hb (by simp)) (fun b o _ e n => u.free b o e n (by simp)) (fun b o _ e => u.there b o e (by simp)) u.tups u.frzs u.tbls (fun m' hm => by
    obtain ⟨o', es', ep', ho', r'⟩ := hm
    rw [ho] at ho'; cases ho'
    exact ⟨_, es', ep', hL, r'⟩) hok I.bare
theorem Inv.call {g' : Array GenState} {t' : Nat} {d' : Drawn} {ch : List Addr} (I : Inv X pins σ H s) (u : Un (frs X.stack) ch H H' s.heap h') (hok : HOk X.prog X.w H' h') (hg : AllBare g')
    (hch : ∀ b ∈ ch, (b ∈ X.ex ∨ X.s_0.heap.objs.size ≤ b) ∧ b ≠ X.env.locals ∧ (∀ x c, X.env.cells.lookup x = some c → c ≠ b) ∧ ∀ p ∈ X.pn ++ pins, p.1 ≠ b) :
    Inv X pins σ H' { s with heap := h', gens := g', drawn := d', toks := t' } := by
  obtain ⟨m, ⟨o, es, ep, ho, r⟩, _⟩ := id I.loc
  obtain ⟨sl, hL⟩ := u.any ho I.free fun z => (hch _ z).2.1 rfl
  exact I.step (ch := ch) hch (fun b o hL hb hc e n => u.keep b o e n (fun z => (List.mem_cons.mp (I.stkSub b z)).elim hL hb) hc) (fun b o _ _ hc e n => u.any e n hc) (fun b o hc e n => u.free b o e n hc) (fun b o hc e => u.there b o e hc) u.tups u.frzs u.tbls (fun m' hm => by
    obtain ⟨o', es', ep', ho', r'⟩ := hm
    rw [ho] at ho'; cases ho'
    exact ⟨_, es', ep', hL, r'⟩) hok hg
theorem Inv.turned {t' : Nat} {it : Addr} (I : Inv X pins σ H s) (k : ∀ b o, b ≠ it → s.heap.get? b = some o → h'.get? b = some o) (hn : H it = none) (hL : it ≠ X.env.locals)
    (h1 : it ∈ X.ex ∨ X.s_0.heap.objs.size ≤ it) (h2 : ∀ x c, X.env.cells.lookup x = some c → c ≠ it) (h3 : ∀ p ∈ X.pn ++ pins, p.1 ≠ it) : Inv X pins σ H { s with heap := h', toks := t' } := by
  have nit : ∀ b u, H b = some u → b ≠ it := fun b u e z => by rw [z, hn] at e; cases e
  refine I.step (g' := s.gens) (d' := s.drawn) (ch := [it]) (fun b hb => ?_) (fun b o _ _ hc e _ => k b o (fun z => hc (by simp [z])) e) (fun b o _ _ hc e _ => ⟨o.slots, k b o (fun z => hc (by simp [z])) e⟩) (fun _ _ _ _ n => n)
    (fun b o hc e => ⟨o, k b o (fun z => hc (by simp [z])) e⟩) (fun _ _ e => e) (fun _ _ _ e => e) (fun b ps e => ⟨#[], by rw [e]; simp⟩) (fun m hm => ?_) (fun b u e => ?_) I.bare
  · have e : b = it := by simpa using hb
    subst e
    exact ⟨h1, hL, h2, h3⟩
  · obtain ⟨o, es, ep, ho, r⟩ := hm
    exact ⟨o, es, ep, k _ o (Ne.symm hL) ho, r⟩
  · refine (I.hok b u e).stay (fun c v hc q => k c v ?_ q) (fun _ q => q) fun _ _ q => q
    rcases hc with z | z
    · rw [z]; exact nit b u e
    · exact nit c _ z
theorem Inv.tok (I : Inv X pins σ H s) (t : Nat) : Inv X pins σ H { s with toks := t } := I.un (h' := s.heap) (t' := t) Un.refl I.hok
theorem Inv.kept {t' : Nat} (I : Inv X pins σ H s) (k : ∀ b u, s.heap.get? b = some u → h'.get? b = some u) : Inv X pins σ H { s with heap := h', toks := t' } := I.un (Un.kept k) (I.hok.kept k)
theorem Inv.laid {a : Addr} {o : HO} {t' : Nat} (I : Inv X pins σ H s) (k : ∀ b u, s.heap.get? b = some u → h'.get? b = some u) (hp : s.heap.objs.size ≤ a) (new : ObjOk X.prog X.w (upd H a o) h' a o) :
    Inv X pins σ (upd H a o) { s with heap := h', toks := t' } := I.un (Un.laid k hp (I.hok.fresh hp)) (I.hok.laid k hp new)
theorem Inv.write {x e : Addr} {o : HO} {t' : Nat} (I : Inv X pins σ H s) (mu : Mut (H x)) (he : e = x ∨ H e = some (.own x)) (k : ∀ b u, b ≠ e → s.heap.get? b = some u → h'.get? b = some u) (heo : ∃ u, h'.get? e = some u)
    (new : ObjOk X.prog X.w (upd H x o) h' x o) : Inv X pins σ (upd H x o) { s with heap := h', toks := t' } := I.un (Un.write mu he k heo) (I.hok.write mu he k heo new)
theorem Inv.weak {σ' : List (Option V)} (I : Inv X pins σ H s) (hl : σ'.length = σ.length) (w : ∀ (i : Nat) v, σ'[i]? = some (some v) → σ[i]? = some (some v)) : Inv X pins σ' H s :=
  ⟨I.ok, I.os, I.bare, I.base, let ⟨m, hn, hl'⟩ := I.loc; ⟨m, hn, fun i x v e1 e2 e3 => hl' i x v e1 (w i v e2) e3⟩, I.cell, I.free, I.freeC, I.pin, I.hok, hl.trans I.len⟩
theorem Inv.pins_of {pins' : List (Addr × Obj)} (I : Inv X pins σ H s) (h : ∀ p ∈ pins', s.heap.get? p.1 = some p.2 ∧ H p.1 = none ∧ p.1 ≠ X.env.locals ∧ p.1 ∉ X.fs ∧ ∀ v, p.2.data ≠ .cell v) : Inv X pins' σ H s :=
  ⟨I.ok, I.os, I.bare, I.base, I.loc, I.cell, I.free, I.freeC, fun p hp => (List.mem_append.mp hp).elim (fun z => I.pin p (List.mem_append_left _ z)) (h p), I.hok, I.len⟩
theorem nodup_ix {N : List Str} (hN : N.Nodup) {i j : Nat} {x : Str} (a : N[i]? = some x) (b : N[j]? = some x) : i = j := by
  obtain ⟨h1, e1⟩ := List.getElem?_eq_some_iff.mp a
  obtain ⟨h2, e2⟩ := List.getElem?_eq_some_iff.mp b
  exact (List.getElem_inj hN).mp (e1.trans e2.symm)
theorem store_ok2 {M : Model} {A : Around} {E : Value → Shared → Prop} {i : Nat} {x : Str} {v : V} {u : Value} {Q : Unit → Shared → Prop} (I : Inv X pins σ H s) (hN : X.N.Nodup) (hi : X.N[i]? = some x) (hx : Loc X.env.scope x) (r : RelV v u)
    (h : ∀ s', Inv X pins (σ.set i (some v)) H s' → (∃ a, Heap.SameBut a s.heap s'.heap ∧ (a = X.env.locals ∨ X.env.cells.lookup x = some a)) → Q () s') (hf : X.fn x = true ∨ X.env.scope.names.lookup x = some .local := by first | exact .inl rfl | exact .inr rfl | assumption) : wpAny M A (storeName X.env x u) Q E s := by
  obtain ⟨m, hn, hl⟩ := id I.loc
  have hcls : (X.env.scope.kind == .class || (X.env.scope.kind == .module && X.env.locals != X.env.globals)) = false := by rw [I.ok.kind]; rfl
  have hiσ : i < σ.length := by rw [I.len]; exact (List.getElem?_eq_some_iff.mp hi).1
  have cne := I.cne
  have tracked : ∀ {a : Addr} {h' : Heap}, (∃ o, s.heap.get? a = some o ∧ H a = none) → Heap.SameBut a s.heap h' → HOk X.prog X.w H h' := fun {a h'} ha hs b ob e => by
    obtain ⟨_, _, hfree⟩ := ha
    refine (I.hok b ob e).stay (fun c w' hc q => (hs.2 c ?_).trans q) (fun _ q => q) fun _ _ q => q
    rintro rfl
    rcases hc with rfl | hc
    · rw [hfree] at e; cases e
    · rw [hfree] at hc; cases hc
  rcases hx with hk | hk
  · refine wpAny_storeName_local hk hn (fun h' hn' hs => ?_) hcls
    obtain ⟨oL, _, _, hoL, _⟩ := id hn
    refine h _ ⟨I.ok, I.os, I.bare, ⟨fun b o e n hb hx => ?_, fun b o e n hb hx => ?_, I.base.free, fun b o e hx => ?_, I.base.tups, I.base.frzs, I.base.tbls⟩, ⟨_, hn', fun j y v' e1 e2 e3 => ?_⟩, fun y c e => ?_, I.free, I.freeC, fun p hp => ?_, tracked ⟨oL, hoL, I.free⟩ hs, by simpa using I.len⟩ ⟨_, hs, .inl rfl⟩
    · exact (hs.2 b (Nat.ne_of_lt (Nat.lt_of_lt_of_le (Heap.lt_size e) I.ok.above))).trans (I.base.keep b o e n hb hx)
    · obtain ⟨sl, e1⟩ := I.base.slot b o e n hb hx
      exact ⟨sl, (hs.2 b (Nat.ne_of_lt (Nat.lt_of_lt_of_le (Heap.lt_size e) I.ok.above))).trans e1⟩
    · obtain ⟨o', e1⟩ := I.base.there b o e hx
      exact ⟨o', (hs.2 b (Nat.ne_of_lt (Nat.lt_of_lt_of_le (Heap.lt_size e) I.ok.above))).trans e1⟩
    · by_cases hj : j = i
      · subst hj
        rw [hi] at e1; cases e1
        rw [List.getElem?_set_self hiσ] at e2
        cases e2
        exact ⟨u, r, .inl ⟨hk, by simp⟩⟩
      · rw [List.getElem?_set_ne (Ne.symm hj)] at e2
        obtain ⟨u', r', q⟩ := hl j y v' e1 e2 e3
        refine ⟨u', r', ?_⟩
        rcases q with ⟨k, e⟩ | ⟨k, c, e, z⟩
        · refine .inl ⟨k, ?_⟩
          have : y ≠ x := fun e => hj (nodup_ix hN e1 (e ▸ hi))
          simp [this, e]
        · exact .inr ⟨k, c, e, z.sameBut hs (cne y c e)⟩
    · obtain ⟨w', z⟩ := I.cell y c e
      exact ⟨w', z.sameBut hs (cne y c e)⟩
    · obtain ⟨e, n, ne, nf, d⟩ := I.pin p hp
      exact ⟨(hs.2 p.1 ne).trans e, n, ne, nf, d⟩
  · have hfn : X.fn x = true := by
      rcases hf with z | z
      · exact z
      · rw [z] at hk; cases hk
    obtain ⟨c, hc⟩ := I.ok.has x (.inl hk)
    obtain ⟨w', z⟩ := I.cell x c hc
    refine wpAny_storeName_cell I.ok.kind hk hc z (fun h' hc' hs => ?_)
    obtain ⟨oc, hoc, hocd⟩ := id z
    refine h { s with heap := h' } ⟨I.ok, I.os, I.bare, ⟨fun b o e n hb hx => ?_, fun b o e n hb hx => ?_, I.base.free, fun b o e hx => ?_, I.base.tups, I.base.frzs, I.base.tbls⟩, ⟨m, hn.sameBut hs (Ne.symm (cne x c hc)), fun j y v' e1 e2 e3 => ?_⟩, fun y c' e => ?_, I.free, I.freeC, fun p hp => ?_, tracked ⟨oc, hoc, I.freeC x c hc⟩ hs, by simpa using I.len⟩ ⟨c, hs, .inr hc⟩
    · exact (hs.2 b (Nat.ne_of_lt (Nat.lt_of_lt_of_le (Heap.lt_size e) (I.ok.cab x c hfn hc)))).trans (I.base.keep b o e n hb hx)
    · obtain ⟨sl, e1⟩ := I.base.slot b o e n hb hx
      exact ⟨sl, (hs.2 b (Nat.ne_of_lt (Nat.lt_of_lt_of_le (Heap.lt_size e) (I.ok.cab x c hfn hc)))).trans e1⟩
    · obtain ⟨o', e1⟩ := I.base.there b o e hx
      exact ⟨o', (hs.2 b (Nat.ne_of_lt (Nat.lt_of_lt_of_le (Heap.lt_size e) (I.ok.cab x c hfn hc)))).trans e1⟩
    · by_cases hj : j = i
      · subst hj
        rw [hi] at e1; cases e1
        rw [List.getElem?_set_self hiσ] at e2
        cases e2
        exact ⟨u, r, .inr ⟨.inl hk, c, hc, hc'⟩⟩
      · rw [List.getElem?_set_ne (Ne.symm hj)] at e2
        obtain ⟨u', r', q⟩ := hl j y v' e1 e2 e3
        refine ⟨u', r', ?_⟩
        rcases q with q | ⟨k, c', e, z'⟩
        · exact .inl q
        · refine .inr ⟨k, c', e, z'.sameBut hs ?_⟩
          rintro rfl
          exact hj (nodup_ix hN e1 (I.ok.inj _ _ _ e hc ▸ hi))
    · by_cases hcc : c' = c
      · subst hcc; exact ⟨_, hc'⟩
      · obtain ⟨w2, z2⟩ := I.cell y c' e
        exact ⟨w2, z2.sameBut hs hcc⟩
    · obtain ⟨e, n, ne, nf, d⟩ := I.pin p hp
      refine ⟨(hs.2 p.1 ?_).trans e, n, ne, nf, d⟩
      intro q
      rw [q, hoc] at e
      have q' : oc = p.2 := Option.some.inj e
      exact d w' (by rw [← q']; exact hocd)
theorem store_ok {M : Model} {A : Around} {E : Value → Shared → Prop} {i : Nat} {x : Str} {v : V} {u : Value} {Q : Unit → Shared → Prop} (I : Inv X pins σ H s) (hN : X.N.Nodup) (hi : X.N[i]? = some x) (hx : Loc X.env.scope x) (r : RelV v u)
    (h : ∀ s', Inv X pins (σ.set i (some v)) H s' → Q () s') (hf : X.fn x = true ∨ X.env.scope.names.lookup x = some .local := by first | exact .inl rfl | exact .inr rfl | assumption) : wpAny M A (storeName X.env x u) Q E s :=
  store_ok2 I hN hi hx r (fun s' I' _ => h s' I') hf
theorem Inv.call' {s' : Shared} {ch : List Addr} (I : Inv X pins σ H s) (ho : s'.os = s.os) (u : Un (frs X.stack) ch H H' s.heap s'.heap) (hok : HOk X.prog X.w H' s'.heap) (hg : AllBare s'.gens)
    (hch : ∀ b ∈ ch, (b ∈ X.ex ∨ X.s_0.heap.objs.size ≤ b) ∧ b ≠ X.env.locals ∧ (∀ x c, X.env.cells.lookup x = some c → c ≠ b) ∧ ∀ p ∈ X.pn ++ pins, p.1 ≠ b) : Inv X pins σ H' s' := by
  obtain ⟨h', g', d', t', o'⟩ := s'
  have e : o' = s.os := ho
  subst e
  exact I.call (g' := g') (t' := t') (d' := d') u hok hg hch
end
abbrev XK := Value → Option Addr → Hp → Prop
abbrev St := List (Option V)
abbrev VK := V → Hp → Prop
abbrev TE := St → Hp → VK → Prop
abbrev TT := St → Hp → (Bool → Hp → Prop) → Prop
abbrev TA := St → Hp → (List V → Hp → Prop) → Prop
structure Ends where
  nx : St → Hp → Prop
  rt : VK
  bk : St → Hp → Prop := fun _ _ => False
  ct : St → Hp → Prop := fun _ _ => False
abbrev TS := Ends → St → Hp → Prop
def EP (X : Cx) (pins : List (Addr × Obj)) (σ : St) (Q : VK) (u : Value) (s' : Shared) : Prop := ∃ v H', Inv X pins σ H' s' ∧ RelV v u ∧ Q v H'
def TP (X : Cx) (pins : List (Addr × Obj)) (σ : St) (Q : Bool → Hp → Prop) (b : Bool) (s' : Shared) : Prop := ∃ H', Inv X pins σ H' s' ∧ Q b H'
def AP (X : Cx) (pins : List (Addr × Obj)) (σ : St) (Q : List V → Hp → Prop) (us : List Value) (s' : Shared) : Prop := ∃ vs H', Inv X pins σ H' s' ∧ Vals vs us ∧ Q vs H'
def SP (X : Cx) (pins : List (Addr × Obj)) (D : Ends) (f : Flow) (s' : Shared) : Prop :=
  match f with
  | .next => ∃ σ' H', Inv X pins σ' H' s' ∧ D.nx σ' H'
  | .brk => ∃ σ' H', Inv X pins σ' H' s' ∧ D.bk σ' H'
  | .cont => ∃ σ' H', Inv X pins σ' H' s' ∧ D.ct σ' H'
  | .ret u => ∃ v σ' H', Inv X pins σ' H' s' ∧ RelV v u ∧ D.rt v H'
def PE (X : Cx) (e : Expr) (t : TE) : Prop :=
  ∀ (pins : List (Addr × Obj)) (s : Shared) (σ : St) (H : Hp) (Q : VK), Inv X pins σ H s → t σ H Q → wpAny (model X.prog X.w) X.A (eval e X.env) (EP X pins σ Q) X.xe s
def PT (X : Cx) (e : Expr) (t : TT) : Prop :=
  ∀ (pins : List (Addr × Obj)) (s : Shared) (σ : St) (H : Hp) (Q : Bool → Hp → Prop), Inv X pins σ H s → t σ H Q → wpAny (model X.prog X.w) X.A (isTrue e X.env (eval e X.env)) (TP X pins σ Q) X.xe s
def PW (X : Cx) (e : Expr) (t : TT) : Prop :=
  ∀ (whole : Sem Value) (pins : List (Addr × Obj)) (s : Shared) (σ : St) (H : Hp) (Q : Bool → Hp → Prop), Inv X pins σ H s → t σ H Q → wpAny (model X.prog X.w) X.A (isTrue e X.env whole) (TP X pins σ Q) X.xe s
theorem PW.pt {X : Cx} {e : Expr} {t : TT} (h : PW X e t) : PT X e t := h _
def PA (X : Cx) (es : List Expr) (t : TA) : Prop :=
  ∀ (pos : Pos) (pins : List (Addr × Obj)) (s : Shared) (σ : St) (H : Hp) (Q : List V → Hp → Prop), Inv X pins σ H s → t σ H Q → wpAny (model X.prog X.w) X.A (spliced (backTo pos (starEach es X.env))) (AP X pins σ Q) X.xe s
def PS (X : Cx) (st : Stmt) (t : TS) : Prop :=
  ∀ (pins : List (Addr × Obj)) (s : Shared) (σ : St) (H : Hp) (D : Ends), Inv X pins σ H s → t D σ H → wpAny (model X.prog X.w) X.A (exec st X.env) (SP X pins D) X.xe s
def PSs (X : Cx) (st : List Stmt) (t : TS) : Prop :=
  ∀ (pins : List (Addr × Obj)) (s : Shared) (σ : St) (H : Hp) (D : Ends), Inv X pins σ H s → t D σ H → wpAny (model X.prog X.w) X.A (execs st X.env) (SP X pins D) X.xe s
theorem thn {α : Type} {t : Sem α} {Q Q' : α → Shared → Prop} {M : Model} {A : Around} {E : Value → Shared → Prop} {s : Shared} (h : wpAny M A t Q E s) (hQ : ∀ a s, Q a s → Q' a s) : wpAny M A t Q' E s := wpAny_mono h hQ fun _ _ x => x
end L2
namespace L2
open PySem PySem.Spec PyProof.Rows
section
variable {X : Cx}
def tVar (i : Nat) : TE := fun σ H Q => ∃ v, σ[i]? = some (some v) ∧ Q v H
def tC (v : V) : TE := fun _ H Q => Q v H
theorem pe_var {i : Nat} {x : Str} {pos : Pos} (hN : X.N[i]? = some x) (hv : Vis X.env.scope x) (hd : (x == ("__debug__" : Str)) = false := by decide) (hcd : (x == ("__classdict__" : Str)) = false := by decide) : PE X (.Name x pos) (tVar i) := by
  intro pins s σ H Q I h
  obtain ⟨v, e, h⟩ := h
  obtain ⟨m, hn, hl⟩ := I.loc
  obtain ⟨u, r, l⟩ := hl i x v hN e hv
  have fin : EP X pins σ Q u s := ⟨v, H, I, r, h⟩
  rcases l with ⟨hk, hm⟩ | ⟨hk, c, hc, hcell⟩
  · exact wpAny_Name (wpAny_loadName_local I.ok.kind hk hn hm fin) hd
  · rcases hk with hk | hk
    · exact wpAny_Name (wpAny_loadName_cell I.ok.kind hk hc hcell fin) hd
    · exact wpAny_Name (wpAny_loadName_free I.ok.kind hk hc hcell fin hcd) hd
theorem pe_int {i j pos} : PE X (.Constant (.int i) j pos) (tC (.int i)) := fun _ _ _ H _ I h => wpAny_Constant_int ⟨.int i, H, I.tok _, ⟨_, rfl⟩, h⟩
theorem pe_bl {b j pos} : PE X (.Constant (.bool b) j pos) (tC (.bl b)) := fun _ _ _ H _ I h => Constant_bool ⟨.bl b, H, I, rfl, h⟩
theorem pe_non {j pos} : PE X (.Constant .none j pos) (tC .non) := fun _ _ _ H _ I h => Constant_none ⟨.non, H, I, rfl, h⟩
theorem pe_str {x j pos} : PE X (.Constant (.str x) j pos) (tC (.str x)) := fun _ _ _ H _ I h => Calls.Constant_str ⟨.str x, H, I.tok _, ⟨_, rfl⟩, h⟩
def Gl (X : Cx) (x : Str) : Prop := X.env.kindOf x = some .globalImplicit
theorem ld_glob {E : Value → Shared → Prop} {pins : List (Addr × Obj)} {s : Shared} {σ : St} {H : Hp} {x : Str} {u : Value} {pos : Pos} {Q : Value → Shared → Prop} (I : Inv X pins σ H s) (hg : Gl X x) (hm : X.mg x = some u) (h : Q u s)
    (hd : (x == ("__debug__" : Str)) = false := by decide) : wpAny (model X.prog X.w) X.A (eval (.Name x pos) X.env) Q E s :=
  Calls.Name_function_global I.ok.kind hg (Calls.loadGlobal_global (by rw [I.ok.glob]; exact I.mod.glob.keeps I.bk) hm h) hd
theorem ld_blt {E : Value → Shared → Prop} {pins : List (Addr × Obj)} {s : Shared} {σ : St} {H : Hp} {x : Str} {u : Value} {pos : Pos} {Q : Value → Shared → Prop} (I : Inv X pins σ H s) (hg : Gl X x) (hm : X.mg x = none) (hv : bootBuiltins x = some u) (h : Q u s)
    (hn : x ≠ "__name__" := by decide) (hd : (x == ("__debug__" : Str)) = false := by decide) : wpAny (model X.prog X.w) X.A (eval (.Name x pos) X.env) Q E s := by
  obtain ⟨mb, h1, h2⟩ := I.mod.blt
  exact Calls.Name_function_global I.ok.kind hg (Calls.loadGlobal_builtin (by rw [I.ok.glob]; exact I.mod.glob.keeps I.bk) hm (by rw [I.ok.blt]; exact h1.keeps I.bk) ((h2 x hn).trans hv) h) hd
theorem pe_glob {x : Str} {v : V} {u : Value} {pos : Pos} (hg : Gl X x) (hm : X.mg x = some u) (r : RelV v u) (hd : (x == ("__debug__" : Str)) = false := by decide) : PE X (.Name x pos) (tC v) :=
  fun _ _ _ H _ I h => ld_glob I hg hm ⟨v, H, I, r, h⟩ hd
theorem pe_bltn {x : Str} {v : V} {u : Value} {pos : Pos} (hg : Gl X x) (hm : X.mg x = none) (hv : bootBuiltins x = some u) (r : RelV v u) (hn : x ≠ "__name__" := by decide) (hd : (x == ("__debug__" : Str)) = false := by decide) : PE X (.Name x pos) (tC v) :=
  fun _ _ _ H _ I h => ld_blt I hg hm hv ⟨v, H, I, r, h⟩ hn hd
variable {a b : Expr} {ta tb : TE} {pos : Pos}
variable {tA tB' : TT} {rest : List Expr}
def tAnd (t u : TT) : TT := fun σ H Q => t σ H fun c H1 => if c = true then u σ H1 Q else Q false H1
def tOr (t u : TT) : TT := fun σ H Q => t σ H fun c H1 => if c = true then Q true H1 else u σ H1 Q
def tNot (t : TT) : TT := fun σ H Q => t σ H fun c H1 => Q (!c) H1
theorem pw_and1 (ha : PT X a tA) : PW X (.BoolOp .And [a] pos) tA := by
  intro wh pins s σ H Q I h
  refine isTrue_and (thn (ha pins s σ H Q I h) fun c s1 e => ?_)
  cases c with
  | true => exact isTrue_and_nil e
  | false => exact e
theorem pw_or1 (ha : PT X a tA) : PW X (.BoolOp .Or [a] pos) tA := by
  intro wh pins s σ H Q I h
  refine isTrue_or (thn (ha pins s σ H Q I h) fun c s1 e => ?_)
  cases c with
  | false => exact isTrue_or_nil e
  | true => exact e
theorem pw_and (ha : PT X a tA) (hb : PW X (.BoolOp .And (b :: rest) pos) tB') : PW X (.BoolOp .And (a :: b :: rest) pos) (tAnd tA tB') := by
  intro wh pins s σ H Q I h
  refine isTrue_and (thn (ha pins s σ H _ I h) fun c s1 ⟨H1, I1, q1⟩ => ?_)
  cases c with
  | true => exact hb wh pins s1 σ H1 Q I1 q1
  | false => exact ⟨H1, I1, q1⟩
theorem pw_or (ha : PT X a tA) (hb : PW X (.BoolOp .Or (b :: rest) pos) tB') : PW X (.BoolOp .Or (a :: b :: rest) pos) (tOr tA tB') := by
  intro wh pins s σ H Q I h
  refine isTrue_or (thn (ha pins s σ H _ I h) fun c s1 ⟨H1, I1, q1⟩ => ?_)
  cases c with
  | true => exact ⟨H1, I1, q1⟩
  | false => exact hb wh pins s1 σ H1 Q I1 q1
theorem pt_not (ha : PT X a tA) : PT X (.UnaryOp .Not a pos) (tNot tA) := by
  intro pins s σ H Q I h
  exact isTrue_not (ha pins s σ H (fun c H1 => Q (!c) H1) I h)
def tAndV (ta tb : TE) : TE := fun σ H Q => ta σ H fun x H1 => ∃ c, x = .bl c ∧ if c = true then tb σ H1 Q else Q (.bl false) H1
theorem pe_one {op} {t : TE} (h : PE X a t) : PE X (.BoolOp op [a] pos) t := fun pins s σ H Q I hw => BoolOp_one (h pins s σ H Q I hw)
theorem pe_and (ha : PE X a ta) (hb : PE X (.BoolOp .And (b :: rest) pos) tb) : PE X (.BoolOp .And (a :: b :: rest) pos) (tAndV ta tb) := by
  intro pins s σ H Q I h
  refine BoolOp_and (thn (ha pins s σ H _ I h) fun v s1 ⟨x, H1, I1, r1, q1⟩ => ?_)
  obtain ⟨c, rfl, q1⟩ := q1
  cases r1
  refine wpAny_truthy_bool ?_
  cases c with
  | true => exact hb pins s1 σ H1 Q I1 q1
  | false => exact ⟨.bl false, H1, I1, rfl, q1⟩
end
end L2
namespace L2
open PySem PySem.Spec PyProof.Rows
def SqL (K : PySem.W.Frag) (H : Hp) (a : Addr) (xs : List V) : Prop :=
  Rd H a (.lst xs) ∨
    ∃ (o : Obj) (its : Array Value) (n : Nat), K.lookup a = some o ∧ o.cls = .type "list" ∧ o.dict = none ∧ o.data = .seq its n ∧ its.size ≤ sizeLine ∧ Vals xs its.toList
def SqT (K : PySem.W.Frag) (H : Hp) (a : Addr) (xs : List V) : Prop :=
  Rd H a (.tup xs) ∨
    ∃ (o : Obj) (its : Array Value) (n : Nat), K.lookup a = some o ∧ o.cls = .type "tuple" ∧ o.data = .seq its n ∧ its.size ≤ sizeLine ∧ Vals xs its.toList
def absV : Value → Option V
  | .none => some .non
  | .bool b => some (.bl b)
  | .int i _ => some (.int i)
  | .str x _ => some (.str x)
  | .bytes b _ => some (.byt b)
  | .float b _ => some (.flt b)
  | .ref a => some (.ref a)
  | .type n => some (.ty n)
  | _ => none
theorem RelV.abs {x : V} {u : Value} (r : RelV x u) : absV u = some x := by
  cases x with
  | non => cases r; rfl
  | bl _ => cases r; rfl
  | int _ => obtain ⟨t, rfl⟩ := r; rfl
  | str _ => obtain ⟨t, rfl⟩ := r; rfl
  | byt _ => obtain ⟨t, rfl⟩ := r; rfl
  | flt _ => obtain ⟨t, rfl⟩ := r; rfl
  | ref _ => cases r; rfl
  | ty _ => cases r; rfl
theorem RelV.inj {x y : V} {u : Value} (r : RelV x u) (q : RelV y u) : x = y := Option.some.inj (r.abs.symm.trans q.abs)
theorem Vals.inj : ∀ {xs ys : List V} {us : List Value}, Vals xs us → Vals ys us → xs = ys
  | _, _, _, .nil, .nil => rfl
  | _, _, _, .cons r t, .cons r' t' => by rw [r.inj r', Vals.inj t t']
section
variable {X : Cx} {pins : List (Addr × Obj)} {σ : St} {H : Hp} {s : Shared} {a : Addr} {xs ys : List V}
theorem SqL.of {K : PySem.W.Frag} (h : H a = some (.lst xs)) : SqL K H a xs := .inl (.inl h)
theorem SqT.of {K : PySem.W.Frag} (h : H a = some (.tup xs)) : SqT K H a xs := .inl (.inl h)
theorem Inv.list (I : Inv X pins σ H s) (h : SqL X.K H a xs) : ∃ its : List Value, Vals xs its ∧ PlainL s.heap a its.toArray ∧ xs.length ≤ sizeLine := by
  rcases h with h | ⟨o, its, n, hk, hc, hd, hs, hz, r⟩
  · obtain ⟨z, its, n, r, e⟩ := h.ok I.hok
    exact ⟨its, r, ⟨_, n, e, rfl, rfl, rfl⟩, z⟩
  · refine ⟨its.toList, r, ⟨o, n, I.kIn a o hk, hc, hd, by simpa using hs⟩, ?_⟩
    have e := r.length
    simp only [Array.length_toList] at e
    omega
theorem Inv.tuple (I : Inv X pins σ H s) (h : SqT X.K H a xs) : ∃ its : List Value, Vals xs its ∧ IsTup s.heap a its.toArray ∧ xs.length ≤ sizeLine := by
  rcases h with h | ⟨o, its, n, hk, hc, hs, hz, r⟩
  · obtain ⟨z, its, r, p⟩ := h.ok I.hok
    exact ⟨its, r, p, z⟩
  · refine ⟨its.toList, r, ⟨o, I.kIn a o hk, hc, n, by simpa using hs⟩, ?_⟩
    have e := r.length
    simp only [Array.length_toList] at e
    omega
theorem Inv.list_inj (I : Inv X pins σ H s) (h : SqL X.K H a xs) (h' : SqL X.K H a ys) : xs = ys := by
  obtain ⟨its, r, ⟨o, n, e, _, _, d⟩, _⟩ := I.list h
  obtain ⟨its', r', ⟨o', n', e', _, _, d'⟩, _⟩ := I.list h'
  rw [e] at e'; cases e'
  rw [d] at d'
  injection d' with d1 _
  have : its = its' := by simpa using congrArg Array.toList d1
  subst this
  exact r.inj r'
theorem Inv.tuple_inj (I : Inv X pins σ H s) (h : SqT X.K H a xs) (h' : SqT X.K H a ys) : xs = ys := by
  obtain ⟨its, r, ⟨o, e, _, n, d⟩, _⟩ := I.tuple h
  obtain ⟨its', r', ⟨o', e', _, n', d'⟩, _⟩ := I.tuple h'
  rw [e] at e'; cases e'
  rw [d] at d'
  injection d' with d1 _
  have : its = its' := by simpa using congrArg Array.toList d1
  subst this
  exact r.inj r'
end
abbrev Cx.wish (X : Cx) (E : Value → Shared → Prop) : Cx := { X with xe := E }
abbrev Cx.nox (X : Cx) : Cx := X.wish fun _ _ => False
theorem Cx.Ok.wish {X : Cx} (ok : X.Ok) (E : Value → Shared → Prop) : (X.wish E).Ok :=
  ⟨ok.mod, ok.kind, ok.glob, ok.blt, ok.above, ok.inj, ok.has, ok.cab, ok.hd, ok.frames, ok.stk, ok.exf, ok.bs, ok.bsz, ok.noex, ok.exfs, ok.funs, ok.frf⟩
theorem Cx.Ok.unwish {X : Cx} {E : Value → Shared → Prop} (ok : (X.wish E).Ok) : X.Ok :=
  ⟨ok.mod, ok.kind, ok.glob, ok.blt, ok.above, ok.inj, ok.has, ok.cab, ok.hd, ok.frames, ok.stk, ok.exf, ok.bs, ok.bsz, ok.noex, ok.exfs, ok.funs, ok.frf⟩
section
variable {X : Cx} {pins : List (Addr × Obj)} {σ : St} {H : Hp} {s : Shared} {E : Value → Shared → Prop}
theorem Inv.wish (I : Inv X pins σ H s) (E : Value → Shared → Prop) : Inv (X.wish E) pins σ H s := ⟨I.ok.wish E, I.os, I.bare, I.base, I.loc, I.cell, I.free, I.freeC, I.pin, I.hok, I.len⟩
theorem Inv.unwish (I : Inv (X.wish E) pins σ H s) : Inv X pins σ H s := ⟨I.ok.unwish, I.os, I.bare, I.base, I.loc, I.cell, I.free, I.freeC, I.pin, I.hok, I.len⟩
theorem SP.unwish {D : Ends} {f : Flow} {s' : Shared} (h : SP (X.wish E) pins D f s') : SP X pins D f s' := by
  cases f with
  | next => obtain ⟨σ', H', I, q⟩ := h; exact ⟨σ', H', I.unwish, q⟩
  | brk => obtain ⟨σ', H', I, q⟩ := h; exact ⟨σ', H', I.unwish, q⟩
  | cont => obtain ⟨σ', H', I, q⟩ := h; exact ⟨σ', H', I.unwish, q⟩
  | ret u => obtain ⟨v, σ', H', I, r, q⟩ := h; exact ⟨v, σ', H', I.unwish, r, q⟩
theorem PE.nox {e : Expr} {t : TE} (h : PE X.nox e t) : PE X e t := fun pins s σ H Q I hw =>
  wpAny_mono (h pins s σ H Q (I.wish _) hw) (fun _ _ ⟨v, H', I', r, q⟩ => ⟨v, H', I'.unwish, r, q⟩) fun _ _ z => False.elim z
theorem PT.nox {e : Expr} {t : TT} (h : PT X.nox e t) : PT X e t := fun pins s σ H Q I hw =>
  wpAny_mono (h pins s σ H Q (I.wish _) hw) (fun _ _ ⟨H', I', q⟩ => ⟨H', I'.unwish, q⟩) fun _ _ z => False.elim z
theorem PSs.nox {st : List Stmt} {t : TS} (h : PSs X.nox st t) : PSs X st t := fun pins s σ H D I hw =>
  wpAny_mono (h pins s σ H D (I.wish _) hw) (fun _ _ q => q.unwish) fun _ _ z => False.elim z
end
section
variable {X : Cx} {st : Stmt} {rest : List Stmt} {t u : TS} {e : Expr} {te : TE} {pos : Pos}
def tNext : TS := fun D σ H => D.nx σ H
def tSeq (t u : TS) : TS := fun D σ H => t { D with nx := u D } σ H
theorem pss_nil : PSs X [] tNext := fun _ _ σ H _ I h => wpAny_execs_nil ⟨σ, H, I, h⟩
theorem pss_cons (h1 : PS X st t) (h2 : PSs X rest u) : PSs X (st :: rest) (tSeq t u) := by
  intro pins s σ H D I h
  refine wpAny_execs_cons (thn (h1 pins s σ H { D with nx := u D } I h) fun f s1 q => ?_)
  cases f with
  | next =>
    obtain ⟨σ', H', I', q⟩ := q
    exact h2 pins s1 σ' H' D I' q
  | ret v => exact q
  | brk => exact q
  | cont => exact q
theorem pss_one (h1 : PS X st t) : PSs X [st] t := by
  intro pins s σ H D I h
  refine wpAny_execs_cons (thn (h1 pins s σ H D I h) fun f s1 q => ?_)
  cases f with
  | next => exact wpAny_execs_nil q
  | ret v => exact q
  | brk => exact q
  | cont => exact q
theorem Inv.quiet {pins : List (Addr × Obj)} {σ : St} {H : Hp} {s : Shared} (I : Inv X pins σ H s) : interactive X.env = false := by simp [interactive, I.ok.kind]
def tDrop (te : TE) : TS := fun D σ H => te σ H fun _ H1 => D.nx σ H1
theorem ps_expr (he : PE X e te) (hs : swapsWith e none pos.line X.env = pure false := by rfl) : PS X (.Expr e pos) (tDrop te) := by
  intro pins s σ H D I h
  exact wpAny_Expr_any (thn (he pins s σ H _ I h) fun v s1 ⟨x, H1, I1, r1, q1⟩ => ⟨σ, H1, I1, q1⟩) I.quiet hs
def tRet (te : TE) : TS := fun D σ H => te σ H D.rt
theorem ps_ret (he : PE X e te) : PS X (.Return (some e) pos) (tRet te) := by
  intro pins s σ H D I h
  exact wpAny_Return_some (thn (he pins s σ H _ I h) fun v s1 ⟨x, H1, I1, r1, q1⟩ => ⟨x, σ, H1, I1, r1, q1⟩)
def tIfS (c : TT) (t u : TS) : TS := fun D σ H => c σ H fun b H1 => if b = true then t D σ H1 else u D σ H1
theorem ps_if {c : Expr} {a b : List Stmt} {tc : TT} (hc : PT X c tc) (ha : PSs X a t) (hb : PSs X b u) : PS X (.If c a b pos) (tIfS tc t u) := by
  intro pins s σ H D I h
  refine wpAny_If (thn (hc pins s σ H _ I h) fun d s1 ⟨H1, I1, q1⟩ => ?_)
  cases d with
  | true => exact ha pins s1 σ H1 D I1 q1
  | false => exact hb pins s1 σ H1 D I1 q1
end
abbrev TG := V → St → Hp → (St → Hp → Prop) → Prop
abbrev TGs := List V → St → Hp → (St → Hp → Prop) → Prop
def PG (X : Cx) (target : Expr) (t : TG) : Prop :=
  ∀ (pins : List (Addr × Obj)) (s : Shared) (σ : St) (H : Hp) (v : V) (u : Value) (Q : St → Hp → Prop), Inv X pins σ H s → RelV v u → t v σ H Q →
    wpAny (model X.prog X.w) X.A (assign target X.env u) (fun _ s' => ∃ σ' H', Inv X pins σ' H' s' ∧ Q σ' H') X.xe s
def PGs (X : Cx) (ts : List Expr) (t : TGs) : Prop :=
  ∀ (pins : List (Addr × Obj)) (s : Shared) (σ : St) (H : Hp) (vs : List V) (us : List Value) (Q : St → Hp → Prop), Inv X pins σ H s → Vals vs us → t vs σ H Q →
    wpAny (model X.prog X.w) X.A (assignInOrder ((assignEach ts X.env).map (·.2)) us) (fun _ s' => ∃ σ' H', Inv X pins σ' H' s' ∧ Q σ' H') X.xe s
abbrev TSet := V → V → V → Hp → (Hp → Prop) → Prop
def PSet (X : Cx) (t : TSet) : Prop :=
  ∀ (pins : List (Addr × Obj)) (s : Shared) (σ : St) (H : Hp) (o i v : V) (ov iv u : Value) (Q : Hp → Prop), Inv X pins σ H s → RelV o ov → RelV i iv → RelV v u → t o i v H Q →
    wpAny (model X.prog X.w) X.A (setItem ov iv u) (fun _ s' => ∃ H', Inv X pins σ H' s' ∧ Q H') X.xe s
section
variable {X : Cx} {pos : Pos}
def gName (i : Nat) : TG := fun v σ H Q => Q (σ.set i (some v)) H
theorem pg_name {i : Nat} {x : Str} (hN : X.N.Nodup) (hi : X.N[i]? = some x) (hx : Loc X.env.scope x) (hf : X.fn x = true ∨ X.env.scope.names.lookup x = some .local := by first | exact .inl rfl | exact .inr rfl | assumption) : PG X (.Name x pos) (gName i) := by
  intro pins s σ H v u Q I r h
  exact wpAny_assign_Name (store_ok I hN hi hx r (fun s' I' => ⟨_, H, I', h⟩) hf)
def gNil : TGs := fun vs σ H Q => vs = [] ∧ Q σ H
def gCons (t : TG) (u : TGs) : TGs := fun vs σ H Q => ∃ v r, vs = v :: r ∧ t v σ H fun σ' H' => u r σ' H' Q
theorem pgs_nil : PGs X [] gNil := by
  intro pins s σ H vs us Q I r h
  obtain ⟨e, h⟩ := h
  subst e
  cases r
  exact assignInOrder_nil ⟨σ, H, I, h⟩
theorem pgs_cons {e : Expr} {es : List Expr} {t : TG} {u : TGs} (h1 : PG X e t) (h2 : PGs X es u)
    (hs : (assignEach (e :: es) X.env).map (·.2) = assign e X.env :: (assignEach es X.env).map (·.2) := by rfl) : PGs X (e :: es) (gCons t u) := by
  intro pins s σ H vs us Q I r h
  obtain ⟨v, vr, e1, h⟩ := h
  subst e1
  cases r with
  | cons r rr =>
    rw [hs]
    refine assignInOrder_cons (thn (h1 pins s σ H _ _ _ I r h) fun _ s1 ⟨σ1, H1, I1, q1⟩ => ?_)
    exact h2 pins s1 σ1 H1 _ _ Q I1 rr q1
def gTup (K : PySem.W.Frag) (n : Nat) (t : TGs) : TG := fun v σ H Q => ∃ a xs, v = .ref a ∧ SqT K H a xs ∧ xs.length = n ∧ t xs σ H Q
theorem pg_tup {es : List Expr} {k : Nat} {t : TGs} {n : Nat} (hc : X.calm = true) (h : PGs X es t)
    (hn : (assignEach es X.env).length = n := by rfl) (hst : (assignEach es X.env).findIdx? (·.1) = none := by rfl) : PG X (.Tuple es k pos) (gTup X.K n t) := by
  intro pins s σ H v u Q I r hw
  obtain ⟨a, xs, e1, hq, hl, hw⟩ := hw
  subst e1
  cases r
  obtain ⟨its, rv, ht, hz⟩ := I.tuple hq
  refine assign_Tuple_tuple (I.ok.hd hc) ht (by simp [hn, ← hl, rv.length]) hst fun h' hx => ?_
  have I1 : Inv X pins σ H { s with heap := h' } := I.kept (t' := s.toks) fun b o e => hx b o (Nat.ne_of_lt (Heap.lt_size e)) e
  exact h pins _ σ H xs _ Q I1 (by simpa using rv) hw
def gSub (to ti : TE) (t : TSet) : TG := fun v σ H Q => to σ H fun o H1 => ti σ H1 fun i H2 => t o i v H2 fun H3 => Q σ H3
theorem pg_sub {o i : Expr} {to ti : TE} {t : TSet} (ho : PE X o to) (hi : PE X i ti) (hs : PSet X t)
    (ha : ∀ v, assign (.Subscript o i pos) X.env v = (do
      let ov ← holding [v] (eval o X.env)
      let iv ← holding [v, ov] (eval i X.env)
      standAt pos
      holding [v, ov, iv] (setItem ov iv v)
      release [v, ov, iv] []) := by intro _; rfl) : PG X (.Subscript o i pos) (gSub to ti t) := by
  intro pins s σ H v u Q I r h
  rw [ha]
  refine wpAny_bind (wpAny_holding (thn (ho pins s σ H _ I h) fun ov s1 ⟨x, H1, I1, r1, q1⟩ => ?_))
  refine wpAny_bind (wpAny_holding (thn (hi pins s1 σ H1 _ I1 q1) fun iv s2 ⟨y, H2, I2, r2, q2⟩ => ?_))
  refine wpAny_bind (wpAny_standAt (wpAny_bind (wpAny_holding (thn (hs pins s2 σ H2 x y v ov iv u _ I2 r1 r2 r q2) fun _ s3 ⟨H3, I3, q3⟩ => ?_))))
  exact wpAny_release ⟨σ, H3, I3, q3⟩
def tAsg (te : TE) (g : TG) : TS := fun D σ H => te σ H fun x H1 => g x σ H1 D.nx
theorem ps_asg {tg e : Expr} {te : TE} {g : TG} (he : PE X e te) (hg : PG X tg g) (hs : swapsWithSole [tg] e pos.line X.env = pure false := by rfl) (hw : swappedStores [tg] e X.env = pure none := by rfl)
    (h1 : (assignEach [tg] X.env).map (·.2) = [assign tg X.env] := by rfl) : PS X (.Assign [tg] e pos) (tAsg te g) := by
  intro pins s σ H D I h
  refine wpAny_Assign_stores (thn (he pins s σ H _ I h) fun v s1 ⟨x, H1, I1, r1, q1⟩ => ?_) hs hw
  rw [h1]
  exact thn (hg pins s1 σ H1 x v _ I1 r1 q1) fun _ s2 q => q
theorem ps_set {i : Nat} {x : Str} {e : Expr} {te : TE} {pos' : Pos} (hN : X.N.Nodup) (hi : X.N[i]? = some x) (hx : Loc X.env.scope x) (he : PE X e te) (hs : swapsWith e (some (.Name x pos')) pos.line X.env = pure false := by rfl) (hf : X.fn x = true ∨ X.env.scope.names.lookup x = some .local := by first | exact .inl rfl | exact .inr rfl | assumption) :
    PS X (.Assign [.Name x pos'] e pos) (tAsg te (gName i)) := by
  intro pins s σ H D I h
  refine wpAny_Assign_Name (thn (he pins s σ H _ I h) fun v s1 ⟨y, H1, I1, r1, q1⟩ => ?_) hs
  exact store_ok I1 hN hi hx r1 (fun s2 I2 => ⟨_, H1, I2, q1⟩) hf
end
section
variable {X : Cx} {pos : Pos}
def tWhile (c : TT) (tb : TS) : TS := fun D σ H => ∃ W : Nat → St → Hp → Prop, (∃ m, W m σ H) ∧ ∀ m σ H, W m σ H →
  c σ H fun b H1 => if b = true then ∃ N : St → Hp → Prop, (∀ σ' H', N σ' H' → ∃ m', m' < m ∧ W m' σ' H') ∧ tb { D with nx := N, ct := N, bk := D.nx } σ H1 else D.nx σ H1
theorem ps_while {c : Expr} {body : List Stmt} {tc : TT} {tb : TS} (hp : PassesOwn (model X.prog X.w) X.A X.env X.xe) (hc : PT X c tc) (hb : PSs X body tb) : PS X (.While c body [] pos) (tWhile tc tb) := by
  intro pins s σ H D I h
  obtain ⟨W, ⟨m0, w0⟩, turn⟩ := h
  refine wpAny_While (codeAny_whileLoop (fun n s' => ∃ σ' H', Inv X pins σ' H' s' ∧ W n σ' H') ?_ m0 ⟨σ, H, I, w0⟩)
  rintro n s1 ⟨σ1, H1, I1, w1⟩
  refine wpAny_passesOwn hp (thn (hc pins s1 σ1 H1 _ I1 (turn n σ1 H1 w1)) fun b s2 ⟨H2, I2, q2⟩ => ?_)
  cases b with
  | true =>
    obtain ⟨N, hN, q2⟩ := q2
    rw [if_pos rfl]
    refine wpAny_passesOwn hp (thn (hb pins s2 σ1 H2 _ I2 q2) fun f s3 q3 => ?_)
    cases f with
    | next =>
      obtain ⟨σ3, H3, I3, n3⟩ := q3
      obtain ⟨m', hm, w3⟩ := hN σ3 H3 n3
      exact ⟨m', hm, σ3, H3, I3, w3⟩
    | cont =>
      obtain ⟨σ3, H3, I3, n3⟩ := q3
      obtain ⟨m', hm, w3⟩ := hN σ3 H3 n3
      exact ⟨m', hm, σ3, H3, I3, w3⟩
    | brk => exact q3
    | ret v => exact q3
  | false =>
    rw [if_neg Bool.false_ne_true]
    exact wpAny_execs_nil ⟨σ1, H2, I2, q2⟩
end
structure It where
  go : Nat → Hp → Prop
  yld : Nat → Hp → V → Hp → Prop
  stop : Nat → Hp → Prop
def FpOk (X : Cx) (pins : List (Addr × Obj)) (H : Hp) (b : Addr) : Prop :=
  H b = none ∧ b ≠ X.env.locals ∧ b ∉ X.fs ∧ (b ∈ X.ex ∨ X.s_0.heap.objs.size ≤ b) ∧ (∀ x c, X.env.cells.lookup x = some c → c ≠ b) ∧ ∀ p ∈ X.pn ++ pins, p.1 ≠ b
theorem Inv.fpOk {X : Cx} {pins : List (Addr × Obj)} {σ : St} {H H' : Hp} {s : Shared} {b : Addr} (I : Inv X pins σ H s) (hb : s.heap.objs.size ≤ b) (hn : H' b = none) : FpOk X pins H' b := by
  refine ⟨hn, Nat.ne_of_gt (Nat.lt_of_lt_of_le I.lt hb), I.nofs hb, .inr (Nat.le_trans I.sz hb), fun x c e z => ?_, fun p hp z => ?_⟩
  · obtain ⟨v, q⟩ := I.cell x c e
    exact absurd (Nat.lt_of_lt_of_le q.lt (by rw [z]; exact hb)) (Nat.lt_irrefl _)
  · exact absurd (Nat.lt_of_lt_of_le (Heap.lt_size (I.pin p hp).1) (by rw [z]; exact hb)) (Nat.lt_irrefl _)
structure Turn (P : Program) (w : World) (K : PySem.W.Frag) (tg : Expr) (J : It) (fp : List Addr) (it : Addr) (tn : Nat → Heap → Prop) : Prop where
  mem : it ∈ fp
  obj : ∀ i h, tn i h → ∀ b ∈ fp, ∃ o, h.get? b = some o ∧ ∀ v, o.data ≠ .cell v
  keep : ∀ i h h', tn i h → (∀ b ∈ fp, ∀ o, h.get? b = some o → h'.get? b = some o) → tn i h'
  item : ∀ (X : Cx), X.prog = P → X.w = w → X.K = K → X.calm = true → ∀ (i : Nat) (pins : List (Addr × Obj)) (s : Shared) (σ : St) (H : Hp) (E : Value → Shared → Prop), Inv X pins σ H s → (∀ b ∈ fp, FpOk X pins H b) → tn i s.heap → J.go i H →
    wpAny (model P w) X.A (pyNext (.ref it)) (fun r s1 => ∃ u, r = some u ∧
      wpAny (model P w) X.A (letOwnedTupleGo tg (.ref it) u) (fun _ s2 => ∃ x H', Inv X pins σ H' s2 ∧ RelV x u ∧ J.yld i H x H' ∧ tn (i + 1) s2.heap ∧ ∀ b ∈ fp, H' b = none) E s1) E s
  done : ∀ (X : Cx), X.prog = P → X.w = w → X.K = K → X.calm = true → ∀ (i : Nat) (pins : List (Addr × Obj)) (s : Shared) (σ : St) (H : Hp) (E : Value → Shared → Prop), Inv X pins σ H s → (∀ b ∈ fp, FpOk X pins H b) → tn i s.heap → J.stop i H →
    wpAny (model P w) X.A (pyNext (.ref it)) (fun r s1 => r = none ∧ Inv X pins σ H s1) E s
  self : ∀ (A : Around) (i : Nat) (s : Shared) (Q : Value → Shared → Prop) (E : Value → Shared → Prop), tn i s.heap → Q (.ref it) s → wpAny (model P w) A (pyIter (.ref it)) Q E s
abbrev TI := St → Hp → (It → Hp → Prop) → Prop
def PIE (X : Cx) (pins : List (Addr × Obj)) (σ : St) (tg : Expr) (R : It → Hp → Prop) (itv : Value) (s2 : Shared) : Prop :=
  ∃ (it : Addr) (fp : List Addr) (tn : Nat → Heap → Prop) (J : It) (H' : Hp), itv = .ref it ∧ Inv X pins σ H' s2 ∧ Turn X.prog X.w X.K tg J fp it tn ∧ tn 0 s2.heap ∧ (∀ b ∈ fp, FpOk X pins H' b) ∧ R J H'
def PI (X : Cx) (tg iter : Expr) (wi : TI) : Prop :=
  ∀ (pins : List (Addr × Obj)) (s : Shared) (σ : St) (H : Hp) (R : It → Hp → Prop), Inv X pins σ H s → wi σ H R →
    wpAny (model X.prog X.w) X.A (eval iter X.env) (fun v s1 => wpAny (model X.prog X.w) X.A (pyIter v) (PIE X pins σ tg R) X.xe s1) X.xe s
theorem go_of {M : Model} {A : Around} {E : Value → Shared → Prop} {s : Shared} {tg : Expr} {it : Addr} {u : Value} {o : Obj} {n : String} {vs : Array Value} {Q : Unit → Shared → Prop} (ho : s.heap.get? it = some o) (hc : o.cls = .type n) (hd : o.data = .fields vs)
    (hn : ["enumerate", "zip", "dict_itemiterator", "dict_reverseitemiterator", "odict_iterator", "itertools.zip_longest", "itertools.pairwise"].contains n = false) (hQ : Q () s) : wpAny M A (letOwnedTupleGo tg (.ref it) u) Q E s := by
  unfold letOwnedTupleGo
  cases tg <;> first
    | exact wpAny_pure hQ
    | (cases u <;> first
        | exact wpAny_pure hQ
        | (refine wpAny_bind (wpAny_load ho ?_)
           rw [hc, hd]
           show wpAny M A (if (["enumerate", "zip", "dict_itemiterator", "dict_reverseitemiterator", "odict_iterator", "itertools.zip_longest", "itertools.pairwise"].contains n && vs[0]? == some (rawInt _)) = true then _ else _) Q E s
           rw [if_neg (by intro h; rw [hn, Bool.false_and] at h; cases h)]
           exact wpAny_pure hQ))
def Itl (K : PySem.W.Frag) (a : Addr) : It :=
  ⟨fun i H => ∃ xs x, SqL K H a xs ∧ xs[i]? = some x, fun i H x H' => H' = H ∧ ∀ xs, SqL K H a xs → xs[i]? = some x, fun i H => ∃ xs, SqL K H a xs ∧ xs.length ≤ i⟩
def Itt (K : PySem.W.Frag) (a : Addr) : It :=
  ⟨fun i H => ∃ xs x, SqT K H a xs ∧ xs[i]? = some x, fun i H x H' => H' = H ∧ ∀ xs, SqT K H a xs → xs[i]? = some x, fun i H => ∃ xs, SqT K H a xs ∧ xs.length ≤ i⟩
def Itr (lo : Int) (n : Nat) : It := ⟨fun i _ => i < n, fun i H x H' => H' = H ∧ x = .int (lo + i), fun i _ => n ≤ i⟩
theorem turn_list {P : Program} {w : World} {K : PySem.W.Frag} {tg : Expr} (a it : Addr) : Turn P w K tg (Itl K a) [it] it (fun i h => h.IsListIter it a i) where
  mem := by simp
  obj := fun i h st b hb => by
    have e : b = it := by simpa using hb
    subst e
    obtain ⟨o, e, c, d⟩ := st
    exact ⟨o, e, fun v z => by rw [d] at z; cases z⟩
  keep := fun i h h' st k => st.at fun o e => k it (by simp) o e
  item := by
    intro X hP hw hK hc i pins s σ H E I hf st hg
    subst hP hw hK
    obtain ⟨xs, x, hq, hx⟩ := hg
    obtain ⟨its, rv, p, hz⟩ := I.list hq
    obtain ⟨u, hu, ru⟩ := rv.get hx
    obtain ⟨f0, f1, f2, f3, f4, f5⟩ := hf it (by simp)
    refine wpAny_pyNext_list_item st p.isList (x := u) (by simpa using hu) fun h' st' sb => ?_
    have I1 : Inv X pins σ H { s with heap := h' } := I.turned (t' := s.toks) (fun b o hb e => (sb.2 b hb).trans e) f0 f1 f3 f4 f5
    obtain ⟨o, e, c, d⟩ := id st'
    exact ⟨u, rfl, go_of (s := { s with heap := h' }) e c d (by decide) ⟨x, H, I1, ru, ⟨rfl, fun ys hy => by rw [I.list_inj hy hq]; exact hx⟩, st', fun b hb => (hf b hb).1⟩⟩
  done := by
    intro X hP hw hK hc i pins s σ H E I hf st hg
    subst hP hw hK
    obtain ⟨xs, hq, hx⟩ := hg
    obtain ⟨its, rv, p, hz⟩ := I.list hq
    obtain ⟨f0, f1, f2, f3, f4, f5⟩ := hf it (by simp)
    have hl := rv.length
    exact wpAny_pyNext_list_end (I.ok.hd hc) st p.isList (by simp; omega) fun h' eb => ⟨rfl, I.turned (t' := s.toks) (fun b o hb e => eb b o hb e) f0 f1 f3 f4 f5⟩
  self := fun _ _ _ _ _ st h => wpAny_pyIter_listiter st h
theorem turn_tuple {P : Program} {w : World} {K : PySem.W.Frag} {tg : Expr} (a it : Addr) : Turn P w K tg (Itt K a) [it] it (fun i h => h.IsTupleIter it a i) where
  mem := by simp
  obj := fun i h st b hb => by
    have e : b = it := by simpa using hb
    subst e
    obtain ⟨o, e, c, d⟩ := st
    exact ⟨o, e, fun v z => by rw [d] at z; cases z⟩
  keep := fun i h h' st k => st.at fun o e => k it (by simp) o e
  item := by
    intro X hP hw hK hc i pins s σ H E I hf st hg
    subst hP hw hK
    obtain ⟨xs, x, hq, hx⟩ := hg
    obtain ⟨its, rv, p, hz⟩ := I.tuple hq
    obtain ⟨u, hu, ru⟩ := rv.get hx
    obtain ⟨f0, f1, f2, f3, f4, f5⟩ := hf it (by simp)
    refine wpAny_pyNext_tuple_item st (show s.heap.IsTuple a its.toArray from p) (x := u) (by simpa using hu) fun h' st' sb => ?_
    have I1 : Inv X pins σ H { s with heap := h' } := I.turned (t' := s.toks) (fun b o hb e => (sb.2 b hb).trans e) f0 f1 f3 f4 f5
    obtain ⟨o, e, c, d⟩ := id st'
    exact ⟨u, rfl, go_of (s := { s with heap := h' }) e c d (by decide) ⟨x, H, I1, ru, ⟨rfl, fun ys hy => by rw [I.tuple_inj hy hq]; exact hx⟩, st', fun b hb => (hf b hb).1⟩⟩
  done := by
    intro X hP hw hK hc i pins s σ H E I hf st hg
    subst hP hw hK
    obtain ⟨xs, hq, hx⟩ := hg
    obtain ⟨its, rv, p, hz⟩ := I.tuple hq
    obtain ⟨f0, f1, f2, f3, f4, f5⟩ := hf it (by simp)
    have hl := rv.length
    exact wpAny_pyNext_tuple_end (I.ok.hd hc) st (show s.heap.IsTuple a its.toArray from p) (by simp; omega) fun h' eb => ⟨rfl, I.turned (t' := s.toks) (fun b o hb e => eb b o hb e) f0 f1 f3 f4 f5⟩
  self := fun _ _ _ _ _ st h => wpAny_pyIter_tupleiter st h
theorem turn_range {P : Program} {w : World} {K : PySem.W.Frag} {tg : Expr} (it : Addr) (lo : Int) (n : Nat) : Turn P w K tg (Itr lo n) [it] it (fun i h => IsRangeIter h it (lo + (i : Nat) * 1) ((n : Int) - (i : Nat)) 1) where
  mem := by simp
  obj := fun i h st b hb => by
    have e : b = it := by simpa using hb
    subst e
    exact ⟨_, st, fun v z => by
      have z' : Data.fields _ = Data.cell v := z
      cases z'⟩
  keep := fun i h h' st k => k it (by simp) _ st
  item := by
    intro X hP hw hK hc i pins s σ H E I hf st hg
    subst hP hw hK
    obtain ⟨f0, f1, f2, f3, f4, f5⟩ := hf it (by simp)
    have W := Walks.range (prog := X.prog) (w := X.w) (I.ok.hd hc) it lo 1 n
    refine W.item i s _ _ hg st fun v h' tk hv st' kk => ?_
    obtain ⟨t, rfl⟩ := hv
    have I1 : Inv X pins σ H { s with heap := h', toks := tk } := I.turned (fun b o hb e => kk b o (by simpa using hb) e) f0 f1 f3 f4 f5
    refine ⟨_, rfl, go_of (s := { s with heap := h', toks := tk }) (n := "range_iterator") st' rfl rfl (by decide) ⟨.int (lo + i), H, I1, ⟨t, ?_⟩, ⟨rfl, rfl⟩, st', fun b hb => (hf b hb).1⟩⟩
    rw [Int.mul_one]
  done := by
    intro X hP hw hK hc i pins s σ H E I hf st hg
    subst hP hw hK
    obtain ⟨f0, f1, f2, f3, f4, f5⟩ := hf it (by simp)
    exact wpAny_pyNext_range_end (I.ok.hd hc) st (by have : n ≤ i := hg; omega) fun h' eb => ⟨rfl, I.turned (t' := s.toks) (fun b o hb e => eb b o hb e) f0 f1 f3 f4 f5⟩
  self := fun _ _ _ _ _ st h => wpAny_pyIter_rangeiter st h
end L2
namespace L2
open PySem PySem.Spec PyProof.Rows
section
variable {X : Cx} {tg : Expr}
def iList (K : PySem.W.Frag) (tl : TE) : TI := fun σ H R => tl σ H fun x H1 => ∃ a, x = .ref a ∧ (∃ xs, SqL K H1 a xs) ∧ R (Itl K a) H1
def iTup (K : PySem.W.Frag) (tl : TE) : TI := fun σ H R => tl σ H fun x H1 => ∃ a, x = .ref a ∧ (∃ xs, SqT K H1 a xs) ∧ R (Itt K a) H1
theorem pi_list {l : Expr} {tl : TE} (hl : PE X l tl) : PI X tg l (iList X.K tl) := by
  intro pins s σ H R I h
  refine thn (hl pins s σ H _ I h) fun v s1 ⟨x, H1, I1, r1, q1⟩ => ?_
  obtain ⟨a, e, ⟨xs, hq⟩, q⟩ := q1
  subst e
  cases r1
  obtain ⟨its, rv, p, hz⟩ := I1.list hq
  refine wpAny_pyIter_list p.isList ?_
  refine ⟨s1.heap.objs.size, [s1.heap.objs.size], _, _, H1, rfl, I1.kept (t' := s1.toks) fun b o e => Heap.get?_push_of_some _ e, turn_list a _, ⟨_, Heap.get?_push_size _ rfl, rfl, rfl⟩, fun b hb => ?_, q⟩
  have e : b = s1.heap.objs.size := by simpa using hb
  subst e
  exact I1.fpOk (Nat.le_refl _) (I1.hok.fresh (Nat.le_refl _))
theorem pi_tup {l : Expr} {tl : TE} (hl : PE X l tl) : PI X tg l (iTup X.K tl) := by
  intro pins s σ H R I h
  refine thn (hl pins s σ H _ I h) fun v s1 ⟨x, H1, I1, r1, q1⟩ => ?_
  obtain ⟨a, e, ⟨xs, hq⟩, q⟩ := q1
  subst e
  cases r1
  obtain ⟨its, rv, p, hz⟩ := I1.tuple hq
  refine wpAny_pyIter_tuple (show s1.heap.IsTuple a its.toArray from p) ?_
  refine ⟨s1.heap.objs.size, [s1.heap.objs.size], _, _, H1, rfl, I1.kept (t' := s1.toks) fun b o e => Heap.get?_push_of_some _ e, turn_tuple a _, ⟨_, Heap.get?_push_size _ rfl, rfl, rfl⟩, fun b hb => ?_, q⟩
  have e : b = s1.heap.objs.size := by simpa using hb
  subst e
  exact I1.fpOk (Nat.le_refl _) (I1.hok.fresh (Nat.le_refl _))
theorem range_it {pins : List (Addr × Obj)} {σ : St} {H : Hp} {s : Shared} {R : It → Hp → Prop} {E : Value → Shared → Prop} {lo hi : Int} {t u v : Tok} {tk : Nat} (I : Inv X pins σ H s) (h1 : -(2 ^ 62) ≤ lo) (h2 : lo < 2 ^ 62) (h3 : -(2 ^ 62) ≤ hi) (h4 : hi < 2 ^ 62)
    (q : R (Itr lo (hi - lo).toNat) H) : wpAny (model X.prog X.w) X.A (pyIter (.ref s.heap.objs.size)) (PIE X pins σ tg R) E { s with heap := s.heap.push { cls := .type "range", data := .fields #[.int lo t, .int hi u, .int 1 v] }, toks := tk } := by
  refine wpAny_pyIter_range (IsRange.new ..) (small_one h1 h2 h3 h4) ?_
  have I1 : Inv X pins σ H { s with heap := s.heap.push { cls := .type "range", data := .fields #[.int lo t, .int hi u, .int 1 v] }, toks := tk } := I.kept fun b o e => Heap.get?_push_of_some _ e
  refine ⟨(s.heap.push { cls := .type "range", data := .fields #[.int lo t, .int hi u, .int 1 v] }).objs.size, [(s.heap.push { cls := .type "range", data := .fields #[.int lo t, .int hi u, .int 1 v] }).objs.size], _, _, H, rfl,
    I1.kept (t' := tk) fun b o e => Heap.get?_push_of_some _ e, turn_range _ lo (hi - lo).toNat, ?_, fun b hb => ?_, q⟩
  · have e1 : lo + ((0 : Nat) : Int) * 1 = lo := by simp
    have e2 : (((hi - lo).toNat : Nat) : Int) - ((0 : Nat) : Int) = Builtin.Range.rangeSize lo hi 1 := by rw [rangeSize_one]; split <;> omega
    show IsRangeIter _ _ (lo + ((0 : Nat) : Int) * 1) ((((hi - lo).toNat : Nat) : Int) - ((0 : Nat) : Int)) 1
    rw [e1, e2]
    exact Heap.get?_push_size _ rfl
  · have e : b = (s.heap.push { cls := .type "range", data := .fields #[.int lo t, .int hi u, .int 1 v] }).objs.size := by simpa using hb
    subst e
    exact I1.fpOk (Nat.le_refl _) (I1.hok.fresh (Nat.le_refl _))
def iRng1 (ta : TA) : TI := fun σ H R => ta σ H fun vs H1 => ∃ j : Int, vs = [.int j] ∧ -(2 ^ 62) ≤ j ∧ j < 2 ^ 62 ∧ R (Itr 0 j.toNat) H1
def iRng2 (ta : TA) : TI := fun σ H R => ta σ H fun vs H1 => ∃ i j : Int, vs = [.int i, .int j] ∧ (-(2 ^ 62) ≤ i ∧ i < 2 ^ 62 ∧ -(2 ^ 62) ≤ j ∧ j < 2 ^ 62) ∧ R (Itr i (j - i).toNat) H1
theorem pi_range1 {a : Expr} {ta : TA} {p pos : Pos} (hg : Gl X "range") (hm : X.mg "range" = none) (ha : PA X [a] ta) (hs : starEach [a] X.env = [(false, eval a X.env)] := by rfl) : PI X tg (.Call (.Name "range" p) [a] [] pos) (iRng1 ta) := by
  intro pins s σ H R I h
  refine Call_ (ld_blt I hg hm boot_range (PyProof.Rows.callWith_type1 (thn (ha pos pins s σ H _ I h) fun us s1 ⟨vs, H1, I1, r1, q1⟩ => ?_) hs rfl))
  obtain ⟨j, e, q1, q2, q⟩ := q1
  subst e
  cases r1 with
  | cons r rr =>
    cases rr
    obtain ⟨t, rfl⟩ := r
    exact call_range_1 (range_it I1 (by omega) (by omega) q1 q2 (by simpa using q))
def tFor (wi : TI) (g : TG) (tb : TS) : TS := fun D σ H => wi σ H fun J H1 => ∃ W : Nat → Nat → St → Hp → Prop, (∃ m, W 0 m σ H1) ∧ ∀ i m σ H, W i m σ H →
  (J.stop i H ∧ D.nx σ H) ∨ (J.go i H ∧ ∃ N : St → Hp → Prop, (∀ σ' H', N σ' H' → ∃ m', m' < m ∧ W (i + 1) m' σ' H') ∧ ∀ x H', J.yld i H x H' → g x σ H' fun σ2 H2 => tb { D with nx := N, ct := N, bk := D.nx } σ2 H2)
def pinsAt (fp : List Addr) (h : Heap) : List (Addr × Obj) := fp.filterMap fun b => (h.get? b).map fun o => (b, o)
theorem mem_pinsAt {fp : List Addr} {h : Heap} {b : Addr} {o : Obj} (hb : b ∈ fp) (e : h.get? b = some o) : (b, o) ∈ pinsAt fp h := List.mem_filterMap.mpr ⟨b, hb, by rw [e]; rfl⟩
theorem of_pinsAt {fp : List Addr} {h : Heap} {p : Addr × Obj} (hp : p ∈ pinsAt fp h) : p.1 ∈ fp ∧ h.get? p.1 = some p.2 := by
  obtain ⟨b, hb, e⟩ := List.mem_filterMap.mp hp
  cases q : h.get? b with
  | none => rw [q] at e; cases e
  | some o =>
    rw [q] at e
    have e' : (b, o) = p := Option.some.inj e
    subst e'
    exact ⟨hb, q⟩
theorem Inv.pinned {pins : List (Addr × Obj)} {σ : St} {H : Hp} {s : Shared} {fp : List Addr} (I : Inv X pins σ H s) (hf : ∀ b ∈ fp, FpOk X pins H b) (ho : ∀ b ∈ fp, ∃ o, s.heap.get? b = some o ∧ ∀ v, o.data ≠ .cell v) : Inv X (pins ++ pinsAt fp s.heap) σ H s :=
  I.pins_of fun p hp => (List.mem_append.mp hp).elim (fun z => I.pin p (List.mem_append_right _ z)) fun z => by
    obtain ⟨hb, e⟩ := of_pinsAt z
    obtain ⟨f0, f1, f2, _⟩ := hf p.1 hb
    obtain ⟨o, e', d⟩ := ho p.1 hb
    rw [e] at e'; cases e'
    exact ⟨e, f0, f1, f2, d⟩
theorem Inv.unpinned {pins pl : List (Addr × Obj)} {σ : St} {H : Hp} {s : Shared} (I : Inv X (pins ++ pl) σ H s) : Inv X pins σ H s := I.pins_of fun p hp => I.pin p (List.mem_append_right _ (List.mem_append_left _ hp))
theorem ps_for {iter : Expr} {body : List Stmt} {wi : TI} {g : TG} {tb : TS} {pos : Pos} (hp : PassesOwn (model X.prog X.w) X.A X.env X.xe) (hc : X.calm = true) (hi : PI X tg iter wi) (hg : PG X tg g) (hb : PSs X body tb)
    (hs : ∀ x, foldedSetIterable iter X.env x = pure x := by intro _; rfl) : PS X (.For tg iter body [] pos) (tFor wi g tb) := by
  intro pins s σ H D I h
  refine wpAny_For (thn (hi pins s σ H _ I h) fun v s1 h1 => thn h1 fun itv s2 h2 => ?_) hs
  obtain ⟨it, fp, tn, J, H2, e, I2, T, st2, f2, W, ⟨m0, w0⟩, turn⟩ := h2
  subst e
  -- what stays true of the iterator's objects through the loop
  have stat : ∀ {H' : Hp}, (∀ b ∈ fp, H' b = none) → ∀ b ∈ fp, FpOk X pins H' b := fun hn b hb => ⟨hn b hb, (f2 b hb).2⟩
  refine codeAny_forLoop_any (fun n s' => ∃ i σ' H', Inv X pins σ' H' s' ∧ tn i s'.heap ∧ (∀ b ∈ fp, H' b = none) ∧ W i n σ' H') ?_ m0 ⟨0, σ, H2, I2, st2, fun b hb => (f2 b hb).1, w0⟩
  rintro n s3 ⟨i, σ3, H3, I3, st3, fr3, w3⟩
  rcases turn i n σ3 H3 w3 with ⟨stop, qn⟩ | ⟨go, N, hN, step⟩
  · refine wpAny_passesOwn hp (thn (T.done X rfl rfl rfl hc i pins s3 σ3 H3 X.xe I3 (stat fr3) st3 stop) fun r s4 ⟨hr, I4⟩ => ?_)
    subst hr
    exact wpAny_execs_nil ⟨σ3, H3, I4, qn⟩
  · refine wpAny_passesOwn hp (thn (T.item X rfl rfl rfl hc i pins s3 σ3 H3 X.xe I3 (stat fr3) st3 go) fun r s4 ⟨u, hr, h4⟩ => ?_)
    subst hr
    refine wpAny_passesOwn hp (thn h4 fun _ s5 ⟨x, H5, I5, r5, y5, st5, fr5⟩ => ?_)
    have I5' := I5.pinned (stat fr5) (T.obj _ _ st5)
    refine wpAny_passesOwn hp (thn (hg _ s5 σ3 H5 x u _ I5' r5 (step x H5 y5)) fun _ s6 ⟨σ6, H6, I6, q6⟩ => ?_)
    refine wpAny_passesOwn hp (thn (hb _ s6 σ6 H6 _ I6 q6) fun f s7 q7 => ?_)
    have again : ∀ {σ7 : St} {H7 : Hp}, Inv X (pins ++ pinsAt fp s5.heap) σ7 H7 s7 → N σ7 H7 → ∃ m, m < n ∧ ∃ i σ' H', Inv X pins σ' H' s7 ∧ tn i s7.heap ∧ (∀ b ∈ fp, H' b = none) ∧ W i m σ' H' := fun {σ7 H7} I7 n7 => by
      obtain ⟨m', hm, w7⟩ := hN σ7 H7 n7
      refine ⟨m', hm, i + 1, σ7, H7, I7.unpinned, T.keep _ _ _ st5 fun b hb o e => (I7.pin (b, o) (List.mem_append_right _ (List.mem_append_right _ (mem_pinsAt hb e)))).1, fun b hb => ?_, w7⟩
      obtain ⟨o, e, d⟩ := T.obj _ _ st5 b hb
      exact (I7.pin (b, o) (List.mem_append_right _ (List.mem_append_right _ (mem_pinsAt hb e)))).2.1
    cases f with
    | next => obtain ⟨σ7, H7, I7, n7⟩ := q7; exact again I7 n7
    | cont => obtain ⟨σ7, H7, I7, n7⟩ := q7; exact again I7 n7
    | brk => obtain ⟨σ7, H7, I7, q7⟩ := q7; exact ⟨σ7, H7, I7.unpinned, q7⟩
    | ret v => obtain ⟨x7, σ7, H7, I7, r7, q7⟩ := q7; exact ⟨x7, σ7, H7, I7.unpinned, r7, q7⟩
end
end L2
namespace L2
open PySem PySem.Spec PyProof.Rows
abbrev R2 := V → V → Hp → VK → Prop
def OpR (X : Cx) (f : Value → Value → Sem Value) (r : R2) : Prop :=
  ∀ (pins : List (Addr × Obj)) (s : Shared) (σ : St) (H : Hp) (x y : V) (v u : Value) (Q : VK), Inv X pins σ H s → RelV x v → RelV y u → r x y H Q →
    wpAny (model X.prog X.w) X.A (f v u) (EP X pins σ Q) X.xe s
def CallR (X : Cx) (f : Value) (r : List V → Hp → VK → Prop) : Prop :=
  ∀ (pins : List (Addr × Obj)) (s : Shared) (σ : St) (H : Hp) (xs : List V) (us : List Value) (Q : VK), Inv X pins σ H s → Vals xs us → r xs H Q →
    wpAny (model X.prog X.w) X.A (call f us) (EP X pins σ Q) X.xe s
def TruR (X : Cx) (r : V → Hp → (Bool → Hp → Prop) → Prop) : Prop :=
  ∀ (pins : List (Addr × Obj)) (s : Shared) (σ : St) (H : Hp) (x : V) (v : Value) (Q : Bool → Hp → Prop), Inv X pins σ H s → RelV x v → r x H Q →
    wpAny (model X.prog X.w) X.A (truthy v) (TP X pins σ Q) X.xe s
def tOp (r : R2) (ta tb : TE) : TE := fun σ H Q => ta σ H fun x H1 => tb σ H1 fun y H2 => r x y H2 Q
def rI (C : Int → Int → Prop) (g : Int → Int → V) : R2 := fun x y H Q => ∃ i j, x = .int i ∧ y = .int j ∧ C i j ∧ Q (g i j) H
def rI0 (g : Int → Int → V) : R2 := fun x y H Q => ∃ i j, x = .int i ∧ y = .int j ∧ Q (g i j) H
section
variable {X : Cx} {a b c : Expr} {ta tb tc : TE} {pos : Pos}
theorem binT (ha : PE X a ta) (hb : PE X b tb) {pins : List (Addr × Obj)} {s : Shared} {σ : St} {H : Hp} {R : V → V → Hp → Prop} (I : Inv X pins σ H s)
    (h : ta σ H fun x H1 => tb σ H1 fun y H2 => R x y H2) {Q : Value → Shared → Prop} {f : Value → Value → Sem Value}
    (hf : ∀ v u s2 x y H2, Inv X pins σ H2 s2 → RelV x v → RelV y u → R x y H2 → wpAny (model X.prog X.w) X.A (f v u) Q X.xe s2) :
    wpAny (model X.prog X.w) X.A (eval a X.env) (fun v s₁ => wpAny (model X.prog X.w) X.A (eval b X.env) (fun u s₂ => wpAny (model X.prog X.w) X.A (f v u) Q X.xe s₂) X.xe s₁) X.xe s := by
  refine thn (ha pins s σ H _ I h) fun v s1 ⟨x, H1, I1, r1, q1⟩ => ?_
  refine thn (hb pins s1 σ H1 _ I1 q1) fun u s2 ⟨y, H2, I2, r2, q2⟩ => ?_
  exact hf v u s2 x y H2 I2 r1 r2 q2
theorem pe_op {op : Operator} {r : R2} (ho : OpR X (binaryOp op) r) (ha : PE X a ta) (hb : PE X b tb) : PE X (.BinOp a op b pos) (tOp r ta tb) := by
  intro pins s σ H Q I h
  exact wpAny_BinOp (binT ha hb I h fun v u s2 x y H2 I2 rx ry q => ho pins s2 σ H2 x y v u Q I2 rx ry q)
theorem opI {f : Value → Value → Sem Value} {C : Int → Int → Prop} {g : Int → Int → Int}
    (rule : ∀ (i j : Int) (t u : Tok) (s : Shared) (Q : Value → Shared → Prop) (E : Value → Shared → Prop), C i j → Q (.int (g i j) s.toks) { s with toks := s.toks + 1 } → wpAny (model X.prog X.w) X.A (f (.int i t) (.int j u)) Q E s) :
    OpR X f (rI C fun i j => .int (g i j)) := by
  intro pins s σ H x y v u Q I rx ry h
  obtain ⟨i, j, rfl, rfl, hc, q⟩ := h
  obtain ⟨t, rfl⟩ := rx
  obtain ⟨t', rfl⟩ := ry
  exact rule i j t t' s _ _ hc ⟨.int (g i j), H, I.tok _, ⟨_, rfl⟩, q⟩
theorem opI0 {f : Value → Value → Sem Value} {g : Int → Int → Int}
    (rule : ∀ (i j : Int) (t u : Tok) (s : Shared) (Q : Value → Shared → Prop) (E : Value → Shared → Prop), Q (.int (g i j) s.toks) { s with toks := s.toks + 1 } → wpAny (model X.prog X.w) X.A (f (.int i t) (.int j u)) Q E s) :
    OpR X f (rI0 fun i j => .int (g i j)) := by
  intro pins s σ H x y v u Q I rx ry h
  obtain ⟨i, j, rfl, rfl, q⟩ := h
  obtain ⟨t, rfl⟩ := rx
  obtain ⟨t', rfl⟩ := ry
  exact rule i j t t' s _ _ ⟨.int (g i j), H, I.tok _, ⟨_, rfl⟩, q⟩
theorem opB0 {f : Value → Value → Sem Value} {g : Int → Int → Bool}
    (rule : ∀ (i j : Int) (t u : Tok) (s : Shared) (Q : Value → Shared → Prop) (E : Value → Shared → Prop), Q (.bool (g i j)) s → wpAny (model X.prog X.w) X.A (f (.int i t) (.int j u)) Q E s) :
    OpR X f (rI0 fun i j => .bl (g i j)) := by
  intro pins s σ H x y v u Q I rx ry h
  obtain ⟨i, j, rfl, rfl, q⟩ := h
  obtain ⟨t, rfl⟩ := rx
  obtain ⟨t', rfl⟩ := ry
  exact rule i j t t' s _ _ ⟨.bl (g i j), H, I, rfl, q⟩
def CDiv (i j : Int) : Prop := 0 < j ∧ j < 1073741824
def CPow (i j : Int) : Prop := 0 ≤ j ∧ j ≤ 1000000 ∧ i.natAbs < 2 ^ 64
def CMul (i j : Int) : Prop := (-(2 ^ 64) < i ∧ i < 2 ^ 64) ∨ (-(2 ^ 64) < j ∧ j < 2 ^ 64)
theorem CMul.ok {i j : Int} (h : CMul i j) : IntMulOk i j := by
  rcases h with ⟨h1, h2⟩ | ⟨h1, h2⟩
  · exact .of_left (intBits_le_64 h1 h2)
  · exact .of_right (intBits_le_64 h1 h2)
theorem op_add : OpR X (binaryOp .Add) (rI0 fun i j => .int (i + j)) := opI0 fun _ _ _ _ _ _ _ q => add_int q
theorem op_sub : OpR X (binaryOp .Sub) (rI0 fun i j => .int (i - j)) := opI0 fun _ _ _ _ _ _ _ q => sub_int q
theorem op_mul : OpR X (binaryOp .Mult) (rI CMul fun i j => .int (i * j)) := opI fun _ _ _ _ _ _ _ hc q => mul_int q hc.ok
theorem op_fdiv : OpR X (binaryOp .FloorDiv) (rI CDiv fun i j => .int (i / j)) := opI fun i j _ _ _ _ _ hc q => by
  have h1 : (0 : Int) < j := hc.1
  have h2 : j < 1073741824 := hc.2
  exact floordiv_int (by omega) (by rw [Int.fdiv_eq_ediv_of_nonneg i (by omega)]; exact q) (.inl (PyProof.noPylong_small (by omega)))
theorem op_mod : OpR X (binaryOp .Mod) (rI (fun _ j => 0 < j) fun i j => .int (i % j)) := opI fun i j _ _ _ _ _ hc q => by
  have h1 : (0 : Int) < j := hc
  exact mod_int' (by omega) (by rw [Int.fmod_eq_emod_of_nonneg i (by omega)]; exact q)
theorem op_pow : OpR X (binaryOp .Pow) (rI CPow fun i j => .int (i ^ j.toNat)) := opI fun _ _ _ _ _ _ _ hc q => pow_int_small hc.1 hc.2.1 hc.2.2 q
end
def scal : V → V → Bool
  | .non, .non => true | .non, .int _ => true | .int _, .non => true | .non, .bl _ => true | .bl _, .non => true | .non, .str _ => true | .str _, .non => true
  | .int _, .int _ => true | .bl _, .bl _ => true | .str _, .str _ => true | .byt _, .byt _ => true
  | .int _, .str _ => true | .str _, .int _ => true | .bl _, .str _ => true | .str _, .bl _ => true
  | _, _ => false
def rEq : R2 := fun x y H Q => scal x y = true ∧ Q (.bl (decide (x = y))) H
def rNe : R2 := fun x y H Q => scal x y = true ∧ Q (.bl (!decide (x = y))) H
theorem dec_int {i j : Int} : decide (V.int i = V.int j) = (i == j) := by
  rw [Bool.eq_iff_iff]
  simp
theorem dec_bl {i j : Bool} : decide (V.bl i = V.bl j) = (i == j) := by
  rw [Bool.eq_iff_iff]
  simp
theorem dec_str {i j : Str} : decide (V.str i = V.str j) = (i == j) := by
  rw [Bool.eq_iff_iff]
  simp
theorem dec_byt {i j : Array UInt8} : decide (V.byt i = V.byt j) = (i.toList == j.toList) := by
  rw [Bool.eq_iff_iff]
  cases i
  cases j
  simp
section
variable {X : Cx} {a b c : Expr} {ta tb tc : TE} {pos : Pos}
theorem fin_bl {pins : List (Addr × Obj)} {σ : St} {H : Hp} {s : Shared} {Q : VK} {k k' : Bool} (I : Inv X pins σ H s) (q : Q (.bl k) H) (e : k = k') : EP X pins σ Q (.bool k') s := by
  subst e
  exact ⟨.bl k, H, I, rfl, q⟩
theorem op_eq : OpR X (compareOp .Eq) rEq := by
  intro pins s σ H x y v u Q I rx ry h
  obtain ⟨hs, q⟩ := h
  cases x with
  | non =>
    cases rx
    cases y with
    | non => cases ry; exact PySem.EqNone.eq_none_none (fin_bl I q (by simp))
    | bl j => cases ry; exact PySem.EqNone.eq_none_bool (fin_bl I q (by simp))
    | int j => obtain ⟨t', rfl⟩ := ry; exact PySem.EqNone.eq_none_int (fin_bl I q (by simp))
    | str j => obtain ⟨t', rfl⟩ := ry; exact PySem.EqNone.eq_none_str (fin_bl I q (by simp))
    | _ => exact absurd (show false = true from hs) Bool.false_ne_true
  | bl i =>
    cases rx
    cases y with
    | non => cases ry; exact PySem.EqNone.eq_bool_none (fin_bl I q (by simp))
    | bl j => cases ry; exact eq_bool (fin_bl I q dec_bl)
    | str j => obtain ⟨t', rfl⟩ := ry; exact PySem.EqMixed.eq_bool_str (fin_bl I q (by simp))
    | _ => exact absurd (show false = true from hs) Bool.false_ne_true
  | int i =>
    obtain ⟨t, rfl⟩ := rx
    cases y with
    | non => cases ry; exact PySem.EqNone.eq_int_none (fin_bl I q (by simp))
    | int j => obtain ⟨t', rfl⟩ := ry; exact eq_int (fin_bl I q dec_int)
    | str j => obtain ⟨t', rfl⟩ := ry; exact PySem.EqMixed.eq_int_str (fin_bl I q (by simp))
    | _ => exact absurd (show false = true from hs) Bool.false_ne_true
  | str i =>
    obtain ⟨t, rfl⟩ := rx
    cases y with
    | non => cases ry; exact PySem.EqNone.eq_str_none (fin_bl I q (by simp))
    | bl j => cases ry; exact PySem.EqMixed.eq_str_bool (fin_bl I q (by simp))
    | int j => obtain ⟨t', rfl⟩ := ry; exact PySem.EqMixed.eq_str_int (fin_bl I q (by simp))
    | str j => obtain ⟨t', rfl⟩ := ry; exact eq_str (fin_bl I q dec_str)
    | _ => exact absurd (show false = true from hs) Bool.false_ne_true
  | byt i =>
    obtain ⟨t, rfl⟩ := rx
    cases y with
    | byt j => obtain ⟨t', rfl⟩ := ry; exact PySem.W.eq_bytes (fin_bl I q dec_byt)
    | _ => exact absurd (show false = true from hs) Bool.false_ne_true
  | _ => cases y <;> exact absurd (show false = true from hs) Bool.false_ne_true
theorem op_ne : OpR X (compareOp .NotEq) rNe := by
  intro pins s σ H x y v u Q I rx ry h
  obtain ⟨hs, q⟩ := h
  cases x with
  | non =>
    cases rx
    cases y with
    | non => cases ry; exact PySem.EqNone.ne_none_none (fin_bl I q (by simp))
    | bl j => cases ry; exact PySem.EqNone.ne_none_bool (fin_bl I q (by simp))
    | int j => obtain ⟨t', rfl⟩ := ry; exact PySem.EqNone.ne_none_int (fin_bl I q (by simp))
    | str j => obtain ⟨t', rfl⟩ := ry; exact PySem.EqNone.ne_none_str (fin_bl I q (by simp))
    | _ => exact absurd (show false = true from hs) Bool.false_ne_true
  | bl i =>
    cases rx
    cases y with
    | non => cases ry; exact PySem.EqNone.ne_bool_none (fin_bl I q (by simp))
    | bl j => cases ry; exact ne_bool (fin_bl I q (congrArg not dec_bl))
    | str j => obtain ⟨t', rfl⟩ := ry; exact PySem.EqMixed.ne_bool_str (fin_bl I q (by simp))
    | _ => exact absurd (show false = true from hs) Bool.false_ne_true
  | int i =>
    obtain ⟨t, rfl⟩ := rx
    cases y with
    | non => cases ry; exact PySem.EqNone.ne_int_none (fin_bl I q (by simp))
    | int j => obtain ⟨t', rfl⟩ := ry; exact ne_int (fin_bl I q (congrArg not dec_int))
    | str j => obtain ⟨t', rfl⟩ := ry; exact PySem.EqMixed.ne_int_str (fin_bl I q (by simp))
    | _ => exact absurd (show false = true from hs) Bool.false_ne_true
  | str i =>
    obtain ⟨t, rfl⟩ := rx
    cases y with
    | non => cases ry; exact PySem.EqNone.ne_str_none (fin_bl I q (by simp))
    | bl j => cases ry; exact PySem.EqMixed.ne_str_bool (fin_bl I q (by simp))
    | int j => obtain ⟨t', rfl⟩ := ry; exact PySem.EqMixed.ne_str_int (fin_bl I q (by simp))
    | str j => obtain ⟨t', rfl⟩ := ry; exact ne_str (fin_bl I q (congrArg not dec_str))
    | _ => exact absurd (show false = true from hs) Bool.false_ne_true
  | byt i =>
    obtain ⟨t, rfl⟩ := rx
    cases y with
    | byt j => obtain ⟨t', rfl⟩ := ry; exact PySem.W.ne_bytes (fin_bl I q (congrArg not dec_byt))
    | _ => exact absurd (show false = true from hs) Bool.false_ne_true
  | _ => cases y <;> exact absurd (show false = true from hs) Bool.false_ne_true
theorem op_lt : OpR X (compareOp .Lt) (rI0 fun i j => .bl (decide (i < j))) := opB0 fun _ _ _ _ _ _ _ q => lt_int q
theorem op_le : OpR X (compareOp .LtE) (rI0 fun i j => .bl (decide (i ≤ j))) := opB0 fun _ _ _ _ _ _ _ q => le_int q
theorem op_gt : OpR X (compareOp .Gt) (rI0 fun i j => .bl (decide (j < i))) := opB0 fun _ _ _ _ _ _ _ q => gt_int q
theorem op_notN : OpR X (compareOp .IsNot) (fun x y H Q => y = .non ∧ Q (.bl (!decide (x = .non))) H) := by
  intro pins s σ H x y v u Q I rx ry h
  obtain ⟨rfl, q⟩ := h
  cases ry
  refine isnot_none_gen (fin_bl I q ?_)
  cases x <;> first
    | (cases rx; rfl)
    | (obtain ⟨t, rfl⟩ := rx; rfl)
theorem OpR.or {f : Value → Value → Sem Value} {r r' : R2} (h : OpR X f r) (h' : OpR X f r') : OpR X f (fun x y H Q => r x y H Q ∨ r' x y H Q) := by
  intro pins s σ H x y v u Q I rx ry q
  rcases q with q | q
  · exact h pins s σ H x y v u Q I rx ry q
  · exact h' pins s σ H x y v u Q I rx ry q
theorem nomark (b : Expr) {op : CmpOp} (h : op ≠ .In := by decide) (h2 : op ≠ .NotIn := by decide) : behindInMarks op b = false := by
  have e1 : (op == CmpOp.In) = false := by cases op <;> first | rfl | exact absurd rfl h
  have e2 : (op == CmpOp.NotIn) = false := by cases op <;> first | rfl | exact absurd rfl h2
  cases b <;> simp [behindInMarks, e1, e2]
theorem pe_cmpR {op : CmpOp} {r : R2} (ho : OpR X (compareOp op) r) (ha : PE X a ta) (hb : PE X b tb) (hm : behindInMarks op b = false) : PE X (.Compare a [op] [b] pos) (tOp r ta tb) := by
  intro pins s σ H Q I h
  exact wpAny_Compare1 (binT ha hb I h fun v u s2 x y H2 I2 rx ry q => ho pins s2 σ H2 x y v u Q I2 rx ry q) hm
def tTest (t : TE) : TT := fun σ H Q => t σ H fun x H' => ∃ k, x = .bl k ∧ Q k H'
theorem pt_cmpR {op : CmpOp} {r : R2} (ho : OpR X (compareOp op) r) (ha : PE X a ta) (hb : PE X b tb) (hm : behindInMarks op b = false) : PT X (.Compare a [op] [b] pos) (tTest (tOp r ta tb)) := by
  intro pins s σ H Q I h
  refine wpAny_isTrue_Compare1 (thn (ha pins s σ H _ I h) fun v s1 ⟨x, H1, I1, r1, q1⟩ => thn (hb pins s1 σ H1 _ I1 q1) fun u s2 ⟨y, H2, I2, r2, q2⟩ =>
    thn (ho pins s2 σ H2 x y v u _ I2 r1 r2 q2) fun c s3 ⟨z, H3, I3, r3, k, e, q3⟩ => ?_) hm
  subst e
  cases r3
  exact wpAny_truthy_bool ⟨H3, I3, q3⟩
def TruV (K : PySem.W.Frag) (x : V) (H : Hp) (k : Bool) : Prop :=
  match x with
  | .non => k = false
  | .bl b => k = b
  | .int i => k = (i != 0)
  | .str y => y.length ≤ sizeLine ∧ k = ((y.length : Int) != 0)
  | .byt y => y.size ≤ sizeLine ∧ k = ((y.size : Int) != 0)
  | .ref p => (∃ xs, SqL K H p xs ∧ k = !xs.isEmpty) ∨ (∃ xs, SqT K H p xs ∧ k = !xs.isEmpty) ∨ ∃ kvs, H p = some (.dK kvs) ∧ k = !kvs.isEmpty
  | _ => False
theorem isEmpty_kv {κ : Type} {kvs : List (κ × V)} {vs : List (κ × Value)} (r : KV kvs vs) : (!vs.isEmpty) = !kvs.isEmpty := by
  cases r <;> rfl
theorem isEmpty_of {xs : List V} {its : List Value} (r : Vals xs its) : (!its.toArray.isEmpty) = !xs.isEmpty := by
  cases r <;> simp
theorem line63 : (sizeLine : Nat) < 2 ^ 63 := by rw [sizeLine_eq]; decide
theorem tru_ok : TruR X (fun x H Q => ∃ k, TruV X.K x H k ∧ Q k H) := by
  intro pins s σ H x v Q I rx h
  obtain ⟨k, e, q⟩ := h
  have hl := line63
  have hs : sizeLine = 16777216 := sizeLine_eq
  cases x with
  | non =>
    cases rx
    have e' : k = false := e
    subst e'
    exact truthy_none ⟨H, I, q⟩
  | bl b =>
    cases rx
    have e' : k = b := e
    subst e'
    exact wpAny_truthy_bool ⟨H, I, q⟩
  | int i =>
    obtain ⟨t, rfl⟩ := rx
    have e' : k = (i != 0) := e
    subst e'
    exact PySem.P.truthy_int ⟨H, I, q⟩
  | str y =>
    obtain ⟨t, rfl⟩ := rx
    obtain ⟨hy, e'⟩ : y.length ≤ sizeLine ∧ k = ((y.length : Int) != 0) := e
    subst e'
    exact PySem.P.truthy_str (by omega) ⟨H, I.tok _, q⟩
  | byt y =>
    obtain ⟨t, rfl⟩ := rx
    obtain ⟨hy, e'⟩ : y.size ≤ sizeLine ∧ k = ((y.size : Int) != 0) := e
    subst e'
    exact PySem.W.truthy_bytes (by omega) ⟨H, I.tok _, q⟩
  | ref p =>
    cases rx
    have e' : (∃ xs, SqL X.K H p xs ∧ k = !xs.isEmpty) ∨ (∃ xs, SqT X.K H p xs ∧ k = !xs.isEmpty) ∨ ∃ kvs, H p = some (.dK kvs) ∧ k = !kvs.isEmpty := e
    rcases e' with ⟨xs, hx, e'⟩ | ⟨xs, hx, e'⟩ | ⟨kvs, hx, e'⟩
    · subst e'
      obtain ⟨its, r, pl, hz⟩ := I.list hx
      have hlen := r.length
      exact wpAny_truthy_list pl.isList (by simp only [List.size_toArray]; omega) ⟨H, I.tok _, by rw [isEmpty_of r]; exact q⟩
    · subst e'
      obtain ⟨its, r, pl, hz⟩ := I.tuple hx
      have hlen := r.length
      exact truthy_tuple pl (by simp only [List.size_toArray]; omega) ⟨H, I.tok _, by rw [isEmpty_of r]; exact q⟩
    · subst e'
      obtain ⟨hz, hS, vs, r, m⟩ : kvs.length ≤ sizeLine ∧ (p == sysModules) = false ∧ ∃ vs, KV kvs vs ∧ s.heap.DictOf (mixKind X.prog X.w) p vs := I.hok p _ hx
      have hlen : kvs.length = vs.length := Paired.length r
      exact wpAny_truthy_dict hS m (by omega) ⟨H, I.tok _, by rw [isEmpty_kv r]; exact q⟩
  | _ => exact (show False from e).elim
theorem pt_truth (ha : PE X a ta) (he : ∀ whole, isTrue a X.env whole = (do let v ← whole; standAt a.pos; holding [v] (truthy v))) :
    PT X a (fun σ H Q => ta σ H fun x H' => ∃ k, TruV X.K x H' k ∧ Q k H') := by
  intro pins s σ H Q I h
  exact isTrue_plain (thn (ha pins s σ H _ I h) fun v s1 ⟨x, H1, I1, r1, q1⟩ => tru_ok pins s1 σ H1 x v Q I1 r1 q1) (he _)
theorem op_add_str : OpR X (binaryOp .Add) (fun x y H Q => ∃ i j, x = .str i ∧ y = .str j ∧ i.length + j.length ≤ sizeLine ∧ Q (.str (i ++ j)) H) := by
  intro pins s σ H x y v u Q I rx ry h
  obtain ⟨i, j, rfl, rfl, hz, q⟩ := h
  obtain ⟨t, rfl⟩ := rx
  obtain ⟨t', rfl⟩ := ry
  exact add_str (fun t' tk => ⟨.str (i ++ j), H, I.tok _, ⟨_, rfl⟩, q⟩) hz
theorem vals1 {x : V} {us : List Value} (r : Vals [x] us) : ∃ u, us = [u] ∧ RelV x u := by
  cases r with
  | cons r1 r2 => cases r2; exact ⟨_, rfl, r1⟩
theorem vals2 {x y : V} {us : List Value} (r : Vals [x, y] us) : ∃ u w', us = [u, w'] ∧ RelV x u ∧ RelV y w' := by
  cases r with
  | cons r1 r2 =>
    cases r2 with
    | cons r3 r4 => cases r4; exact ⟨_, _, rfl, r1, r3⟩
theorem call_max2 (hc : X.calm = true) : CallR X (.builtin "max") (fun xs H Q => ∃ i j, xs = [.int i, .int j] ∧ Q (.int (if j > i then j else i)) H) := by
  intro pins s σ H xs us Q I r h
  obtain ⟨i, j, rfl, q⟩ := h
  obtain ⟨u, w', rfl, ⟨t, rfl⟩, ⟨t', rfl⟩⟩ := vals2 r
  refine max_two_ints (I.ok.hd hc) fun h' tk k => ⟨_, H, I.kept k, ?_, q⟩
  by_cases hj : j > i
  · rw [if_pos hj, if_pos hj]; exact ⟨_, rfl⟩
  · rw [if_neg hj, if_neg hj]; exact ⟨_, rfl⟩
theorem call_min2 (hc : X.calm = true) : CallR X (.builtin "min") (fun xs H Q => ∃ i j, xs = [.int i, .int j] ∧ Q (.int (if j < i then j else i)) H) := by
  intro pins s σ H xs us Q I r h
  obtain ⟨i, j, rfl, q⟩ := h
  obtain ⟨u, w', rfl, ⟨t, rfl⟩, ⟨t', rfl⟩⟩ := vals2 r
  refine min_two_ints (I.ok.hd hc) fun h' tk k => ⟨_, H, I.kept k, ?_, q⟩
  by_cases hj : j < i
  · rw [if_pos hj, if_pos hj]; exact ⟨_, rfl⟩
  · rw [if_neg hj, if_neg hj]; exact ⟨_, rfl⟩
theorem call_int1 : CallR X (.type "int") (fun xs H Q => (∃ i, xs = [.int i] ∧ Q (.int i) H) ∨ ∃ k, xs = [.bl k] ∧ Q (.int (if k then 1 else 0)) H) := by
  intro pins s σ H xs us Q I r h
  rcases h with ⟨i, rfl, q⟩ | ⟨k, rfl, q⟩
  · obtain ⟨u, rfl, t, rfl⟩ := vals1 r
    exact call_int_int ⟨.int i, H, I, ⟨_, rfl⟩, q⟩
  · obtain ⟨u, rfl, r1⟩ := vals1 r
    cases r1
    exact call_int_bool ⟨.int (if k then 1 else 0), H, I.tok _, ⟨_, rfl⟩, q⟩
end
end L2
namespace L2
open PySem PySem.Spec PyProof.Rows
structure ObjM (h : Heap) (x dx C : Addr) (mA : Str → Option Value) : Prop where
  obj : h.get? x = some (PySem.W.instObj C dx)
  ns : h.Ns1 dx mA
  ne : dx ≠ x
theorem lookIn_ns {h : Heap} {dx : Addr} {mA : Str → Option Value} (n : h.Ns1 dx mA) : ∃ od, h.get? dx = some od ∧ ∀ name, PySem.W.lookIn name od = some (mA name) := by
  obtain ⟨o, es, ep, ho, hd, hk, _, hm⟩ := n
  refine ⟨o, ho, fun name => ?_⟩
  have e := hm name
  unfold nsFind findBy at e
  rw [← Array.find?_toList] at e
  unfold PySem.W.lookIn
  rw [hd]
  dsimp only
  split
  · rename_i y q
    rw [q] at e
    exact congrArg some e
  · rename_i q
    rw [q] at e
    have a : es.toList.any (·.refKey) = false := by
      rw [List.any_eq_false]
      intro y hy
      obtain ⟨z, t, hkey⟩ := hk y (Array.mem_toList_iff.mp hy)
      simp [DictEntry.refKey, hkey]
    have a' : ¬ es.toList.any (·.refKey) = true := by rw [a]; exact Bool.false_ne_true
    rw [if_neg a']
    exact congrArg some e
theorem ObjM.look {h : Heap} {x dx C : Addr} {mA : Str → Option Value} (I : ObjM h x dx C mA) : ∃ od, PySem.W.InstAt h x (PySem.W.instObj C dx) C (some od) ∧ ∀ name, PySem.W.lookIn name od = some (mA name) :=
  let ⟨od, ho, hl⟩ := lookIn_ns I.ns
  ⟨od, ⟨I.obj, rfl, rfl, ho⟩, hl⟩
section
variable {prog : Program} {w : World} {A : Around} {E : Value → Shared → Prop} {s : Shared} {K : PySem.W.Frag} {x dx C f : Addr} {mA : Str → Option Value} {name : Str} {v : Value}
theorem make_map {R : Result → Shared → Prop} {vs : List Value} {kw : List (Str × Value)} (X : K.In s.heap) (hm : PySem.W.makesIn K C = true)
    (hi : PySem.W.findIn K (.ref C) "__init__" = some (some (.ref f))) (hf : PySem.W.typeIn K (.ref f) = some (.type "function"))
    (h : codeAny (model prog w) (A.under (.builtin "type.__call__" ⟨.ref C :: vs, kw⟩)) (.call (.ref f) ⟨.ref (s.heap.objs.size + 1) :: vs, kw⟩) (PySem.W.InitBack (s.heap.objs.size + 1) R)
      { s with heap := (s.heap.push PySem.W.emptyDict).push (PySem.W.instObj C s.heap.objs.size) }) :
    codeAny (model prog w) A (.call (.ref C) ⟨vs, kw⟩) R s := by
  obtain ⟨hh, g, d, t, os⟩ := s
  exact PySem.W.make_core (PySem.W.makes_of X hm) (PySem.W.looks_findIn X hi) (fun self => PySem.W.bind_fn X self hf) (.inl rfl) h
end
theorem RelO.some_of {v : V} {o : Option Value} (r : RelO (some v) o) : ∃ u, o = some u ∧ RelV v u := by
  cases o with
  | none => exact (show False from r).elim
  | some u => exact ⟨u, rfl, r⟩
section
variable {P : Program} {w : World} {H H' : Hp} {h h' : Heap} {a C dx : Addr} {fs fs' : List (Str × V)}
theorem ins_get (hok : HOk P w H h) (e : H a = some (.ins C dx fs)) : ∃ mA, ObjM h a dx C mA ∧ (∀ f, RelO (fs.lookup f) (mA f)) ∧ PySem.Within mA (fs.map (·.1)) ∧ fs.length ≤ 1000 ∧ H dx = some (.own a) := by
  obtain ⟨d, z, ne, ob, mA, n, r, q⟩ := (show ObjOk P w H h a (.ins C dx fs) from hok a _ e)
  exact ⟨mA, ⟨ob, n, ne⟩, r, q, z, d⟩
end
structure Cls (K : PySem.W.Frag) (C : Addr) : Prop where
  pg : PySem.W.plainGet K C Str.empty = true
  hd : PySem.W.hasDictIn K C = true
  po : PySem.W.plainOver K C = true
  sa : PySem.W.findIn K (.ref C) "__setattr__" = some (some (.builtin "object.__setattr__"))
theorem Cls.get {K : PySem.W.Frag} {C : Addr} (c : Cls K C) (f : Str) : PySem.W.plainGet K C f = true := c.pg
structure Con (K : PySem.W.Frag) (C : Addr) (f : Str) (v : V) (u : Value) : Prop where
  at_ : PySem.W.findIn K (.ref C) f = some (some u)
  rel : RelV v u
  get : PySem.W.specialIn K u "__get__" = some none
  cp : PySem.W.copiedNames.contains f = false
structure Meth (K : PySem.W.Frag) (C : Addr) (m : Str) (f : Addr) : Prop where
  at_ : PySem.W.findIn K (.ref C) m = some (some (.ref f))
  fn : PySem.W.isFn K (.ref f) = true
  kp : PySem.W.keepIn K (.ref f) = true
section
variable {X : Cx} {pins : List (Addr × Obj)} {σ : St} {H : Hp} {s : Shared} {a C dx : Addr} {fs : List (Str × V)} {f : Str} {v : V} {A : Around} {E : Value → Shared → Prop}
theorem Inv.made (I : Inv X pins σ H s) : Inv X pins σ (upd (upd H s.heap.objs.size (.own (s.heap.objs.size + 1))) (s.heap.objs.size + 1) (.ins C s.heap.objs.size []))
    { s with heap := (s.heap.push PySem.W.emptyDict).push (PySem.W.instObj C s.heap.objs.size) } := by
  have e1 : (s.heap.push PySem.W.emptyDict).get? s.heap.objs.size = some PySem.W.emptyDict := Heap.get?_push_size s.heap rfl
  have e2 : ((s.heap.push PySem.W.emptyDict).push (PySem.W.instObj C s.heap.objs.size)).get? (s.heap.objs.size + 1) = some (PySem.W.instObj C s.heap.objs.size) := by
    have := Heap.get?_push_size (s.heap.push PySem.W.emptyDict) (o := PySem.W.instObj C s.heap.objs.size) rfl
    rwa [Heap.size_push] at this
  have e3 : (s.heap.push PySem.W.emptyDict).Ns s.heap.objs.size (fun _ => none) := ⟨PySem.W.emptyDict, #[], _, e1, rfl, (fun e he => absurd he (by simp)), fun _ => rfl⟩
  have I1 := I.laid (a := s.heap.objs.size) (o := .own (s.heap.objs.size + 1)) (h' := s.heap.push PySem.W.emptyDict) (t' := s.toks) (fun b u q => Heap.get?_push_of_some _ q) (Nat.le_refl _) ⟨_, e1⟩
  refine I1.laid (a := s.heap.objs.size + 1) (o := .ins C s.heap.objs.size []) (t' := s.toks) (fun b u q => Heap.get?_push_of_some _ q) (Nat.le_of_eq (Heap.size_push _ _)) ?_
  have ne : s.heap.objs.size ≠ s.heap.objs.size + 1 := Nat.ne_of_lt (Nat.lt_succ_self _)
  refine ⟨by rw [upd_ne ne, upd_same], Nat.zero_le _, ne, e2, fun _ => none, (Heap.Ns1.of_empty e3).at fun o q => Heap.get?_push_of_some _ q, fun _ => True.intro, fun y hy => absurd rfl hy⟩
end
section
variable {X : Cx} {o e value : Expr} {f : Str} {pos pos' tpos : Pos} {ta tv : TE}
end
section
variable {X : Cx} {pins : List (Addr × Obj)} {σ : St} {H : Hp} {s : Shared} {A : Around} {E : Value → Shared → Prop} {Q : Value → Shared → Prop} {c : Value} {b : Bool}
inductive TyOf (K : PySem.W.Frag) (H : Hp) : V → Value → Prop where
  | non : TyOf K H .non (.type "NoneType")
  | bl (x : Bool) : TyOf K H (.bl x) (.type "bool")
  | int (i : Int) : TyOf K H (.int i) (.type "int")
  | str (x : Str) : TyOf K H (.str x) (.type "str")
  | flt (x : UInt64) : TyOf K H (.flt x) (.type "float")
  | lst {a : Addr} {xs : List V} (e : H a = some (.lst xs)) : TyOf K H (.ref a) (.type "list")
  | frz {a : Addr} {o : Obj} {xs : List V} (e : H a = some (.frz o (.lst xs))) : TyOf K H (.ref a) (.type "list")
  | tup {a : Addr} {xs : List V} (e : H a = some (.tup xs)) : TyOf K H (.ref a) (.type "tuple")
  | dK {a : Addr} {kvs : List (Key × V)} (e : H a = some (.dK kvs)) : TyOf K H (.ref a) (.type "dict")
  | dT {a : Addr} {kvs : List (List Key × V)} (e : H a = some (.dT kvs)) : TyOf K H (.ref a) (.type "dict")
  | ins {a C dx : Addr} {fs : List (Str × V)} (e : H a = some (.ins C dx fs)) (cl : Cls K C) (ha : PySem.W.findIn K (.ref C) "__class__" = some (some (.builtin "object.__class__")))
      (hn : PySem.W.specialIn K (.builtin "object.__class__") "__get__" = some (some (.builtin "getset_descriptor.__get__"))) (htk : PySem.W.takesIn K (.builtin "object.__class__") = some true)
      (hm : PySem.W.mroIn K C (.type "object") = some true) : TyOf K H (.ref a) (.ref C)
theorem isinst_ok {x : V} {u t : Value} (I : Inv X pins σ H s) (rx : RelV x u) (ty : TyOf X.K H x t) (e : PySem.W.kitOne X.K t c = some b) (h : ∀ tk, Q (.bool b) { s with toks := tk }) :
    wpAny (model X.prog X.w) A (call (.builtin "isinstance") [u, c]) Q E s := by
  cases ty with
  | non => cases (show u = Value.none from rx); exact PySem.W.kia_one PySem.W.kitx_none I.kIn True.intro e (fun z => nomatch z) h
  | bl y => cases (show u = Value.bool y from rx); exact PySem.W.kia_one PySem.W.kitx_bool I.kIn True.intro e (fun z => nomatch z) h
  | int i => obtain ⟨t, q⟩ := (show ∃ t, u = Value.int i t from rx); cases q; exact PySem.W.kia_one PySem.W.kitx_int I.kIn True.intro e (fun z => nomatch z) h
  | str y => obtain ⟨t, q⟩ := (show ∃ t, u = Value.str y t from rx); cases q; exact PySem.W.kia_one PySem.W.kitx_str I.kIn True.intro e (fun z => nomatch z) h
  | flt y => obtain ⟨t, q⟩ := (show ∃ t, u = Value.float y t from rx); cases q; exact PySem.W.kia_one PySem.W.kitx_float I.kIn True.intro e (fun z => nomatch z) h
  | @lst a xs ea =>
    cases (show u = Value.ref a from rx)
    obtain ⟨_, _, n, _, h1⟩ := (show ObjOk X.prog X.w H s.heap a (.lst xs) from I.hok a _ ea)
    exact PySem.W.kia_one PySem.W.kitx_list I.kIn ⟨_, h1, rfl⟩ e (fun z => nomatch z) h
  | @frz a ob xs ea =>
    cases (show u = Value.ref a from rx)
    obtain ⟨_, _, _, n, _, h1⟩ := (show ObjOk X.prog X.w H s.heap a (.frz ob (.lst xs)) from I.hok a _ ea)
    exact PySem.W.kia_one PySem.W.kitx_list I.kIn ⟨_, h1, rfl⟩ e (fun z => nomatch z) h
  | @tup a xs ea =>
    cases (show u = Value.ref a from rx)
    obtain ⟨_, _, _, p⟩ := (show ObjOk X.prog X.w H s.heap a (.tup xs) from I.hok a _ ea)
    obtain ⟨o, h1, h2, _⟩ := p
    exact PySem.W.kia_one PySem.W.kitx_tuple I.kIn ⟨o, h1, h2⟩ e (fun z => nomatch z) h
  | @dK a kvs ea =>
    cases (show u = Value.ref a from rx)
    obtain ⟨_, _, vs, _, p⟩ := (show ObjOk X.prog X.w H s.heap a (.dK kvs) from I.hok a _ ea)
    obtain ⟨o, es, ep, h1, h2, _⟩ := p
    exact PySem.W.kia_one PySem.W.kitx_dict I.kIn ⟨o, h1, h2.1⟩ e (fun z => nomatch z) h
  | @dT a kvs ea =>
    cases (show u = Value.ref a from rx)
    obtain ⟨_, _, xs, _, o, es, ep, h1, h2, _⟩ := (show ObjOk X.prog X.w H s.heap a (.dT kvs) from I.hok a _ ea)
    exact PySem.W.kia_one PySem.W.kitx_dict I.kIn ⟨o, h1, h2.1⟩ e (fun z => nomatch z) h
  | @ins a C dx fs ea cl ha hn htk hm =>
    cases (show u = Value.ref a from rx)
    obtain ⟨mA, O, _⟩ := ins_get I.hok ea
    obtain ⟨od, J, _⟩ := O.look
    exact PySem.W.kia_one (PySem.W.kitx_own (cl.get _) cl.hd ha hn htk hm) I.kIn J e (fun z => nomatch z) h
end
end L2
namespace L2
open PySem PySem.Spec PyProof.Rows
structure Room (k : Nat) (A : Around) : Prop where
  hd : A.handled = none
  dp : A.depth + 3 * k + 5 < recursionLimit
  un : A.units + 16 * k + 200 < cLine
  gd : A.guards = some []
theorem Room.mono {j k : Nat} {A : Around} (r : Room k A) (h : j ≤ k) : Room j A := ⟨r.hd, by have := r.dp; omega, by have := r.un; omega, r.gd⟩
theorem Room.deeper {k : Nat} {A : Around} (r : Room (k + 1) A) (env : Env) : Room k (A.deeper env) :=
  ⟨r.hd, by have := r.dp; show A.depth + 1 + 3 * k + 5 < _; omega, by have := r.un; show A.units + 3 + 16 * k + 200 < _; omega, r.gd⟩
theorem Room.in1 {k : Nat} {A : Around} (r : Room (k + 1) A) : Room k A.in1 :=
  ⟨r.hd, by have := r.dp; show A.depth + 3 * k + 5 < _; omega, by have := r.un; show A.units + 1 + 16 * k + 200 < _; omega, r.gd⟩
theorem make_depth {A : Around} {C : Addr} {us : List Value} {kw : List (Str × Value)} : (A.under (.builtin "type.__call__" ⟨.ref C :: us, kw⟩)).depth = A.depth + 1 := by
  first | rfl | simp [Around.under, Code.weight, Code.isCreation, Code.isGuard, Code.isCaller, Code.frames, Code.isFrame, guardIds]
theorem make_units {A : Around} {C : Addr} {us : List Value} {kw : List (Str × Value)} : (A.under (.builtin "type.__call__" ⟨.ref C :: us, kw⟩)).units = A.units + 1 := by
  first | rfl | simp [Around.under, Code.cUnits, Code.frames, Code.isFrame]
theorem Room.make {k : Nat} {A : Around} (r : Room (k + 1) A) (C : Addr) (us : List Value) (kw : List (Str × Value)) : Room k (A.under (.builtin "type.__call__" ⟨.ref C :: us, kw⟩)) :=
  ⟨r.hd, by have := r.dp; rw [make_depth]; omega, by have := r.un; rw [make_units]; omega, by simp [Around.under, Code.guards, Code.isGuard, guardIds, pushGuards, r.gd]⟩
theorem Room.depth {k : Nat} {A : Around} (r : Room k A) : A.depth < recursionLimit := by have := r.dp; omega
theorem Room.units {k : Nat} {A : Around} (r : Room k A) : A.units + 64 < cLine := by have := r.un; omega
def tNil : TA := fun _ H Q => Q [] H
def tCons (ta : TE) (tr : TA) : TA := fun σ H Q => ta σ H fun x H1 => tr σ H1 fun xs H2 => Q (x :: xs) H2
section
variable {X : Cx} {e : Expr} {es : List Expr} {te : TE} {t : TA} {pos : Pos}
theorem pa_nil : PA X [] tNil := fun _ _ _ _ H Q I h => Calls.spliced_nil ⟨[], H, I, .nil, h⟩
theorem pa_cons (ha : PE X e te) (hr : PA X es t) (hs : starEach (e :: es) X.env = (false, eval e X.env) :: starEach es X.env := by rfl) : PA X (e :: es) (tCons te t) := by
  intro pos pins s σ H Q I h
  rw [hs]
  show wpAny _ _ (spliced ((false, eval e X.env) :: backTo pos (starEach es X.env))) _ _ s
  refine Calls.spliced_cons (thn (ha pins s σ H _ I h) fun u s1 ⟨x, H1, I1, r1, q1⟩ => ?_)
  exact thn (hr pos pins s1 σ H1 _ I1 q1) fun us s2 ⟨xs, H2, I2, r2, q2⟩ => ⟨x :: xs, H2, I2, .cons r1 r2, q2⟩
def tTup (t : TA) : TE := fun σ H Q => t σ H fun xs H1 => xs.length ≤ sizeLine ∧ ∀ p, H1 p = none → Q (.ref p) (upd H1 p (.tup xs))
def tLst (t : TA) : TE := fun σ H Q => t σ H fun xs H1 => xs.length ≤ sizeLine ∧ ∀ p, H1 p = none → Q (.ref p) (upd H1 p (.lst xs))
theorem pe_tup {x1} (h : PA X es t) : PE X (.Tuple es x1 pos) (tTup t) := by
  intro pins s σ H Q I hq
  refine wpAny_Tuple_spliced (thn (h pos pins s σ H _ I hq) fun us s1 ⟨xs, H1, I1, r, z, q⟩ => ⟨by rw [← r.length]; exact z, ?_⟩)
  have hf : H1 s1.heap.objs.size = none := I1.hok.fresh (Nat.le_refl _)
  refine ⟨.ref s1.heap.objs.size, upd H1 s1.heap.objs.size (.tup xs), I1.laid (t' := s1.toks) (fun b u e => Heap.get?_push_of_some _ e) (Nat.le_refl _) ?_, rfl, q _ hf⟩
  exact ⟨z, us, r, ⟨_, Heap.get?_push_size _ rfl, rfl, _, rfl⟩⟩
theorem pe_lst (h : PA X es t) : PE X (.List es pos) (tLst t) := by
  intro pins s σ H Q I hq
  refine wpAny_List_spliced (thn (h pos pins s σ H _ I hq) fun us s1 ⟨xs, H1, I1, r, z, q⟩ => ⟨by rw [← r.length]; exact z, ?_⟩)
  have hf : H1 s1.heap.objs.size = none := I1.hok.fresh (Nat.le_refl _)
  refine ⟨.ref s1.heap.objs.size, upd H1 s1.heap.objs.size (.lst xs), I1.laid (t' := s1.toks) (fun b u e => Heap.get?_push_of_some _ e) (Nat.le_refl _) ?_, rfl, q _ hf⟩
  exact ⟨z, us, 0, r, Heap.get?_push_size _ rfl⟩
end
abbrev Sp := List V → Hp → VK → XK → Prop
abbrev CXT := List Env → Hp → Shared → XK → Value → Shared → Prop
structure Env0 (P : Program) (w : World) (K : PySem.W.Frag) (mg : Str → Option Value) (base : Heap) (A : Around) (outer : List Env) (s : Shared) (H : Hp) : Prop where
  frames : A.frames = some outer
  mod : Mod K mg base
  bs : ∀ b o, base.get? b = some o → s.heap.get? b = some o ∧ H b = none
  bsz : base.objs.size ≤ s.heap.objs.size
  funs : s.heap.FunFrames base outer
  frf : ∀ b ∈ frs outer, H b = none
  hok : HOk P w H s.heap
  bare : AllBare s.gens
def CE (outer : List Env) (P : Program) (w : World) (H : Hp) (s : Shared) (Q : VK) (u : Value) (s' : Shared) : Prop :=
  ∃ v H', s'.os = s.os ∧ AllBare s'.gens ∧ Un (frs outer) [] H H' s.heap s'.heap ∧ HOk P w H' s'.heap ∧ RelV v u ∧ Q v H'
def CR (CX : CXT) (outer : List Env) (P : Program) (w : World) (H : Hp) (s : Shared) (Q : VK) (E : XK) (r : Result) (s' : Shared) : Prop :=
  match r with
  | .ok (.ret u) => CE outer P w H s Q u s'
  | .ok _ => False
  | .error e => CX outer H s E e s'
structure FnOk (P : Program) (w : World) (K : PySem.W.Frag) (mg : Str → Option Value) (base : Heap) (CX : CXT) (k : Nat) (f : Addr) (fd : FuncData) (ps : List Str) (sp : Sp) : Prop where
  len : ∀ vs H Q E, sp vs H Q E → vs.length = ps.length
  run : ∀ (A : Around) (outer : List Env) (s : Shared) (H : Hp) (args : Args) (us : List Value) (vs : List V) (Q : VK) (E : XK), Room k A → Env0 P w K mg base A outer s H → BindsTo s fd args (ps.zip us) → Vals vs us → sp vs H Q E →
    codeAny (model P w) A (.call (.ref f) args) (CR CX outer P w H s Q E) s
theorem FnOk.mono {P : Program} {w : World} {K : PySem.W.Frag} {mg : Str → Option Value} {base : Heap} {CX : CXT} {j k : Nat} {f : Addr} {fd : FuncData} {ps : List Str} {sp : Sp} (F : FnOk P w K mg base CX j f fd ps sp) (h : j ≤ k) :
    FnOk P w K mg base CX k f fd ps sp := ⟨F.len, fun A outer s H args us vs Q E hr => F.run A outer s H args us vs Q E (hr.mono h)⟩
theorem Env0.make {P : Program} {w : World} {K : PySem.W.Frag} {mg : Str → Option Value} {base : Heap} {A : Around} {outer : List Env} {s : Shared} {H : Hp} (e : Env0 P w K mg base A outer s H) (C : Addr) (us : List Value) (kw : List (Str × Value)) :
    Env0 P w K mg base (A.under (.builtin "type.__call__" ⟨.ref C :: us, kw⟩)) outer s H := ⟨by first | exact e.frames | (simpa [Around.under, Code.envs, Code.isFrame, pushEnvs] using e.frames), e.mod, e.bs, e.bsz, e.funs, e.frf, e.hok, e.bare⟩
theorem Env0.in1 {P : Program} {w : World} {K : PySem.W.Frag} {mg : Str → Option Value} {base : Heap} {A : Around} {outer : List Env} {s : Shared} {H : Hp} (e : Env0 P w K mg base A outer s H) :
    Env0 P w K mg base A.in1 outer s H := ⟨e.frames, e.mod, e.bs, e.bsz, e.funs, e.frf, e.hok, e.bare⟩
section
variable {X : Cx} {pins : List (Addr × Obj)} {σ : St} {H : Hp} {s s' : Shared}
theorem Inv.env0 (I : Inv X pins σ H s) : Env0 X.prog X.w X.K X.mg X.base X.A X.stack s H :=
  ⟨I.ok.frames, I.ok.mod, I.bs, Nat.le_trans I.ok.bsz I.sz, I.stack, I.stkFree, I.hok, I.bare⟩
theorem Inv.after {Q : VK} {u : Value} (I : Inv X pins σ H s) (h : CE X.stack X.prog X.w H s Q u s') : EP X pins σ Q u s' := by
  obtain ⟨v, H', os, bare, un, hok, r, q⟩ := h
  obtain ⟨hh, g, d, t, os'⟩ := s'
  obtain rfl : os' = s.os := os
  exact ⟨v, H', I.call (h' := hh) (g' := g) (d' := d) (t' := t) (ch := []) un hok bare (fun b z => absurd z (by simp)), r, q⟩
end
def tCall (sp : Sp) (dvs : List V) (E : XK) (t : TA) : TE := fun σ H Q => t σ H fun vs H1 => sp (vs ++ dvs) H1 Q E
def tMake (C : Addr) (sp : Sp) (dvs : List V) (E : XK) (t : TA) : TE := fun σ H Q => t σ H fun vs H1 => ∀ x dx, H1 x = none → H1 dx = none → dx ≠ x →
  sp (.ref x :: (vs ++ dvs)) (upd (upd H1 dx (.own x)) x (.ins C dx [])) (fun v H2 => v = .non ∧ Q (.ref x) H2) E
def Binds (K : PySem.W.Frag) (fd : FuncData) (ps : List Str) (ds : List Value) : Prop :=
  ∀ (s : Shared) (us : List Value), K.In s.heap → (us ++ ds).length = ps.length → BindsTo s fd ⟨us, []⟩ (ps.zip (us ++ ds))
theorem Binds.all {K : PySem.W.Frag} {fd : FuncData} {ps : List Str} (h : ∀ us : List Value, us.length = ps.length → bindArgs fd ⟨us, []⟩ = pure (ps.zip us)) : Binds K fd ps [] := fun s us _ hl => by
  rw [List.append_nil] at hl ⊢
  exact .of_eq (h us hl)
def Passes (CX : CXT) (X : Cx) (E : XK) : Prop := ∀ (pins : List (Addr × Obj)) (σ : St) (H : Hp) (s : Shared) (e : Value) (s' : Shared), Inv X pins σ H s → CX X.stack H s E e s' → X.xe e s'
section
variable {X : Cx} {CX : CXT} {k : Nat} {f C : Addr} {fd : FuncData} {ps : List Str} {sp : Sp} {dvs : List V} {ds : List Value} {E : XK} {x m : Str} {p pos apos : Pos} {e o : Expr} {es : List Expr} {ta : TE} {t : TA}
theorem run_fn {pins : List (Addr × Obj)} {σ : St} {H : Hp} {s : Shared} {Q : VK} {us : List Value} {vs : List V} (F : FnOk X.prog X.w X.K X.mg X.base CX k f fd ps sp) (hr : Room k X.A) (hb : Binds X.K fd ps ds) (hd : Vals dvs ds) (hx : Passes CX X E)
    (I : Inv X pins σ H s) (r : Vals vs us) (h : sp (vs ++ dvs) H Q E) : wpAny (model X.prog X.w) X.A (call (.ref f) us) (EP X pins σ Q) X.xe s := by
  have r2 : Vals (vs ++ dvs) (us ++ ds) := r.append hd
  have hl : (us ++ ds).length = ps.length := by rw [← r2.length]; exact F.len _ _ _ _ h
  refine wpAny_call (codeAny_mono (F.run X.A X.stack s H ⟨us, []⟩ (us ++ ds) (vs ++ dvs) Q E hr I.env0 (hb s us I.kIn hl) r2 h) fun r s' hq => ?_)
  cases r with
  | error e => exact hx pins σ H s e s' I hq
  | ok fl =>
    cases fl with
    | ret u => exact I.after hq
    | next => exact False.elim hq
    | brk => exact False.elim hq
    | cont => exact False.elim hq
theorem pe_call (F : FnOk X.prog X.w X.K X.mg X.base CX k f fd ps sp) (hr : Room k X.A) (hg : Gl X x) (hm : X.mg x = some (.ref f)) (hk : PySem.W.keepIn X.K (.ref f) = true) (hb : Binds X.K fd ps ds) (hd : Vals dvs ds) (hx : Passes CX X E)
    (ha : PA X (e :: es) t) (hdb : (x == ("__debug__" : Str)) = false := by decide) (he : starEach (e :: es) X.env = (false, eval e X.env) :: starEach es X.env := by rfl) (hpl : (backTo pos (starEach es X.env)).any (·.1) = false := by rfl) :
    PE X (.Call (.Name x p) (e :: es) [] pos) (tCall sp dvs E t) := by
  intro pins s σ H Q I h
  refine wpAny_Call_Name_kw (ld_glob I hg hm ?_ hdb)
  refine PySem.W.callWith_K (h₀ := X.base) I.ok.mod.kin hk (thn (ha pos pins s σ H _ I h) fun us s1 ⟨vs, H1, I1, r, q⟩ => ⟨I1.kIn, ?_⟩) he hpl
  exact run_fn F hr hb hd hx I1 r q
structure Mk (K : PySem.W.Frag) (C f : Addr) : Prop where
  makes : PySem.W.makesIn K C = true
  init : PySem.W.findIn K (.ref C) "__init__" = some (some (.ref f))
  fn : PySem.W.isFn K (.ref f) = true
  kp : PySem.W.keepIn K (.ref C) = true
theorem run_make {pins : List (Addr × Obj)} {σ : St} {H : Hp} {s : Shared} {Q : VK} {us : List Value} {vs : List V} (M : Mk X.K C f) (F : FnOk X.prog X.w X.K X.mg X.base CX k f fd ps sp) (hr : Room (k + 1) X.A) (hb : Binds X.K fd ps ds) (hd : Vals dvs ds)
    (hx : Passes CX X E) (I : Inv X pins σ H s) (r : Vals vs us)
    (h : ∀ x dx, H x = none → H dx = none → dx ≠ x → sp (.ref x :: (vs ++ dvs)) (upd (upd H dx (.own x)) x (.ins C dx [])) (fun v H2 => v = .non ∧ Q (.ref x) H2) E) :
    wpAny (model X.prog X.w) X.A (call (.ref C) us) (EP X pins σ Q) X.xe s := by
  have hq := h (s.heap.objs.size + 1) s.heap.objs.size (I.hok.fresh (Nat.le_succ _)) (I.hok.fresh (Nat.le_refl _)) (Nat.ne_of_lt (Nat.lt_succ_self _))
  have I2 := Inv.made (C := C) I
  have r2 : Vals (V.ref (s.heap.objs.size + 1) :: (vs ++ dvs)) (Value.ref (s.heap.objs.size + 1) :: (us ++ ds)) := .cons rfl (r.append hd)
  have hl : (Value.ref (s.heap.objs.size + 1) :: us ++ ds).length = ps.length := by
    have e := r2.length
    rw [F.len _ _ _ _ hq] at e
    exact e.symm
  refine wpAny_call (make_map (f := f) I.kIn M.makes M.init (beq_iff_eq.mp M.fn) (codeAny_mono (F.run _ X.stack _ _ ⟨Value.ref (s.heap.objs.size + 1) :: us, []⟩ (Value.ref (s.heap.objs.size + 1) :: (us ++ ds)) _ _ E (hr.make C us [])
    (I2.env0.make C us []) (hb _ (Value.ref (s.heap.objs.size + 1) :: us) I2.kIn hl) r2 hq) fun r s' hq' => ?_))
  cases r with
  | error e => exact hx pins σ _ _ e s' I2 hq'
  | ok fl =>
    cases fl with
    | ret u =>
      obtain ⟨v, H', I3, rv, ev, q3⟩ := I2.after hq'
      subst ev
      exact ⟨rv, ⟨V.ref (s.heap.objs.size + 1), H', I3, rfl, q3⟩⟩
    | next => exact False.elim hq'
    | brk => exact False.elim hq'
    | cont => exact False.elim hq'
theorem pe_make (M : Mk X.K C f) (F : FnOk X.prog X.w X.K X.mg X.base CX k f fd ps sp) (hr : Room (k + 1) X.A) (hg : Gl X x) (hm : X.mg x = some (.ref C)) (hb : Binds X.K fd ps ds) (hd : Vals dvs ds) (hx : Passes CX X E)
    (ha : PA X (e :: es) t) (hdb : (x == ("__debug__" : Str)) = false := by decide) (he : starEach (e :: es) X.env = (false, eval e X.env) :: starEach es X.env := by rfl) (hpl : (backTo pos (starEach es X.env)).any (·.1) = false := by rfl) :
    PE X (.Call (.Name x p) (e :: es) [] pos) (tMake C sp dvs E t) := by
  intro pins s σ H Q I h
  refine wpAny_Call_Name_kw (ld_glob I hg hm ?_ hdb)
  refine PySem.W.callWith_K (h₀ := X.base) I.ok.mod.kin M.kp (thn (ha pos pins s σ H _ I h) fun us s1 ⟨vs, H1, I1, r, q⟩ => ⟨I1.kIn, ?_⟩) he hpl
  exact run_make M F hr hb hd hx I1 r q
end
section
variable {X : Cx} {CX : CXT} {k : Nat} {f C : Addr} {fd : FuncData} {ps ks : List Str} {sp : Sp} {E : XK} {x m : Str} {p pos apos kpos : Pos} {e o : Expr} {es : List Expr} {kws : List Keyword} {te ta : TE} {t tk : TA} {nm : Option Str}
structure KBinds (K : PySem.W.Frag) (fd : FuncData) (ps ks : List Str) (g : List Value → List Value → List Value) (gV : List V → List V → List V) : Prop where
  to : ∀ (s : Shared) (us ws : List Value), K.In s.heap → (g us ws).length = ps.length → BindsTo s fd ⟨us, ks.zip ws⟩ (ps.zip (g us ws))
  rel : ∀ {vs : List V} {us : List Value} {zs : List V} {ws : List Value}, Vals vs us → Vals zs ws → Vals (gV vs zs) (g us ws)
variable {g : List Value → List Value → List Value} {gV : List V → List V → List V}
end
structure FnScope (N P : List Str) (sc : Scope) : Prop where
  kind : sc.kind = .function
  co : sc.isCoroutine = false
  gen : sc.isGenerator = false
  nd : N.Nodup
  pre : N.take P.length = P
  par : ∀ x ∈ P, sc.names.lookup x = some .local ∨ sc.names.lookup x = some .cell
  nofree : ∀ y ∈ sc.names, y.2 ≠ .free
theorem bindL_out {kindOf : Str → Option NameKind} {x : Str} : ∀ {binds : List (Str × Value)} {m : Str → Option Value}, (∀ v, (x, v) ∉ binds) → bindL kindOf binds m x = m x
  | [], _, _ => rfl
  | (n, v) :: r, m, h => by
    unfold bindL
    rw [bindL_out fun w hw => h w (List.mem_cons_of_mem _ hw)]
    split
    · have : x ≠ n := by rintro rfl; exact h v List.mem_cons_self
      simp [this]
    · rfl
theorem bindC_out {kindOf : Str → Option NameKind} {x : Str} : ∀ {binds : List (Str × Value)} {m : Str → Option Value}, (∀ v, (x, v) ∉ binds) → bindC kindOf binds m x = m x
  | [], _, _ => rfl
  | (n, v) :: r, m, h => by
    unfold bindC
    rw [bindC_out fun w hw => h w (List.mem_cons_of_mem _ hw)]
    split
    · rfl
    · have : x ≠ n := by rintro rfl; exact h v List.mem_cons_self
      simp [this]
theorem bindL_get {kindOf : Str → Option NameKind} {x : Str} {v : Value} : ∀ {P : List Str} {vs : List Value} {i : Nat} {m : Str → Option Value}, P.Nodup → P[i]? = some x → vs[i]? = some v → kindOf x = some .local →
    bindL kindOf (P.zip vs) m x = some v
  | [], _, _, _, _, h, _, _ => by simp at h
  | _ :: _, [], _, _, _, _, h, _ => by simp at h
  | p :: P, w :: vs, 0, m, nd, h1, h2, hk => by
    simp at h1 h2; subst h1; subst h2
    show bindL kindOf ((p, w) :: P.zip vs) m p = _
    unfold bindL
    rw [bindL_out fun v hv => (List.nodup_cons.mp nd).1 (List.of_mem_zip hv).1, if_pos hk]
    simp
  | p :: P, w :: vs, i + 1, m, nd, h1, h2, hk => by
    show bindL kindOf ((p, w) :: P.zip vs) m x = _
    unfold bindL
    exact bindL_get (i := i) (List.nodup_cons.mp nd).2 (by simpa using h1) (by simpa using h2) hk
theorem bindC_get {kindOf : Str → Option NameKind} {x : Str} {v : Value} : ∀ {P : List Str} {vs : List Value} {i : Nat} {m : Str → Option Value}, P.Nodup → P[i]? = some x → vs[i]? = some v → kindOf x ≠ some .local →
    bindC kindOf (P.zip vs) m x = some v
  | [], _, _, _, _, h, _, _ => by simp at h
  | _ :: _, [], _, _, _, _, h, _ => by simp at h
  | p :: P, w :: vs, 0, m, nd, h1, h2, hk => by
    simp at h1 h2; subst h1; subst h2
    show bindC kindOf ((p, w) :: P.zip vs) m p = _
    unfold bindC
    rw [bindC_out fun v hv => (List.nodup_cons.mp nd).1 (List.of_mem_zip hv).1, if_neg hk]
    simp
  | p :: P, w :: vs, i + 1, m, nd, h1, h2, hk => by
    show bindC kindOf ((p, w) :: P.zip vs) m x = _
    unfold bindC
    exact bindC_get (i := i) (List.nodup_cons.mp nd).2 (by simpa using h1) (by simpa using h2) hk
def start (N : List Str) (vs : List V) : St := vs.map some ++ List.replicate (N.length - vs.length) none
def cxOf (CX : CXT) (P : Program) (w : World) (K : PySem.W.Frag) (mg : Str → Option Value) (base : Heap) (N : List Str) (qual : Str) (scope : Scope) (f : Addr) (cd : Value) (A : Around) (outer : List Env) (s : Shared) (H : Hp) (E : XK) : Cx where
  prog := P
  w := w
  K := K
  mg := mg
  base := base
  A := A.deeper (envOfC qual scope s.heap.objs.size f cd)
  N := N
  s_0 := s
  H_0 := H
  env := envOfC qual scope s.heap.objs.size f cd
  outer := outer
  stack := envOfC qual scope s.heap.objs.size f cd :: outer
  ex := []
  calm := true
  fn := fun _ => true
  pn := []
  xe := fun e s' => wpAny (model P w) (A.deeper (envOfC qual scope s.heap.objs.size f cd)) (leaving (envOfC qual scope s.heap.objs.size f cd) e) (fun _ s'' => CX outer H s E e s'') (fun e' s'' => CX outer H s E e' s'') s'
theorem cell_has {sc : Scope} {n : Nat} {x : Str} (h : sc.names.lookup x = some .cell) : ∃ c, (cellsFrom n sc.names []).lookup x = some c := by
  have q := PySem.W.cellsFrom_some sc.names n [] (.inl h)
  exact Option.isSome_iff_exists.mp q
theorem inv_start {CX : CXT} {P : Program} {w : World} {K : PySem.W.Frag} {mg : Str → Option Value} {base : Heap} {N ps : List Str} {qual : Str} {scope : Scope} {f : Addr} {cd : Value} {A : Around} {outer : List Env} {s s1 : Shared} {H : Hp} {E : XK} {us : List Value} {vs : List V}
    (S : FnScope N ps scope) (hd : A.handled = none) (e0 : Env0 P w K mg base A outer s H) (hl : vs.length = ps.length) (r : Vals vs us)
    (x : InCallC s s.heap.objs.size (bindL (envOfC qual scope s.heap.objs.size f cd).kindOf (ps.zip us) fun _ => none) (cellsFrom (s.heap.objs.size + 1) scope.names []) (bindC (envOfC qual scope s.heap.objs.size f cd).kindOf (ps.zip us) fun _ => none) s1) :
    Inv (cxOf CX P w K mg base N qual scope f cd A outer s H E) [] (start N vs) H s1 := by
  have hpl : ps.length ≤ N.length := by have := congrArg List.length S.pre; rw [List.length_take] at this; omega
  obtain ⟨h1, tk, rfl, hk⟩ := x.done
  have noA : ∀ b : Addr, b ∉ (cxOf CX P w K mg base N qual scope f cd A outer s H E).ex := fun b z => absurd (show b ∈ ([] : List Addr) from z) (by simp)
  refine ⟨⟨e0.mod, S.kind, rfl, rfl, Nat.le_refl _, fun y z c h1 h2 => ?_, fun y hy => ?_, fun y c _ h => ?_, fun _ => hd, Around.frames_deeper e0.frames, .inr ⟨rfl, rfl⟩, fun b z => absurd z (noA b), e0.bs, e0.bsz, fun b _ _ => noA b, fun b z => absurd z (noA b), e0.funs, e0.frf⟩,
    rfl, e0.bare, Un.kept hk, ⟨_, x.toInCall.ns, fun i y v h1 h2 h3 => ?_⟩, fun y c h => ⟨_, x.cell y c h⟩, e0.hok.fresh (Nat.le_refl _), fun y c h => ?_, fun p hp => absurd (show p ∈ ([] : List (Addr × Obj)) from hp) (by simp), e0.hok.kept hk, ?_⟩
  · exact name_of_addr x.apart (PySem.mem_of_lookup h1) (PySem.mem_of_lookup h2)
  · have hy : scope.names.lookup y = some .cell ∨ scope.names.lookup y = some .free := hy
    rcases hy with hy | hy
    · exact cell_has hy
    · exact absurd rfl (S.nofree _ (PySem.mem_of_lookup hy))
  · exact Nat.le_of_lt (x.above y c (PySem.mem_of_lookup h))
  · have hi : i < vs.length := by
      unfold start at h2
      by_cases hi : i < vs.length
      · exact hi
      · rw [List.getElem?_append_right (by simpa using hi)] at h2
        rw [List.getElem?_replicate] at h2
        split at h2 <;> cases h2
    have ha : vs[i]? = some v := by
      unfold start at h2
      rw [List.getElem?_append_left (by simpa using hi), List.getElem?_map] at h2
      cases e : vs[i]? with
      | none => rw [e] at h2; cases h2
      | some a => rw [e] at h2; cases h2; rfl
    obtain ⟨u, hu, rv⟩ := r.get ha
    have hp : ps[i]? = some y := by
      rw [← S.pre, List.getElem?_take_of_lt (by omega)]; exact h1
    have ndP : ps.Nodup := by rw [← S.pre]; exact S.nd.sublist (List.take_sublist _ _)
    refine ⟨u, rv, ?_⟩
    rcases S.par y (List.mem_of_getElem? hp) with k | k
    · exact .inl ⟨k, bindL_get ndP hp hu k⟩
    · obtain ⟨c, e⟩ := cell_has (n := s.heap.objs.size + 1) k
      refine .inr ⟨.inl k, c, e, ?_⟩
      have q := x.cell y c e
      rw [bindC_get ndP hp hu (by show scope.names.lookup y ≠ _; rw [k]; decide)] at q
      exact q
  · exact e0.hok.fresh (Nat.le_of_lt (x.above y c (PySem.mem_of_lookup h)))
  · unfold start
    show _ = N.length
    rw [List.length_append, List.length_map, List.length_replicate]
    omega
theorem fn_of {CX : CXT} {P : Program} {w : World} {K : PySem.W.Frag} {mg : Str → Option Value} {base : Heap} {k : Nat} {f : Addr} {name qual : Str} {params : Arguments} {body : List Stmt} {scope : Scope} {dV kV doc pm cdv ct oc : Value} {an od : Option Addr}
    {osl : Array (Option Value)} {N ps : List Str} {sp : Sp} (lk : K.lookup f = some ⟨oc, od, .func (PySem.W.fnOf name qual params body scope dV kV doc pm an cdv ct), osl⟩) (hcd : PySem.W.codeIn K cdv qual = true) (S : FnScope N ps scope)
    (len : ∀ vs H Q E, sp vs H Q E → vs.length = ps.length)
    (hbody : ∀ (A : Around) (outer : List Env) (s : Shared) (H : Hp) (vs : List V) (Q : VK) (E : XK), Room k (A.deeper (envOfC qual scope s.heap.objs.size f cdv)) → sp vs H Q E →
      ∃ t, PSs (cxOf CX P w K mg base N qual scope f cdv A outer s H E) body t ∧ t { nx := fun _ H' => Q .non H', rt := Q } (start N vs) H) :
    FnOk P w K mg base CX (k + 1) f (PySem.W.fnOf name qual params body scope dV kV doc pm an cdv ct) ps sp := by
  refine ⟨len, fun A outer s H args us vs Q E hr e0 hb r hsp => ?_⟩
  have hl := len _ _ _ _ hsp
  have KX : K.In s.heap := e0.mod.kin.keeps fun b o e => (e0.bs b o e).1
  have lim : s.heap.NoLimit := e0.mod.nolimit.keeps fun b o e => (e0.bs b o e).1
  have hkind : ∀ y ∈ ps.zip us, scope.names.lookup y.1 = some .local ∨ (scope.names.lookup y.1 = some .cell ∧ ((cellsFrom (s.heap.objs.size + 1) scope.names []).lookup y.1).isSome = true) := fun ⟨n, v⟩ hy => by
    rcases S.par n (List.of_mem_zip hy).1 with q | q
    · exact .inl q
    · exact .inr ⟨q, PySem.W.cellsFrom_some _ _ _ (.inl q)⟩
  refine codeAny_call_function hr.depth (KX _ _ lk) rfl S.co S.gen rfl (PySem.W.codeRec_of KX hcd) (hb _ _ _ _ ?_)
  refine wpAny_newFunctionEnv_cells S.kind hkind fun env he s1 x => ?_
  subst he
  refine ⟨lim.keeps x.toInCall.keep, codeAny_func ?_⟩
  obtain ⟨t, ht, hq⟩ := hbody A outer s H vs Q E (hr.deeper _) hsp
  have I : Inv (cxOf CX P w K mg base N qual scope f cdv A outer s H E) [] (start N vs) H s1 := inv_start S hr.hd e0 hl r x
  refine wpAny_mono (ht [] s1 (start N vs) H _ I hq) (fun fl s' hs => ?_) fun e s' hs => hs
  have fin : ∀ {σ' : St} {H' : Hp} {v : V} {u : Value}, Inv (cxOf CX P w K mg base N qual scope f cdv A outer s H E) [] σ' H' s' → RelV v u → Q v H' → CE outer P w H s Q u s' :=
    fun {σ' H' v u} J rv q => ⟨v, H', J.os, J.bare, J.base, J.hok, rv, q⟩
  cases fl with
  | ret u =>
    obtain ⟨v, σ', H', J, rv, q⟩ := hs
    exact fin J rv q
  | next =>
    obtain ⟨σ', H', J, q⟩ := hs
    exact fin (v := V.non) (u := Value.none) J rfl q
  | brk =>
    obtain ⟨_, _, _, q⟩ := hs
    exact False.elim q
  | cont =>
    obtain ⟨_, _, _, q⟩ := hs
    exact False.elim q
end L2
namespace L2
open PySem PySem.Spec PyProof.Rows
section
variable {X : Cx} {x : Str} {p pos : Pos} {e : Expr} {es : List Expr} {t : TA} {id T : String} {r : List V → Hp → VK → Prop}
def tCB (r : List V → Hp → VK → Prop) (t : TA) : TE := fun σ H Q => t σ H fun vs H1 => r vs H1 Q
theorem pe_callB (hc : CallR X (.builtin id) r) (hg : Gl X x) (hm : X.mg x = none) (hv : bootBuiltins x = some (.builtin id)) (ha : PA X (e :: es) t) (hn : x ≠ "__name__" := by decide) (hdb : (x == ("__debug__" : Str)) = false := by decide)
    (he : starEach (e :: es) X.env = (false, eval e X.env) :: starEach es X.env := by rfl) (hpl : (backTo pos (starEach es X.env)).any (·.1) = false := by rfl) : PE X (.Call (.Name x p) (e :: es) [] pos) (tCB r t) := by
  intro pins s σ H Q I h
  refine wpAny_Call_Name_kw (ld_blt I hg hm hv ?_ hn hdb)
  exact PyProof.Rows.callWith_builtin1 (thn (ha pos pins s σ H _ I h) fun us s1 ⟨vs, H1, I1, r1, q1⟩ => hc pins s1 σ H1 vs us Q I1 r1 q1) he hpl
theorem pe_callTy (hc : CallR X (.type T) r) (hg : Gl X x) (hm : X.mg x = none) (hv : bootBuiltins x = some (.type T)) (ha : PA X (e :: es) t) (hn : x ≠ "__name__" := by decide) (hdb : (x == ("__debug__" : Str)) = false := by decide)
    (he : starEach (e :: es) X.env = (false, eval e X.env) :: starEach es X.env := by rfl) (hpl : (backTo pos (starEach es X.env)).any (·.1) = false := by rfl) : PE X (.Call (.Name x p) (e :: es) [] pos) (tCB r t) := by
  intro pins s σ H Q I h
  refine wpAny_Call_Name_kw (ld_blt I hg hm hv ?_ hn hdb)
  exact PyProof.Rows.callWith_type1 (thn (ha pos pins s σ H _ I h) fun us s1 ⟨vs, H1, I1, r1, q1⟩ => hc pins s1 σ H1 vs us Q I1 r1 q1) he hpl
end
end L2
namespace HT
open PySem PyProof.Rows
section
open PySem.SeqAt
open PySem.AutoSeq1 (wpAny_loadPart')
open PySem.MeetsSeq PySem.MeetsSeq2 PySem.MeetsSeq3
end
section
variable {prog : Program} {w : World} {A : Around} {E : Value → Shared → Prop} {s : Shared}
theorem cat_tup {t b : Addr} {vs ws : List Value} {Q : Value → Shared → Prop} (ht : IsTup s.heap t vs.toArray) (hb : IsTup s.heap b ws.toArray) (hv : vs ≠ [])
    (h1 : ws = [] → Q (.ref t) s) (h2 : ws ≠ [] → Q (.ref s.heap.objs.size) { s with heap := s.heap.push { cls := .type "tuple", data := .seq (vs ++ ws).toArray } })
    (hsz : vs.length + ws.length ≤ sizeLine) : wpAny (model prog w) A (binaryOp .Add (.ref t) (.ref b)) Q E s := by
  obtain ⟨⟨cls, dd, data, sl⟩, ho, hc, n, hd⟩ := id ht
  obtain ⟨⟨cls2, dd2, data2, sl2⟩, ho2, hc2, n2, hd2⟩ := id hb
  simp only at hc hd hc2 hd2
  subst hc hd hc2 hd2
  have e : vs.toArray ++ ws.toArray = (vs ++ ws).toArray := by simp
  by_cases hw : ws = []
  · exact concat_meets ⟨_, ho, rfl⟩ ⟨_, ho2, rfl⟩ noFill_tuple_add seq_tuple_add PySem.F.slot_tuple_add PySem.F.entry_tuple_add (PySem.F.args_tuple_add_2 _ _)
      (tuple_addW1 t b vs.toArray ws.toArray n n2 dd dd2 sl sl2 (by simpa using hv) (by simp [hw])) ⟨ho, ho2, h1 hw⟩
  · refine concat_meets ⟨_, ho, rfl⟩ ⟨_, ho2, rfl⟩ noFill_tuple_add seq_tuple_add PySem.F.slot_tuple_add PySem.F.entry_tuple_add (PySem.F.args_tuple_add_2 _ _)
      (tuple_addW2 t b vs.toArray ws.toArray n n2 dd dd2 sl sl2 (by simpa using hv) (by simpa using hw) (by rw [List.size_toArray, List.size_toArray]; exact hsz)) ⟨ho, ho2, ?_⟩
    rw [e]
    exact h2 hw
def sIx (n d : Nat) : Option Int → Nat
  | none => d
  | some v => if v < 0 then (v + (n : Int)).toNat else min v.toNat n
theorem sIx_none (n d : Nat) : sIx n d none = d := rfl
theorem sIx_nat (n d k : Nat) : sIx n d (some (k : Int)) = min k n := by
  show (if (k : Int) < 0 then ((k : Int) + (n : Int)).toNat else min (k : Int).toNat n) = min k n
  rw [if_neg (by omega), Int.toNat_natCast]
theorem sIx_le (n d : Nat) (hd : d ≤ n) (o : Option Int) : sIx n d o ≤ n := by
  cases o with
  | none => exact hd
  | some v =>
    show (if v < 0 then (v + (n : Int)).toNat else min v.toNat n) ≤ n
    by_cases hv : v < 0
    · rw [if_pos hv]; omega
    · rw [if_neg hv]; exact Nat.min_le_right _ _
theorem clip_eq (v : Int) (n d : Nat) : (if v < 0 then max (v + (n : Int)) 0 else min v (n : Int)) = ((sIx n d (some v) : Nat) : Int) := by
  show (if v < 0 then max (v + (n : Int)) 0 else min v (n : Int)) = (((if v < 0 then (v + (n : Int)).toNat else min v.toNat n) : Nat) : Int)
  by_cases hv : v < 0
  · simp only [if_pos hv]; omega
  · simp only [if_neg hv]; omega
theorem adjust_gen (lo hi : Option Int) (n : Nat) : Builtin.Slice.sliceAdjust lo hi 1 (n : Int) = (((sIx n 0 lo : Nat) : Int), ((sIx n n hi : Nat) : Int)) := by
  have h1 : ¬ ((1 : Int) < 0) := by omega
  unfold Builtin.Slice.sliceAdjust
  simp only [h1, if_false]
  refine Prod.ext ?_ ?_
  · cases lo with
    | none => rfl
    | some v => exact clip_eq v n 0
  · cases hi with
    | none => rfl
    | some v => exact clip_eq v n n
theorem places_gen (i j : Nat) : Builtin.Slice.slicePlaces (i : Int) (j : Int) 1 = j - i := by
  unfold Builtin.Slice.slicePlaces
  have h1 : (1 : Int) > 0 := by omega
  simp only [h1, if_true, Int.ediv_one]
  split <;> omega
theorem slicePart_ {v : Value} {o : Option Int} {Q : Option Int → Shared → Prop} (p : IsPart v o) (h : Q o s) : wpAny (model prog w) A (Builtin.Slice.slicePartIndex v) Q E s := by
  cases p with
  | none => exact slicePart_none h
  | int i t => exact slicePart_int h
theorem sliceApplied_gen {sl : Addr} {vl vu : Value} {lo hi : Option Int} {n : Nat} {Q : Int × Int × Nat → Shared → Prop} (hs : s.heap.IsSliceOf sl vl vu .none) (pl : IsPart vl lo) (pu : IsPart vu hi)
    (h : Q (((sIx n 0 lo : Nat) : Int), 1, sIx n n hi - sIx n 0 lo) s) : wpAny (model prog w) A (Builtin.Slice.sliceApplied (.ref sl) (pure (n : Int))) Q E s := by
  obtain ⟨os, hos, hcs, hds⟩ := id hs
  unfold Builtin.Slice.sliceApplied Builtin.Slice.sliceFields
  refine wpAny_bind (wpAny_bind (wpAny_field hos hds (x := vl) rfl (wpAny_bind (wpAny_field hos hds (x := vu) rfl (wpAny_bind (wpAny_field hos hds (x := .none) rfl (wpAny_pure ?_)))))))
  refine wpAny_bind (slicePart_none ?_)
  show wpAny _ _ (if ((1 : Int) == 0) = true then _ else _) _ _ s
  rw [if_neg (by decide)]
  refine wpAny_bind (slicePart_ pl (wpAny_bind (slicePart_ pu (wpAny_bind (wpAny_pure ?_)))))
  show wpAny _ _ (match Builtin.Slice.sliceAdjust lo hi 1 (n : Int) with | (lo, hi) => pure (lo, (1 : Int), Builtin.Slice.slicePlaces lo hi 1)) _ _ s
  rw [adjust_gen lo hi n]
  show wpAny _ _ (pure (((sIx n 0 lo : Nat) : Int), (1 : Int), Builtin.Slice.slicePlaces ((sIx n 0 lo : Nat) : Int) ((sIx n n hi : Nat) : Int) 1)) _ _ s
  rw [places_gen]
  exact wpAny_pure h
theorem pick_gen (xs : Array Value) (i k : Nat) : ((List.range k).filterMap fun (m : Nat) => xs[((i : Int) + (m : Int) * 1).toNat]?).toArray = ((xs.toList.drop i).take k).toArray := by
  have e : (fun (m : Nat) => xs[((i : Int) + (m : Int) * 1).toNat]?) = fun m => xs[i + m]? := by
    funext m
    have : ((i : Int) + (m : Int) * 1).toNat = i + m := by omega
    rw [this]
  rw [e]
  have := pick_run xs i k
  rw [List.filterMap_map] at this
  have e2 : ((fun x => xs[x]?) ∘ fun x => i + x) = fun m => xs[i + m]? := rfl
  rw [e2] at this
  rw [this]
theorem getItem_tuple_cut {t sl : Addr} {items : Array Value} {vl vu : Value} {lo hi : Option Int} {Q : Value → Shared → Prop} (ht : IsTup s.heap t items) (hs : s.heap.IsSliceOf sl vl vu .none) (pl : IsPart vl lo) (pu : IsPart vu hi)
    (hw : ¬ (sIx items.size 0 lo = 0 ∧ sIx items.size items.size hi = items.size))
    (h : Q (.ref s.heap.objs.size) { s with heap := s.heap.push { cls := .type "tuple", data := .seq ((items.toList.drop (sIx items.size 0 lo)).take (sIx items.size items.size hi - sIx items.size 0 lo)).toArray } })
    (hsz : items.size ≤ sizeLine) : wpAny (model prog w) A (getItem (.ref t) (.ref sl)) Q E s := by
  have htake : sizeOk (.seq ((items.toList.drop (sIx items.size 0 lo)).take (sIx items.size items.size hi - sIx items.size 0 lo)).toArray) := by
    show ((items.toList.drop (sIx items.size 0 lo)).take (sIx items.size items.size hi - sIx items.size 0 lo)).toArray.size ≤ sizeLine
    rw [List.size_toArray, List.length_take, List.length_drop, Array.length_toList]
    omega
  have hj : sIx items.size items.size hi ≤ items.size := sIx_le _ _ (Nat.le_refl _) hi
  obtain ⟨os, hos, hcs, hds⟩ := id hs
  have hTs : s.TypeIs (.ref sl) "slice" := ⟨os, hos, hcs⟩
  unfold getItem
  try with_reducible refine wpAny_holding ?_
  first | refine wpAny_bind (wpAny_pure ?_) | skip
  refine wpAny_bind (wpAny_sequenceKey ht.typeIs (by decide) ?_)
  refine wpAny_bind (wpAny_callSpecial?_slot (name := Str.ofString "__getitem__") ht.typeIs PyProof.Rows.slot_tuple_getitem
    (wpAny_call_entry PyProof.Rows.slot_tuple_getitem ht.typeIs entry_tuple_getitem ?_ (args_tuple_getitem _ _)))
  show wpAny _ _ (Builtin.Tuple.tupleItemsOf (.ref t) >>= _) _ _ s
  refine wpAny_bind (tupleItemsOf_ ht ?_)
  refine wpAny_bind (wpAny_typeOf hTs ?_)
  rw [if_pos (by decide)]
  refine wpAny_bind (sliceApplied_gen hs pl pu ?_)
  have hno : ¬ ((((sIx items.size 0 lo : Nat) : Int) == 0 && (1 : Int) == 1 && (sIx items.size items.size hi - sIx items.size 0 lo) == items.size) = true) := by
    intro q
    rw [Bool.and_eq_true, Bool.and_eq_true] at q
    have q1 : ((sIx items.size 0 lo : Nat) : Int) = 0 := eq_of_beq q.1.1
    have q2 : sIx items.size items.size hi - sIx items.size 0 lo = items.size := eq_of_beq q.2
    exact hw ⟨by omega, by omega⟩
  show wpAny _ _ (if (((sIx items.size 0 lo : Nat) : Int) == 0 && (1 : Int) == 1 && (sIx items.size items.size hi - sIx items.size 0 lo) == items.size) = true then _ else _) _ _ s
  rw [if_neg hno, pick_gen]
  first
    | exact wpAny_bind (m := Builtin.Tuple.tupleExact _) (wpAny_newObj_type (wpAny_pure ⟨_, rfl, wpAny_pure h⟩) htake)
    | exact wpAny_bind (m := Builtin.Tuple.tupleExact _) (wpAny_newObj_type (wpAny_bind (wpAny_pure (wpAny_pure ⟨_, rfl, wpAny_pure h⟩))) htake)
    | exact wpAny_bind (wpAny_bind (m := Builtin.Tuple.tupleExact _) (wpAny_newObj_type (wpAny_pure (wpAny_pure ⟨_, rfl, wpAny_pure h⟩)) htake))
    | exact wpAny_bind (wpAny_bind (m := Builtin.Tuple.tupleExact _) (wpAny_newObj_type (wpAny_pure ⟨_, rfl, wpAny_pure h⟩) htake))
end
end HT
namespace L2
open PySem PySem.Spec PyProof.Rows
abbrev TO := St → Hp → (Option Int → Hp → Prop) → Prop
def PO (X : Cx) (e : Option Expr) (t : TO) : Prop :=
  ∀ (pins : List (Addr × Obj)) (s : Shared) (σ : St) (H : Hp) (Q : Option Int → Hp → Prop), Inv X pins σ H s → t σ H Q →
    wpAny (model X.prog X.w) X.A (evalPart e X.env) (fun u s' => ∃ o H', Inv X pins σ H' s' ∧ IsPart u o ∧ Q o H') X.xe s
def tNoPart : TO := fun _ H Q => Q none H
def tPart (t : TE) : TO := fun σ H Q => t σ H fun x H1 => ∃ i, x = .int i ∧ Q (some i) H1
section
variable {X : Cx} {e : Expr} {te : TE} {lo hi : Option Expr} {tl th : TO} {pos p2 : Pos}
theorem po_none : PO X none tNoPart := by
  intro pins s σ H Q I h
  rw [evalPart_none]
  exact wpAny_pure ⟨none, H, I, .none, h⟩
theorem po_some (h : PE X e te) : PO X (some e) (tPart te) := by
  intro pins s σ H Q I hw
  rw [evalPart_some]
  refine thn (h pins s σ H _ I hw) fun u s1 ⟨x, H1, I1, r1, q1⟩ => ?_
  obtain ⟨i, rfl, q⟩ := q1
  obtain ⟨t, rfl⟩ := r1
  exact ⟨some i, H1, I1, .int i t, q⟩
def SlR (X : Cx) (r : V → Option Int → Option Int → Hp → VK → Prop) : Prop :=
  ∀ (pins : List (Addr × Obj)) (s : Shared) (σ : St) (H : Hp) (x : V) (v vl vu : Value) (lo hi : Option Int) (sl : Addr) (Q : VK), Inv X pins σ H s → RelV x v → s.heap.IsSliceOf sl vl vu .none → IsPart vl lo → IsPart vu hi → r x lo hi H Q →
    ∃ T id, typeLookup (.type T) "__getitem__" = pure (some (.builtin id)) ∧ s.TypeIs v T ∧ wpAny (model X.prog X.w) X.A (getItem v (.ref sl)) (EP X pins σ Q) X.xe s
theorem SlR.or {r r' : V → Option Int → Option Int → Hp → VK → Prop} (h : SlR X r) (h' : SlR X r') : SlR X (fun x lo hi H Q => r x lo hi H Q ∨ r' x lo hi H Q) := by
  intro pins s σ H x v vl vu lo hi sl Q I rx hs pl pu q
  rcases q with q | q
  · exact h pins s σ H x v vl vu lo hi sl Q I rx hs pl pu q
  · exact h' pins s σ H x v vl vu lo hi sl Q I rx hs pl pu q
def tSl (r : V → Option Int → Option Int → Hp → VK → Prop) (te : TE) (tl th : TO) : TE := fun σ H Q => te σ H fun x H1 => tl σ H1 fun l H2 => th σ H2 fun u H3 => r x l u H3 Q
theorem pe_slice {r : V → Option Int → Option Int → Hp → VK → Prop} (hr : SlR X r) (he : PE X e te) (hl : PO X lo tl) (hu : PO X hi th) : PE X (.Subscript e (.Slice lo hi none p2) pos) (tSl r te tl th) := by
  intro pins s σ H Q I h
  refine Subscript_ (thn (he pins s σ H _ I h) fun v s1 ⟨x, H1, I1, r1, q1⟩ => ?_)
  refine wpAny_Slice (thn (hl pins s1 σ H1 _ I1 q1) fun vl s2 ⟨l, H2, I2, pl, q2⟩ => thn (hu pins s2 σ H2 _ I2 q2) fun vu s3 ⟨u, H3, I3, pu, q3⟩ => ?_)
  rw [evalPart_none]
  refine wpAny_pure ?_
  have I4 : Inv X pins σ H3 { s3 with heap := s3.heap.push { cls := .type "slice", data := .fields #[vl, vu, .none] } } := I3.kept (t' := s3.toks) fun b ob q => Heap.get?_push_of_some _ q
  obtain ⟨T, id, hT, ht, hg⟩ := hr pins { s3 with heap := s3.heap.push { cls := .type "slice", data := .fields #[vl, vu, .none] } } σ H3 x v vl vu l u s3.heap.objs.size Q I4 r1 (Heap.IsSliceOf.new ..) pl pu q3
  show wpAny (model X.prog X.w) X.A (subscriptTail e (.Slice lo hi none p2) v (.ref s3.heap.objs.size)) (EP X pins σ Q) X.xe { s3 with heap := s3.heap.push { cls := .type "slice", data := .fields #[vl, vu, .none] } }
  exact tail_any (ops := [.ref s3.heap.objs.size, v]) ht hT hg (by with_unfolding_all rfl)
def cutV (xs : List V) (lo hi : Option Int) : List V := (xs.drop (HT.sIx xs.length 0 lo)).take (HT.sIx xs.length xs.length hi - HT.sIx xs.length 0 lo)
theorem cutV_length (xs : List V) (lo hi : Option Int) : (cutV xs lo hi).length ≤ xs.length := by
  unfold cutV
  rw [List.length_take, List.length_drop]
  omega
def rSlT (K : PySem.W.Frag) : V → Option Int → Option Int → Hp → VK → Prop := fun x lo hi H Q => ∃ a xs, x = .ref a ∧ SqT K H a xs ∧
  ¬ (HT.sIx xs.length 0 lo = 0 ∧ HT.sIx xs.length xs.length hi = xs.length) ∧ ∀ p, H p = none → Q (.ref p) (upd H p (.tup (cutV xs lo hi)))
theorem sl_tup : SlR X (rSlT X.K) := by
  intro pins s σ H x v vl vu lo hi sl Q I rx hs pl pu h
  obtain ⟨a, xs, rfl, hx, hw, q⟩ := h
  cases rx
  obtain ⟨its, r, ht, hz⟩ := I.tuple hx
  have hlen : its.toArray.size = xs.length := by rw [List.size_toArray]; exact r.length.symm
  refine ⟨"tuple", _, PyProof.Rows.slot_tuple_getitem.lookup, ht.typeIs, ?_⟩
  refine HT.getItem_tuple_cut ht hs pl pu (by rw [hlen]; exact hw) ?_ (by rw [hlen]; exact hz)
  rw [hlen]
  refine ⟨.ref s.heap.objs.size, _, I.laid (t' := s.toks) (o := .tup (cutV xs lo hi)) (fun b ob q => Heap.get?_push_of_some _ q) (Nat.le_refl _) ?_, rfl, q _ (I.hok.fresh (Nat.le_refl _))⟩
  exact ⟨Nat.le_trans (cutV_length xs lo hi) hz, _, (r.drop (HT.sIx xs.length 0 lo)).take (HT.sIx xs.length xs.length hi - HT.sIx xs.length 0 lo), IsTup.new _ _⟩
def rCatT (K : PySem.W.Frag) : R2 := fun x y H Q => ∃ a b xs ys, x = .ref a ∧ y = .ref b ∧ SqT K H a xs ∧ SqT K H b ys ∧ xs ≠ [] ∧ xs.length + ys.length ≤ sizeLine ∧
  (ys = [] → Q (.ref a) H) ∧ (ys ≠ [] → ∀ p, H p = none → Q (.ref p) (upd H p (.tup (xs ++ ys))))
theorem Vals.nil_iff {xs : List V} {us : List Value} (r : Vals xs us) : us = [] ↔ xs = [] := by
  cases r with
  | nil => simp
  | cons _ _ => simp
theorem op_catT : OpR X (binaryOp .Add) (rCatT X.K) := by
  intro pins s σ H x y v u Q I rx ry h
  obtain ⟨a, b, xs, ys, rfl, rfl, ha, hb, hx, hz, q1, q2⟩ := h
  cases rx
  cases ry
  obtain ⟨its, r1, p1, _⟩ := I.tuple ha
  obtain ⟨its2, r2, p2, _⟩ := I.tuple hb
  refine HT.cat_tup p1 p2 (fun z => hx (r1.nil_iff.mp z)) (fun z => ⟨.ref a, H, I, rfl, q1 (r2.nil_iff.mp z)⟩) (fun z => ?_) (by rw [← r1.length, ← r2.length]; exact hz)
  refine ⟨.ref s.heap.objs.size, _, I.laid (t' := s.toks) (o := .tup (xs ++ ys)) (fun b ob q => Heap.get?_push_of_some _ q) (Nat.le_refl _) ?_, rfl, q2 (fun w => z (r2.nil_iff.mpr w)) _ (I.hok.fresh (Nat.le_refl _))⟩
  exact ⟨by rw [List.length_append]; exact hz, _, r1.append r2, IsTup.new _ _⟩
end
end L2
namespace L2
open PySem PySem.Spec PyProof.Rows
def ixN (n : Nat) (i : Int) : Option Nat := if 0 ≤ i then (if i < n then some i.toNat else none) else if -(n : Int) ≤ i then some (i + n).toNat else none
def atI {α : Type} (xs : List α) (i : Int) : Option α := (ixN xs.length i).bind fun j => xs[j]?
theorem ixN_seq {n : Nat} {i : Int} {j : Nat} (h : ixN n i = some j) : seqIndex? i n = some j ∧ j < n ∧ -(n : Int) ≤ i ∧ i < n := by
  unfold ixN at h
  by_cases h0 : 0 ≤ i
  · rw [if_pos h0] at h
    by_cases h1 : i < n
    · rw [if_pos h1] at h
      have e : i.toNat = j := Option.some.inj h
      exact ⟨by rw [seqIndex_of h0 h1, e], by omega, by omega, h1⟩
    · rw [if_neg h1] at h; cases h
  · rw [if_neg h0] at h
    by_cases h1 : -(n : Int) ≤ i
    · rw [if_pos h1] at h
      have e : (i + n).toNat = j := Option.some.inj h
      exact ⟨by rw [seqIndex_neg (by omega) h1, e], by omega, h1, by omega⟩
    · rw [if_neg h1] at h; cases h
theorem atI_get {α : Type} {xs : List α} {i : Int} {v : α} (h : atI xs i = some v) : ∃ j, seqIndex? i xs.length = some j ∧ xs[j]? = some v ∧ j < xs.length ∧ -(xs.length : Int) ≤ i ∧ i < xs.length := by
  unfold atI at h
  cases e : ixN xs.length i with
  | none => rw [e] at h; cases h
  | some j =>
    rw [e] at h
    obtain ⟨h1, h2, h3, h4⟩ := ixN_seq e
    exact ⟨j, h1, h, h2, h3, h4⟩
def PlainIx (b : Expr) : Prop := ∀ o i, subscripted b false o i = operate [o, i] (getItem o i)
def IxR (X : Cx) (r : R2) : Prop :=
  ∀ (value slice : Expr) (pins : List (Addr × Obj)) (s : Shared) (σ : St) (H : Hp) (x y : V) (v u : Value) (Q : VK), Inv X pins σ H s → RelV x v → RelV y u → r x y H Q →
    subscripted slice false v u = operate [v, u] (getItem v u) → wpAny (model X.prog X.w) X.A (subscriptTail value slice v u) (EP X pins σ Q) X.xe s
def MtR (X : Cx) (id : String) (r : V → List V → Hp → VK → Prop) : Prop :=
  ∀ (pins : List (Addr × Obj)) (s : Shared) (σ : St) (H : Hp) (x : V) (xs : List V) (v : Value) (us : List Value) (Q : VK), Inv X pins σ H s → RelV x v → Vals xs us → r x xs H Q →
    wpAny (model X.prog X.w) X.A (call (.builtin id) (v :: us)) (EP X pins σ Q) X.xe s
section
variable {X : Cx} {a b : Expr} {ta tb : TE} {pos : Pos}
theorem IxR.or {r r' : R2} (h : IxR X r) (h' : IxR X r') : IxR X (fun x y H Q => r x y H Q ∨ r' x y H Q) := by
  intro value slice pins s σ H x y v u Q I rx ry q hs
  rcases q with q | q
  · exact h value slice pins s σ H x y v u Q I rx ry q hs
  · exact h' value slice pins s σ H x y v u Q I rx ry q hs
theorem MtR.or {id : String} {r r' : V → List V → Hp → VK → Prop} (h : MtR X id r) (h' : MtR X id r') : MtR X id (fun x xs H Q => r x xs H Q ∨ r' x xs H Q) := by
  intro pins s σ H x xs v us Q I rx rs q
  rcases q with q | q
  · exact h pins s σ H x xs v us Q I rx rs q
  · exact h' pins s σ H x xs v us Q I rx rs q
theorem pe_ix {r : R2} (hr : IxR X r) (ha : PE X a ta) (hb : PE X b tb) (hs : PlainIx b) : PE X (.Subscript a b pos) (tOp r ta tb) := by
  intro pins s σ H Q I h
  exact Subscript_ (binT ha hb I h fun v u s2 x y H2 I2 rx ry q => hr a b pins s2 σ H2 x y v u Q I2 rx ry q (hs _ _))
def rIxL (K : PySem.W.Frag) : R2 := fun x y H Q => ∃ p xs i v, x = .ref p ∧ y = .int i ∧ SqL K H p xs ∧ atI xs i = some v ∧ Q v H
def rIxT (K : PySem.W.Frag) : R2 := fun x y H Q => ∃ p xs i v, x = .ref p ∧ y = .int i ∧ SqT K H p xs ∧ atI xs i = some v ∧ Q v H
theorem ix_list : IxR X (rIxL X.K) := by
  intro value slice pins s σ H x y v u Q I rx ry h hs
  obtain ⟨p, xs, i, z, rfl, rfl, hq, he, q⟩ := h
  cases rx
  obtain ⟨t, rfl⟩ := ry
  obtain ⟨its, r, pl, hz⟩ := I.list hq
  obtain ⟨j, h1, h2, h3, h4, h5⟩ := atI_get he
  obtain ⟨w, ew, rw'⟩ := r.get h2
  have hl := r.length
  have hn := line63
  have fin : EP X pins σ Q w s := ⟨z, H, I, rw', q⟩
  by_cases h0 : 0 ≤ i
  · have hj : i.toNat = j := by
      rw [seqIndex_of h0 h5] at h1
      exact Option.some.inj h1
    exact item_listR pl.isList h0 (by omega) (by rw [hj]; simpa using ew) fin hs
  · have hj : (i + (its.toArray.size : Int)).toNat = j := by
      rw [seqIndex_neg (by omega) h4] at h1
      rw [List.size_toArray, ← hl]
      exact Option.some.inj h1
    exact subscriptTail_builtinR (x := w) pl.isList.typeIs slot_list_getitem.lookup
      (wpAny_getItem_list_neg (Q := fun r s' => r = w ∧ EP X pins σ Q r s') pl.isList (by omega) (by rw [List.size_toArray] <;> omega) (by omega) (by rw [hj]; simpa using ew) ⟨rfl, fin⟩) hs
theorem ix_tup : IxR X (rIxT X.K) := by
  intro value slice pins s σ H x y v u Q I rx ry h hs
  obtain ⟨p, xs, i, z, rfl, rfl, hq, he, q⟩ := h
  cases rx
  obtain ⟨t, rfl⟩ := ry
  obtain ⟨its, r, pl, hz⟩ := I.tuple hq
  obtain ⟨j, h1, h2, h3, h4, h5⟩ := atI_get he
  obtain ⟨w, ew, rw'⟩ := r.get h2
  have hl := r.length
  have hn := line63
  have fin : EP X pins σ Q w s := ⟨z, H, I, rw', q⟩
  exact subscriptTail_builtinR (x := w) pl.typeIs slot_tuple_getitem.lookup
    (getItem_tuple (j := j) (Q := fun r s' => r = w ∧ EP X pins σ Q r s') pl (by omega) (by omega) (by rw [List.size_toArray, ← hl]; exact h1) (by simpa using ew) ⟨rfl, fin⟩) hs
theorem mapSeq_set (its : List Value) (n j : Nat) (u : Value) : Obj.mapSeq (·.setIfInBounds j u) { cls := .type "list", data := .seq its.toArray n } = { cls := .type "list", data := .seq (its.set j u).toArray n } := by
  simp [Obj.mapSeq]
theorem Inv.lst {pins : List (Addr × Obj)} {σ : St} {H : Hp} {s : Shared} {p : Addr} {xs : List V} (I : Inv X pins σ H s) (h : H p = some (.lst xs)) :
    ∃ (its : List Value) (n : Nat), Vals xs its ∧ s.heap.get? p = some { cls := .type "list", data := .seq its.toArray n } ∧ xs.length ≤ sizeLine := by
  obtain ⟨z, its, n, r, e⟩ := I.hok p _ h
  exact ⟨its, n, r, e, z⟩
theorem Inv.lstUpd {pins : List (Addr × Obj)} {σ : St} {H : Hp} {s : Shared} {p : Addr} {xs ys : List V} {its its' : List Value} {n n' : Nat} {f : Obj → Obj} (I : Inv X pins σ H s) (h : H p = some (.lst xs))
    (ho : s.heap.get? p = some { cls := .type "list", data := .seq its.toArray n }) (hf : f { cls := .type "list", data := .seq its.toArray n } = { cls := .type "list", data := .seq its'.toArray n' }) (r : Vals ys its') (hz : ys.length ≤ sizeLine) (t : Nat) :
    Inv X pins σ (upd H p (.lst ys)) { s with heap := s.heap.update p f, toks := t } := by
  have e : (s.heap.update p f).get? p = some { cls := .type "list", data := .seq its'.toArray n' } := by
    rw [Heap.get?_update_self f ho (by rw [hf] <;> rfl), hf]
  refine I.write (x := p) (e := p) (by rw [h]; trivial) (.inl rfl) (fun b u hb q => (Heap.get?_update_other _ _ (Ne.symm hb)).trans q) ⟨_, e⟩ ?_
  exact ⟨hz, its', n', r, e⟩
def rSetL : V → V → V → Hp → (Hp → Prop) → Prop := fun o i v H Q => ∃ p xs k j, o = .ref p ∧ i = .int k ∧ H p = some (.lst xs) ∧ ixN xs.length k = some j ∧ Q (upd H p (.lst (xs.set j v)))
theorem set_list : PSet X rSetL := by
  intro pins s σ H o i v ov iv u Q I ro ri rv h
  obtain ⟨p, xs, k, j, rfl, rfl, hp, hj, q⟩ := h
  cases ro
  obtain ⟨t, rfl⟩ := ri
  obtain ⟨its, n, r, ho, hz⟩ := I.lst hp
  obtain ⟨h1, h2, h3, h4⟩ := ixN_seq hj
  have hl := r.length
  have hn := line63
  have I' : Inv X pins σ (upd H p (.lst (xs.set j v))) { s with heap := s.heap.update p (Obj.mapSeq (·.setIfInBounds j u)) } :=
    I.lstUpd hp ho (mapSeq_set its n j u) (r.set rv j) (by rw [List.length_set]; exact hz) s.toks
  by_cases h0 : 0 ≤ k
  · have hk : k.toNat = j := by
      rw [seqIndex_of h0 h4] at h1
      exact Option.some.inj h1
    exact PySem.W.ki_setAt ho h0 (by omega) (by rw [List.size_toArray, ← hl]; exact h4) (by rw [hk]; exact ⟨_, I', q⟩)
  · have hk : (k + (its.toArray.size : Int)).toNat = j := by
      rw [seqIndex_neg (by omega) h3] at h1
      rw [List.size_toArray, ← hl]
      exact Option.some.inj h1
    exact PySem.W.ki_setBack ho (by omega) (by rw [List.size_toArray, ← hl]; exact h3) (by omega) (by rw [hk]; exact ⟨_, I', q⟩)
theorem slice_bounds (lo hi : Option Int) (n : Nat) : (sliceBounds lo hi none n).1 = ((HT.sIx n 0 lo : Nat) : Int) ∧ (sliceBounds lo hi none n).2.1 = ((HT.sIx n n hi : Nat) : Int) ∧ (sliceBounds lo hi none n).2.2 = 1 := by
  refine ⟨?_, ?_, rfl⟩
  · cases lo with
    | none => simp [sliceBounds, HT.sIx]
    | some i =>
      simp only [sliceBounds, HT.sIx, Option.getD_none, show (1 : Int) > 0 by decide, if_true]
      by_cases h : i < 0
      · simp only [h, if_true] <;> omega
      · simp only [h, if_false] <;> omega
  · cases hi with
    | none => simp [sliceBounds, HT.sIx]
    | some i =>
      simp only [sliceBounds, HT.sIx, Option.getD_none, show (1 : Int) > 0 by decide, if_true]
      by_cases h : i < 0
      · simp only [h, if_true] <;> omega
      · simp only [h, if_false] <;> omega
theorem slicePick_cut (its : List Value) (lo hi : Option Int) : slicePick its.toArray lo hi none = ((its.drop (HT.sIx its.length 0 lo)).take (HT.sIx its.length its.length hi - HT.sIx its.length 0 lo)).toArray := by
  obtain ⟨h1, h2, h3⟩ := slice_bounds lo hi its.toArray.size
  unfold slicePick
  rw [h1, h2, h3]
  simp only [sliceRange_one, pick_run, List.size_toArray] <;> rfl
def rSlL (K : PySem.W.Frag) : V → Option Int → Option Int → Hp → VK → Prop := fun x lo hi H Q => ∃ a xs, x = .ref a ∧ SqL K H a xs ∧ ∀ p, H p = none → Q (.ref p) (upd H p (.lst (cutV xs lo hi)))
theorem sl_list : SlR X (rSlL X.K) := by
  intro pins s σ H x v vl vu lo hi sl Q I rx hs pl pu h
  obtain ⟨a, xs, rfl, hx, q⟩ := h
  cases rx
  obtain ⟨its, r, ht, hz⟩ := I.list hx
  have hlen := r.length
  refine ⟨"list", _, slot_list_getitem.lookup, ht.isList.typeIs, ?_⟩
  refine wpAny_getItem_list_slice ht.isList hs pl pu .none (by simp) ?_ (by rw [List.size_toArray] <;> omega)
  rw [slicePick_cut, ← hlen]
  refine ⟨.ref s.heap.objs.size, _, I.laid (t' := s.toks) (o := .lst (cutV xs lo hi)) (fun b ob q => Heap.get?_push_of_some _ q) (Nat.le_refl _) ?_, rfl, q _ (I.hok.fresh (Nat.le_refl _))⟩
  exact ⟨Nat.le_trans (cutV_length xs lo hi) hz, _, 0, (r.drop (HT.sIx xs.length 0 lo)).take (HT.sIx xs.length xs.length hi - HT.sIx xs.length 0 lo), Heap.get?_push_size _ rfl⟩
theorem call_len_seq : CallR X (.builtin "len") (fun xs H Q => ∃ p ys, xs = [.ref p] ∧ (SqL X.K H p ys ∨ SqT X.K H p ys) ∧ Q (.int ys.length) H) := by
  intro pins s σ H xs us Q I r h
  obtain ⟨p, ys, rfl, hq, q⟩ := h
  obtain ⟨u, rfl, rx⟩ := vals1 r
  cases rx
  have hn := line63
  rcases hq with hq | hq
  · obtain ⟨its, r', pl, hz⟩ := I.list hq
    have hlen := r'.length
    exact Calls.call_len_list pl.isList (by simp only [List.size_toArray] <;> omega) ⟨.int ys.length, H, I.tok _, ⟨s.toks + 1, by rw [List.size_toArray, hlen]⟩, q⟩
  · obtain ⟨its, r', pl, hz⟩ := I.tuple hq
    have hlen := r'.length
    exact len_tuple pl (by simp only [List.size_toArray] <;> omega) ⟨.int ys.length, H, I.tok _, ⟨s.toks + 1, by rw [List.size_toArray, hlen]⟩, q⟩
theorem CallR.or {f : Value} {r r' : List V → Hp → VK → Prop} (h : CallR X f r) (h' : CallR X f r') : CallR X f (fun xs H Q => r xs H Q ∨ r' xs H Q) := by
  intro pins s σ H xs us Q I rs q
  rcases q with q | q
  · exact h pins s σ H xs us Q I rs q
  · exact h' pins s σ H xs us Q I rs q
theorem call_tuple_of : CallR X (.type "tuple") (fun xs H Q => ∃ p ys, xs = [.ref p] ∧ ((SqL X.K H p ys ∧ ∀ l, H l = none → Q (.ref l) (upd H l (.tup ys))) ∨ (SqT X.K H p ys ∧ Q (.ref p) H))) := by
  intro pins s σ H xs us Q I r h
  obtain ⟨p, ys, rfl, h⟩ := h
  obtain ⟨u, rfl, rx⟩ := vals1 r
  cases rx
  rcases h with ⟨hq, q⟩ | ⟨hq, q⟩
  · obtain ⟨its, r', pl, hz⟩ := I.list hq
    have hlen := r'.length
    refine call_tuple_list pl.isList (fun h' kp => ?_) (by simp only [List.size_toArray] <;> omega)
    have I1 : Inv X pins σ H { s with heap := h' } := I.kept (t' := s.toks) kp
    have I2 : Inv X pins σ (upd H h'.objs.size (.tup ys)) { s with heap := h'.push { cls := .type "tuple", data := .seq its.toArray } } :=
      I1.laid (t' := s.toks) (fun b o e => Heap.get?_push_of_some _ e) (Nat.le_refl _) (show ObjOk X.prog X.w _ _ _ (.tup ys) from ⟨hz, its, r', IsTup.new _ _⟩)
    exact ⟨.ref h'.objs.size, _, I2, rfl, q _ (I1.hok.fresh (Nat.le_refl _))⟩
  · obtain ⟨its, r', pl, hz⟩ := I.tuple hq
    exact call_tuple_same pl ⟨.ref p, H, I, rfl, q⟩
def tyV (K : PySem.W.Frag) (T : String) (x : V) (H : Hp) : Prop := match x with
  | .str _ => T = "str"
  | .int _ => T = "int"
  | .ref p => (T = "list" ∧ ∃ xs, SqL K H p xs) ∨ (T = "tuple" ∧ ∃ o, K.lookup p = some o ∧ o.cls = .type "tuple" ∧ o.dict = none) ∨
      (T = "dict" ∧ ((∃ kvs, H p = some (.dK kvs)) ∨ ∃ kvs, H p = some (.dT kvs))) ∨ (T = "set" ∧ ∃ S n, H p = some (.set S n))
  | _ => False
theorem tyV_is {pins : List (Addr × Obj)} {σ : St} {H : Hp} {s : Shared} {T : String} {x : V} {v : Value} (I : Inv X pins σ H s) (r : RelV x v) (ty : tyV X.K T x H) :
    s.TypeIs v T ∧ ∀ a, v = .ref a → ∃ ob, s.heap.get? a = some ob ∧ ob.dict = none := by
  cases x with
  | str z =>
    obtain ⟨t, rfl⟩ := r
    cases (show T = "str" from ty)
    exact ⟨typeIs_str s z t, fun _ e => nomatch e⟩
  | int i =>
    obtain ⟨t, rfl⟩ := r
    cases (show T = "int" from ty)
    exact ⟨typeIs_int s i t, fun _ e => nomatch e⟩
  | ref p =>
    cases r
    rcases ty with ⟨rfl, xs, hq⟩ | ⟨rfl, o, hk, hc, hd⟩ | ⟨rfl, hk⟩ | ⟨rfl, S, n, hk⟩
    · obtain ⟨its, _, pl, _⟩ := I.list hq
      refine ⟨pl.isList.typeIs, fun a e => ?_⟩
      cases e
      obtain ⟨o, n, e, c, hd, _⟩ := pl
      exact ⟨o, e, hd⟩
    · refine ⟨⟨o, I.kIn p o hk, hc⟩, fun a e => ?_⟩
      cases e
      exact ⟨o, I.kIn _ o hk, hd⟩
    · have z : ∃ o, s.heap.get? p = some o ∧ o.ExactDict := by
        rcases hk with ⟨kvs, hk⟩ | ⟨kvs, hk⟩
        · obtain ⟨_, _, _, _, o, _, _, e, ex, _⟩ := I.hok p _ hk
          exact ⟨o, e, ex⟩
        · obtain ⟨_, _, _, _, o, _, _, e, ex, _⟩ := I.hok p _ hk
          exact ⟨o, e, ex⟩
      obtain ⟨o, e, ex⟩ := z
      refine ⟨⟨o, e, ex.1⟩, fun a e2 => ?_⟩
      cases e2
      exact ⟨o, e, ex.2.1⟩
    · obtain ⟨o, _, _, _, e, ex, _⟩ := I.hok p _ hk
      refine ⟨⟨o, e, ex.1⟩, fun a e2 => ?_⟩
      cases e2
      exact ⟨o, e, ex.2.1⟩
  | _ => exact False.elim ty
def tBM0 (K : PySem.W.Frag) (T : String) (r : V → List V → Hp → VK → Prop) (to : TE) : TE := fun σ H Q => to σ H fun x H1 => tyV K T x H1 ∧ r x [] H1 Q
def tBM (K : PySem.W.Frag) (T : String) (r : V → List V → Hp → VK → Prop) (to : TE) (t : TA) : TE := fun σ H Q => to σ H fun x H1 => tyV K T x H1 ∧ t σ H1 fun xs H2 => r x xs H2 Q
variable {o e : Expr} {es : List Expr} {to : TE} {t : TA} {name : Str} {apos cpos : Pos} {T id : String} {r : V → List V → Hp → VK → Prop}
theorem pe_bm0 (pa : PlainAttrs T) (slot : Slot T name id) (hty : typeOf (.builtin id) = pure (.type "method_descriptor")) (hm : MtR X id r) (ho : PE X o to)
    (hbase : attributeBase o name X.env (eval o X.env) = eval o X.env := by rfl) (hline : (apos.endLine == cpos.line) = true := by rfl) : PE X (.Call (.Attribute o name apos) [] [] cpos) (tBM0 X.K T r to) := by
  intro pins s σ H Q I h
  refine wpAny_Call_method0_late hbase hline (thn (ho pins s σ H _ I h) fun v s1 ⟨x, H1, I1, r1, ty, q1⟩ => ?_)
  obtain ⟨h1, h2⟩ := tyV_is I1 r1 ty
  exact ⟨T, id, pa, slot, hty, h1, h2, Calls.callWith_builtin rfl (PySem.evalArgs_none (hm pins s1 σ H1 x [] v [] Q I1 r1 .nil q1))⟩
theorem pe_bm (pa : PlainAttrs T) (slot : Slot T name id) (hty : typeOf (.builtin id) = pure (.type "method_descriptor")) (hm : MtR X id r) (ho : PE X o to) (ha : PA X (e :: es) t)
    (hbase : attributeBase o name X.env (eval o X.env) = eval o X.env := by rfl)
    (hfew : ((backTo cpos (starEach (e :: es) X.env)).all (fun x => !x.1) && (backToKw cpos (keywordEach [] X.env)).all (fun x => x.1.isSome)
      && decide ((e :: es).length + ([] : List Keyword).length + (if ([] : List Keyword).isEmpty then 0 else 1) < 30)) = true := by rfl)
    (hline : (apos.endLine == cpos.line) = true := by rfl) (hs : starEach (e :: es) X.env = (false, eval e X.env) :: starEach es X.env := by rfl) (hplain : (backTo cpos (starEach es X.env)).any (·.1) = false := by rfl) :
    PE X (.Call (.Attribute o name apos) (e :: es) [] cpos) (tBM X.K T r to t) := by
  intro pins s σ H Q I h
  refine wpAny_Call_method_late hbase hfew hline rfl (thn (ho pins s σ H _ I h) fun v s1 ⟨x, H1, I1, r1, ty, q1⟩ => ?_)
  obtain ⟨h1, h2⟩ := tyV_is I1 r1 ty
  refine ⟨T, id, pa, slot, hty, h1, h2, ?_⟩
  have hA := ha cpos pins s1 σ H1 _ I1 q1
  rw [hs] at hA ⊢
  refine Calls.callWith_builtin (by show (false || (backTo cpos (starEach es X.env)).any (·.1)) = false; rw [hplain] <;> rfl) (Calls.evalArgs_plain ?_)
  exact thn hA fun us s2 ⟨vs, H2, I2, r2, q2⟩ => hm pins s2 σ H2 x vs v us Q I2 r1 r2 q2
end
end L2
namespace L2
open PySem PySem.Spec PyProof.Rows
def MtM (X : Cx) (id : String) (r : V → List V → Hp → VK → Prop) : Prop :=
  ∀ (pins : List (Addr × Obj)) (s : Shared) (σ : St) (H : Hp) (x : V) (xs : List V) (v : Value) (us : List Value) (Q : VK), Inv X pins σ H s → RelV x v → Vals xs us → r x xs H Q →
    wpAny (model X.prog X.w) X.A (call (.builtin id) (v :: us)) (EP X pins σ Q) X.xe s
theorem Vals.one : ∀ {x : V} {us : List Value}, Vals [x] us → ∃ u, us = [u] ∧ RelV x u
  | _, _, .cons r .nil => ⟨_, rfl, r⟩
theorem Vals.two : ∀ {x y : V} {us : List Value}, Vals [x, y] us → ∃ u v, us = [u, v] ∧ RelV x u ∧ RelV y v
  | _, _, _, .cons r (.cons q .nil) => ⟨_, _, rfl, r, q⟩
theorem Vals.zero : ∀ {us : List Value}, Vals [] us → us = []
  | _, .nil => rfl
theorem Vals.dropLast {xs : List V} {us : List Value} (h : Vals xs us) : Vals xs.dropLast us.dropLast := by
  induction h with
  | nil => exact .nil
  | cons r t ih =>
    cases t with
    | nil => exact .nil
    | cons q t' => exact .cons r ih
theorem Vals.eraseIdx : ∀ {xs : List V} {us : List Value} (i : Nat), Vals xs us → Vals (xs.eraseIdx i) (us.eraseIdx i)
  | _, _, _, .nil => .nil
  | _, _, 0, .cons _ t => t
  | _, _, i + 1, .cons r t => .cons r (Vals.eraseIdx i t)
theorem Vals.reverse {xs : List V} {us : List Value} (h : Vals xs us) : Vals xs.reverse us.reverse := by
  induction h with
  | nil => exact .nil
  | cons r t ih => rw [List.reverse_cons, List.reverse_cons]; exact Vals.append ih (.cons r .nil)
theorem Vals.rep {xs : List V} {us : List Value} (h : Vals xs us) : ∀ k : Nat, Vals (List.replicate k xs).flatten (List.replicate k us).flatten
  | 0 => .nil
  | k + 1 => by
    rw [List.replicate_succ, List.replicate_succ, List.flatten_cons, List.flatten_cons]
    exact Vals.append h (Vals.rep h k)
theorem erase_last {α : Type} (l : List α) : l.eraseIdx (l.length - 1) = l.dropLast := by
  induction l with
  | nil => rfl
  | cons a r ih =>
    cases r with
    | nil => rfl
    | cons b r =>
      have e : (a :: b :: r).length - 1 = ((b :: r).length - 1) + 1 := by
        have h1 : (a :: b :: r).length = r.length + 2 := rfl
        have h2 : (b :: r).length = r.length + 1 := rfl
        omega
      rw [e, List.eraseIdx_cons_succ, ih]
      all_goals rfl
theorem foldl_rep (its : List Value) : ∀ (k : Nat) (acc : List Value),
    List.foldl (fun x1 x2 => x1 ++ x2) acc.toArray (List.replicate k its.toArray) = (acc ++ (List.replicate k its).flatten).toArray
  | 0, acc => by simp
  | k + 1, acc => by
    have e : acc.toArray ++ its.toArray = (acc ++ its).toArray := by simp
    have e2 : (acc ++ its) ++ (List.replicate k its).flatten = acc ++ (List.replicate (k + 1) its).flatten := by
      rw [List.replicate_succ, List.flatten_cons, List.append_assoc]
    rw [← e2, ← foldl_rep its k (acc ++ its), ← e, List.replicate_succ, List.foldl_cons]
section
variable {X : Cx} {pins : List (Addr × Obj)} {σ : St} {H : Hp} {s : Shared} {l b : Addr} {xs ys zs : List V}
theorem Inv.lset {its its' : List Value} {n : Nat} {f : Array Value → Array Value} {t' : Nat} (I : Inv X pins σ H s) (hH : H l = some (.lst xs))
    (e : s.heap.get? l = some { cls := .type "list", data := .seq its.toArray n }) (hf : f its.toArray = its'.toArray) (hv : Vals ys its') (hz : ys.length ≤ sizeLine) :
    Inv X pins σ (upd H l (.lst ys)) { s with heap := s.heap.update l (Obj.mapSeq f), toks := t' } := by
  have q := PySem.IsL.update e f
  rw [hf] at q
  refine I.write (x := l) (e := l) (by rw [hH]; exact trivial) (.inl rfl) (fun b' u hb hu => (Heap.get?_update_other s.heap (Obj.mapSeq f) (Ne.symm hb)).trans hu) ⟨_, q⟩ ?_
  exact ⟨hz, its', _, hv, q⟩
theorem Inv.lnew {its : List Value} {t' : Nat} (I : Inv X pins σ H s) (hv : Vals ys its) (hz : ys.length ≤ sizeLine) :
    Inv X pins σ (upd H s.heap.objs.size (.lst ys)) { s with heap := s.heap.push { cls := .type "list", data := .seq its.toArray }, toks := t' } :=
  I.laid (fun _ _ q => Heap.get?_push_of_some _ q) (Nat.le_refl _) ⟨hz, its, 0, hv, Heap.get?_push_size _ rfl⟩
theorem Inv.fresh (I : Inv X pins σ H s) : H s.heap.objs.size = none := I.hok.fresh (Nat.le_refl _)
theorem Inv.lstM (I : Inv X pins σ H s) (hH : H l = some (.lst xs)) : xs.length ≤ sizeLine ∧ ∃ (its : List Value) (n : Nat), Vals xs its ∧ xs.length = its.length ∧ s.heap.get? l = some { cls := .type "list", data := .seq its.toArray n } := by
  obtain ⟨z, its, n, r, e⟩ := I.hok l _ hH
  exact ⟨z, its, n, r, r.length, e⟩
theorem notLongL {n : Nat} (h : n ≤ sizeLine) : Builtin.List.listTooLong n = false := by
  unfold Builtin.List.listTooLong
  exact decide_eq_false (by omega)
end
section
variable {X : Cx}
def rAppend : V → List V → Hp → VK → Prop := fun x vs H Q => ∃ l xs y, x = .ref l ∧ vs = [y] ∧ H l = some (.lst xs) ∧ xs.length < sizeLine ∧ Q .non (upd H l (.lst (xs ++ [y])))
theorem mt_append : MtM X "list.append" rAppend := by
  intro pins s σ H x vs v us Q I rx rv h
  obtain ⟨l, xs, y, rfl, rfl, hH, hz, q⟩ := h
  cases rx
  obtain ⟨u, rfl, ru⟩ := rv.one
  obtain ⟨z, its, n, r, hl, e⟩ := I.lstM hH
  refine call_meets F.slot_list_append ⟨_, e, rfl⟩ F.entry_list_append (F.args_list_append_2 _ _) (PySem.list_append l its.toArray n u (by rw [List.size_toArray]; omega)) ⟨e, ?_⟩
  refine ⟨.non, _, I.lset (its' := its ++ [u]) hH e (by simp) (r.append (.cons ru .nil)) ?_, rfl, q⟩
  rw [List.length_append, List.length_singleton]
  omega
def rExtend : V → List V → Hp → VK → Prop := fun x vs H Q => ∃ l b xs zs, x = .ref l ∧ vs = [.ref b] ∧ H l = some (.lst xs) ∧ H b = some (.lst zs) ∧ xs.length + zs.length ≤ sizeLine ∧ Q .non (upd H l (.lst (xs ++ zs)))
theorem mt_extend : MtM X "list.extend" rExtend := by
  intro pins s σ H x vs v us Q I rx rv h
  obtain ⟨l, b, xs, zs, rfl, rfl, hH, hB, hz, q⟩ := h
  cases rx
  obtain ⟨u, rfl, ru⟩ := rv.one
  cases ru
  obtain ⟨z, its, n, r, hl, e⟩ := I.lstM hH
  obtain ⟨z2, its2, n2, r2, hl2, e2⟩ := I.lstM hB
  have hsz : its.toArray.size + its2.toArray.size ≤ sizeLine := by rw [List.size_toArray, List.size_toArray]; omega
  have hlong : ¬ (!its.toArray.isEmpty && Builtin.List.listTooLong (its.toArray.size + its2.toArray.size)) = true := by
    rw [notLongL hsz, Bool.and_false]
    exact Bool.false_ne_true
  refine call_meets F.slot_list_extend ⟨_, e, rfl⟩ F.entry_list_extend (F.args_list_extend_2 _ _)
    (AutoSeq1.list_extend_list_list_0 l its.toArray n b its2.toArray n2 hlong (by rw [List.size_toArray]; omega) (by omega)) ⟨e, e2, ?_⟩
  refine ⟨.non, _, I.lset (its' := its ++ its2) hH e (by simp) (r.append r2) ?_, rfl, q⟩
  rw [List.length_append]
  omega
def rPop : V → List V → Hp → VK → Prop := fun x vs H Q => ∃ l xs y, x = .ref l ∧ vs = [] ∧ H l = some (.lst xs) ∧ xs[xs.length - 1]? = some y ∧ Q y (upd H l (.lst xs.dropLast))
theorem mt_pop : MtM X "list.pop" rPop := by
  intro pins s σ H x vs v us Q I rx rv h
  obtain ⟨l, xs, y, rfl, rfl, hH, hy, q⟩ := h
  cases rx
  have hus := rv.zero
  subst hus
  obtain ⟨z, its, n, r, hl, e⟩ := I.lstM hH
  obtain ⟨u, hu, ru⟩ := r.get hy
  have hy' : its.toArray[its.toArray.size - 1]? = some u := by
    show its.toArray[its.length - 1]? = some u
    rw [← Array.getElem?_toList, ← hl]
    exact hu
  refine call_meets F.slot_list_pop ⟨_, e, rfl⟩ F.entry_list_pop (F.args_list_pop_1 _) (MeetsSeq.list_pop_last l its.toArray n u hy' (by rw [List.size_toArray]; omega)) ⟨e, ?_⟩
  refine ⟨y, _, I.lset (its' := its.dropLast) hH e ?_ r.dropLast ?_, ru, q⟩
  · show its.toArray.eraseIdxIfInBounds (its.toArray.size - 1) = its.dropLast.toArray
    rw [List.size_toArray, List.eraseIdxIfInBounds_toArray, erase_last]
  · rw [List.length_dropLast]
    omega
def rRep : R2 := fun x y H Q => ∃ l k xs, x = .ref l ∧ y = .int k ∧ H l = some (.lst xs) ∧ -(2 ^ 63) ≤ k ∧ k < 2 ^ 63 ∧ xs.length * k.toNat ≤ sizeLine ∧
  ∀ p, H p = none → Q (.ref p) (upd H p (.lst (List.replicate k.toNat xs).flatten))
theorem len_rep {α : Type} (xs : List α) (k : Nat) : (List.replicate k xs).flatten.length = k * xs.length := by
  induction k with
  | zero => simp
  | succ k ih => rw [List.replicate_succ, List.flatten_cons, List.length_append, ih, Nat.succ_mul, Nat.add_comm]
theorem op_rep : OpR X (binaryOp .Mult) rRep := by
  intro pins s σ H x y v u Q I rx ry h
  obtain ⟨l, k, xs, rfl, rfl, hH, h1, h2, hz, q⟩ := h
  cases rx
  obtain ⟨t, rfl⟩ := ry
  obtain ⟨z, its, n, r, hl, e⟩ := I.lstM hH
  have hlen : its.toArray.size * k.toNat ≤ sizeLine := by rw [List.size_toArray, ← hl]; exact hz
  have hcap : ¬ its.toArray.size * k.toNat > (2 ^ 63 - 1) / 8 := by
    have : (sizeLine : Nat) ≤ (2 ^ 63 - 1) / 8 := by decide
    omega
  have hfit : ¬ (!Builtin.List.listFitsIndex k) = true := by
    rw [fitsIndex_both h1 h2]
    exact Bool.false_ne_true
  have hlong : ¬ Builtin.List.listTooLong (its.toArray.size * k.toNat) = true := by
    rw [notLongL hlen]
    exact Bool.false_ne_true
  have hnew : List.foldl (fun x1 x2 => x1 ++ x2) #[] (List.replicate (if its.toArray.isEmpty = true then 0 else k.toNat) its.toArray) = (List.replicate k.toNat its).flatten.toArray := by
    have f0 : ∀ m : Nat, List.foldl (fun x1 x2 => x1 ++ x2) #[] (List.replicate m its.toArray) = (List.replicate m its).flatten.toArray := fun m => by
      have := foldl_rep its m []
      rw [List.nil_append] at this
      exact this
    rw [f0]
    cases its with
    | nil => simp
    | cons a r' => rw [if_neg (by simp)]
  refine wpAny_binaryOp_repeat_ref (T := "list") (U := "int") (by decide) ⟨_, e, rfl⟩ (fun s' => typeIs_int s' k t) noFill_list_mul F.fills_int_mul F.slot_int_rmul repeat_list F.slot_int_index.lookup
    (call_meets F.slot_int_rmul (typeIs_int s k t) F.entry_int_rmul (F.args_int_rmul_2 _ _) (int___rmul___int_list k t l its.toArray n)
      ⟨e, rfl, ⟨_, e, rfl⟩, call_meets F.slot_list_mul ⟨_, e, rfl⟩ F.entry_list_mul (F.args_list_mul_2 _ _) (AutoListH.list___mul___list_int_3 l its.toArray n k t hfit hcap hlong) ⟨e, ?_⟩⟩)
  rw [hnew]
  exact ⟨.ref _, _, I.lnew (t' := s.toks) (r.rep k.toNat) (by rw [len_rep, Nat.mul_comm]; exact hz), rfl, q _ I.fresh⟩
end
section
variable {prog : Program} {w : World} {A : Around} {E : Value → Shared → Prop} {s : Shared}
end
section
variable {X : Cx}
end
end L2
namespace L2
open PySem PySem.Spec PyProof.Rows
theorem Vals.ints : ∀ {ns : List Int} {us : List Value}, Vals (ns.map V.int) us → IntsAre us ns
  | [], us, h => by
    rw [List.map_nil] at h
    cases h
    exact IntsAre.nil
  | n :: ns, us, h => by
    rw [List.map_cons] at h
    cases h with
    | cons r t =>
      obtain ⟨k, rfl⟩ := r
      exact IntsAre.cons n k (Vals.ints t)
theorem Vals.strs : ∀ {xs : List Str} {us : List Value}, Vals (xs.map V.str) us → StrsAre us xs
  | [], us, h => by
    rw [List.map_nil] at h
    cases h
    exact StrsAre.nil
  | x :: xs, us, h => by
    rw [List.map_cons] at h
    cases h with
    | cons r t =>
      obtain ⟨k, rfl⟩ := r
      exact StrsAre.cons x k (Vals.strs t)
theorem Vals.ref1 {a : Addr} {us : List Value} (r : Vals [V.ref a] us) : us = [Value.ref a] := by
  cases r with
  | cons r t =>
    cases t
    cases r
    rfl
section
variable {prog : Program} {w : World} {A : Around} {E : Value → Shared → Prop} {s : Shared} {l : Addr} {its : List Value} {ns : List Int} {Q : Value → Shared → Prop}
theorem sum_raw (hh : A.handled = none) (hl : s.heap.IsList l its.toArray) (hi : IntsAre its ns)
    (h : ∀ h' tk t', (∀ b o, s.heap.get? b = some o → h'.get? b = some o) → Q (.int ns.sum t') { s with heap := h', toks := tk }) : wpAny (model prog w) A (call (.builtin "sum") [.ref l]) Q E s := by
  obtain ⟨xs, e⟩ := hi.allInts.items
  have hn : numsOf (intItems xs).toList = ns := by rw [← e]; exact hi.numsOf
  rw [nums_intItems] at hn
  rw [e] at hl
  refine PySem.sum_intListG hh hl fun h' tk t' hk => ?_
  have := h h' tk t' hk
  rw [preSum_eq, List.take_of_length_le (by simp), hn]; exact this
end
section
variable {X : Cx}
def rSum (K : PySem.W.Frag) : List V → Hp → VK → Prop := fun vs H Q => ∃ (a : Addr) (ns : List Int), vs = [V.ref a] ∧ SqL K H a (ns.map V.int) ∧ Q (.int ns.sum) H
theorem cr_sum (hc : X.calm = true) : CallR X (.builtin "sum") (rSum X.K) := by
  intro pins s σ H vs us Q I r h
  obtain ⟨a, ns, rfl, hs, q⟩ := h
  obtain ⟨its, rv, hl, _⟩ := I.list hs
  rw [Vals.ref1 r]
  exact sum_raw (I.ok.hd hc) hl.isList rv.ints fun h' tk t' hk => ⟨.int _, H, I.kept hk, ⟨_, rfl⟩, q⟩
end
section
variable {X : Cx}
end
section
variable {X : Cx}
end
section
variable {X : Cx}
end
mutual
inductive Dp (K : PySem.W.Frag) (H : Hp) : V → PyData → Prop
  | non : Dp K H .non .none
  | bl (b : Bool) : Dp K H (.bl b) (.bool b)
  | int (i : Int) : Dp K H (.int i) (.int i)
  | str (x : Str) : Dp K H (.str x) (.str x)
  | lst {a : Addr} {xs : List V} {ds : List PyData} : SqL K H a xs → DpAll K H xs ds → Dp K H (.ref a) (.list ds)
  | tup {a : Addr} {xs : List V} {ds : List PyData} : SqT K H a xs → DpAll K H xs ds → Dp K H (.ref a) (.tuple ds)
inductive DpAll (K : PySem.W.Frag) (H : Hp) : List V → List PyData → Prop
  | nil : DpAll K H [] []
  | cons {v : V} {vs : List V} {d : PyData} {ds : List PyData} : Dp K H v d → DpAll K H vs ds → DpAll K H (v :: vs) (d :: ds)
end
section
variable {X : Cx} {pins : List (Addr × Obj)} {σ : St} {H : Hp} {s : Shared}
mutual
theorem Dp.reads (I : Inv X pins σ H s) : ∀ (d : PyData) (v : V) (u : Value), Dp X.K H v d → RelV v u → ∃ as, Reads s.heap u d as
  | .none, _, _, h, r => by
    cases h
    cases r
    exact ⟨_, Reads.none⟩
  | .bool b, _, _, h, r => by
    cases h
    cases r
    exact ⟨_, Reads.bool b⟩
  | .int i, _, _, h, r => by
    cases h
    obtain ⟨t, rfl⟩ := r
    exact ⟨_, Reads.int i t⟩
  | .str x, _, _, h, r => by
    cases h
    obtain ⟨t, rfl⟩ := r
    exact ⟨_, Reads.str x t⟩
  | .list ds, _, _, h, r => by
    cases h with
    | lst hs ha =>
      cases r
      obtain ⟨its, rv, ⟨o, n, ho, hc, _, hd⟩, _⟩ := I.list hs
      obtain ⟨as, hr⟩ := Dp.readsAll I ds _ its ha rv
      exact ⟨_, Reads.list ho hc hd hr⟩
  | .tuple ds, _, _, h, r => by
    cases h with
    | tup hs ha =>
      cases r
      obtain ⟨its, rv, ⟨o, ho, hc, n, hd⟩, _⟩ := I.tuple hs
      obtain ⟨as, hr⟩ := Dp.readsAll I ds _ its ha rv
      exact ⟨_, Reads.tuple ho hc hd hr⟩
  | .dict _, _, _, h, _ => by cases h
theorem Dp.readsAll (I : Inv X pins σ H s) : ∀ (ds : List PyData) (vs : List V) (us : List Value), DpAll X.K H vs ds → Vals vs us → ∃ as, ReadsAll s.heap us ds as
  | [], _, _, h, r => by
    cases h
    cases r
    exact ⟨_, ReadsAll.nil⟩
  | d :: ds, _, _, h, r => by
    cases h with
    | cons h1 h2 =>
      cases r with
      | cons r1 r2 =>
        obtain ⟨as, q1⟩ := Dp.reads I d _ _ h1 r1
        obtain ⟨bs, q2⟩ := Dp.readsAll I ds _ _ h2 r2
        exact ⟨_, ReadsAll.cons q1 q2⟩
end
end
section
variable {X : Cx}
def rEqD (K : PySem.W.Frag) : R2 := fun x y H Q => ∃ d e, Dp K H x d ∧ Dp K H y e ∧ SeqAt.shaped d = true ∧ SeqAt.shaped e = true ∧ Q (.bl (PyData.eqv d e)) H
def rNeD (K : PySem.W.Frag) : R2 := fun x y H Q => ∃ d e, Dp K H x d ∧ Dp K H y e ∧ SeqAt.shaped d = true ∧ SeqAt.shaped e = true ∧ Q (.bl (!PyData.eqv d e)) H
theorem op_eqD (hu : X.A.units + 64 < cLine) : OpR X (compareOp .Eq) (rEqD X.K) := by
  intro pins s σ H x y v u Q I rx ry h
  obtain ⟨d, e, hd, he, sd, se, q⟩ := h
  obtain ⟨as, r1⟩ := Dp.reads I d x v hd rx
  obtain ⟨bs, r2⟩ := Dp.reads I e y u he ry
  exact SeqAt.compareEq_shaped r1 r2 sd se hu ⟨.bl _, H, I, rfl, q⟩
theorem op_neD (hu : X.A.units + 64 < cLine) : OpR X (compareOp .NotEq) (rNeD X.K) := by
  intro pins s σ H x y v u Q I rx ry h
  obtain ⟨d, e, hd, he, sd, se, q⟩ := h
  obtain ⟨as, r1⟩ := Dp.reads I d x v hd rx
  obtain ⟨bs, r2⟩ := Dp.reads I e y u he ry
  exact SeqAt.compareNe_shaped r1 r2 sd se hu ⟨.bl _, H, I, rfl, q⟩
end
end L2
namespace L2
open PySem PySem.Spec PyProof.Rows
abbrev CellAt (h : Heap) (c : Addr) (v : Option Value) : Prop := h.IsCell c v
def relS (scope sc : Scope) : Scope :=
  { scope with names := scope.names.map fun (n, k) => if (k == .free && sc.kind == .function && sc.names.lookup n == some .cell) then (n, .cell) else (n, k) }
def cloFrom (cells : List (Str × Addr)) : List (Str × NameKind) → List (Str × Addr) → List (Str × Addr)
  | [], acc => acc
  | (n, k) :: r, acc => if k == .free then cloFrom cells r ((n, (cells.lookup n).getD 0) :: acc) else cloFrom cells r acc
theorem closure_loop (env : Env) (f : Str × NameKind → List (Str × Addr) → Sem (ForInStep (List (Str × Addr))))
    (hf : ∀ n k c, f (n, k) c = if k == .free then (do let a ← cellOf env n; pure (.yield ((n, a) :: c))) else pure (.yield c)) :
    ∀ (names : List (Str × NameKind)) (acc : List (Str × Addr)), (∀ y ∈ names, y.2 = .free → ∃ c, env.cells.lookup y.1 = some c) → forIn names acc f = pure (cloFrom env.cells names acc)
  | [], acc, _ => by rw [List.forIn_nil]; rfl
  | (n, k) :: r, acc, h => by
    rw [List.forIn_cons, hf]
    have ih := fun acc => closure_loop env f hf r acc fun y hy => h y (List.mem_cons_of_mem _ hy)
    unfold cloFrom
    by_cases hk : (k == NameKind.free) = true
    · rw [if_pos hk, if_pos hk]
      obtain ⟨c, hc⟩ := h (n, k) List.mem_cons_self (by simpa using hk)
      have e : cellOf env n = pure c := by unfold cellOf; rw [hc]
      rw [e]
      have e2 : (env.cells.lookup n).getD 0 = c := by rw [hc]; rfl
      rw [e2]
      exact ih _
    · rw [if_neg hk, if_neg hk]
      exact ih _
theorem closure_ok {scope : Scope} {env : Env} (h : ∀ y ∈ scope.names, y.2 = .free → ∃ c, env.cells.lookup y.1 = some c) : closureFor scope env = pure (cloFrom env.cells scope.names []) := by
  simp only [closureFor]
  rw [closure_loop env _ (fun n k c => rfl) scope.names [] h]
  rfl
theorem mem_lookup {α : Type} : ∀ {l : List (Str × α)} {n : Str} {c : α}, (n, c) ∈ l → ∃ c', l.lookup n = some c'
  | (k, v) :: r, n, c, h => by
    rw [List.lookup_cons]
    cases hb : n == k with
    | true => exact ⟨_, rfl⟩
    | false =>
      rcases List.mem_cons.mp h with e | h
      · cases e; simp at hb
      · exact mem_lookup h
theorem cloFrom_mem {cells : List (Str × Addr)} : ∀ {names : List (Str × NameKind)} {acc : List (Str × Addr)} {n : Str} {c : Addr}, (n, c) ∈ cloFrom cells names acc → (n, c) ∈ acc ∨ ((n, .free) ∈ names ∧ c = (cells.lookup n).getD 0)
  | [], _, _, _, h => .inl h
  | (m, k) :: r, acc, n, c, h => by
    unfold cloFrom at h
    split at h
    · rename_i hk
      have hk : k = .free := by simpa using hk
      rcases cloFrom_mem h with h | ⟨h1, h2⟩
      · rcases List.mem_cons.mp h with e | h
        · cases e; exact .inr ⟨hk ▸ List.mem_cons_self, rfl⟩
        · exact .inl h
      · exact .inr ⟨List.mem_cons_of_mem _ h1, h2⟩
    · rcases cloFrom_mem h with h | ⟨h1, h2⟩
      · exact .inl h
      · exact .inr ⟨List.mem_cons_of_mem _ h1, h2⟩
theorem cloFrom_acc {cells : List (Str × Addr)} : ∀ {names : List (Str × NameKind)} {acc : List (Str × Addr)} {p : Str × Addr}, p ∈ acc → p ∈ cloFrom cells names acc
  | [], _, _, h => h
  | (m, k) :: r, acc, p, h => by
    unfold cloFrom
    split
    · exact cloFrom_acc (List.mem_cons_of_mem _ h)
    · exact cloFrom_acc h
theorem cloFrom_has {cells : List (Str × Addr)} : ∀ {names : List (Str × NameKind)} {acc : List (Str × Addr)} {n : Str}, (n, .free) ∈ names → (n, (cells.lookup n).getD 0) ∈ cloFrom cells names acc
  | (m, k) :: r, acc, n, h => by
    unfold cloFrom
    rcases List.mem_cons.mp h with e | h
    · cases e
      exact cloFrom_acc List.mem_cons_self
    · split
      · exact cloFrom_has h
      · exact cloFrom_has h
theorem cells_mem : ∀ {names : List (Str × NameKind)} {h : Heap} {acc : List (Str × Addr)} {x : Str} {c : Addr}, (x, c) ∈ cellsFrom h.objs.size names acc →
    (x, c) ∈ acc ∨ ((x, .cell) ∈ names ∧ h.objs.size ≤ c ∧ CellAt (pushCells h names) c none)
  | [], _, _, _, _, h => .inl h
  | (n, k) :: r, h, acc, x, c, hm => by
    unfold cellsFrom at hm
    unfold pushCells
    split at hm
    · rename_i hk
      rw [if_pos hk]
      have hk : k = .cell := by simpa using hk
      rw [← Heap.size_push h { cls := .type "cell", data := .cell none }] at hm
      rcases cells_mem hm with hm | ⟨h1, h2, h3⟩
      · rcases List.mem_cons.mp hm with e | hm
        · cases e
          exact .inr ⟨hk ▸ List.mem_cons_self, Nat.le_refl _, _, pushCells_keeps r _ _ _ (Heap.get?_push_size _ rfl), rfl⟩
        · exact .inl hm
      · rw [Heap.size_push] at h2
        exact .inr ⟨List.mem_cons_of_mem _ h1, Nat.le_of_succ_le h2, h3⟩
    · rename_i hk
      rw [if_neg hk]
      rcases cells_mem hm with hm | ⟨h1, h2, h3⟩
      · exact .inl hm
      · exact .inr ⟨List.mem_cons_of_mem _ h1, h2, h3⟩
theorem cells_acc : ∀ {names : List (Str × NameKind)} {n : Nat} {acc : List (Str × Addr)} {p : Str × Addr}, p ∈ acc → p ∈ cellsFrom n names acc
  | [], _, _, _, h => h
  | (m, k) :: r, n, acc, p, h => by
    unfold cellsFrom
    split
    · exact cells_acc (List.mem_cons_of_mem _ h)
    · exact cells_acc h
theorem cells_has : ∀ {names : List (Str × NameKind)} {n : Nat} {acc : List (Str × Addr)} {x : Str}, (x, .cell) ∈ names → ∃ c, (x, c) ∈ cellsFrom n names acc
  | (m, k) :: r, n, acc, x, h => by
    unfold cellsFrom
    rcases List.mem_cons.mp h with e | h
    · cases e
      exact ⟨n, cells_acc List.mem_cons_self⟩
    · split
      · exact cells_has h
      · exact cells_has h
theorem cells_inj : ∀ {names : List (Str × NameKind)} {h : Heap} {acc : List (Str × Addr)} {x y : Str} {c : Addr}, (∀ p ∈ acc, p.2 < h.objs.size) → (∀ x y c, (x, c) ∈ acc → (y, c) ∈ acc → x = y) →
    (x, c) ∈ cellsFrom h.objs.size names acc → (y, c) ∈ cellsFrom h.objs.size names acc → x = y
  | [], _, _, _, _, _, _, hi, h1, h2 => hi _ _ _ h1 h2
  | (n, k) :: r, h, acc, x, y, c, hl, hi, h1, h2 => by
    unfold cellsFrom at h1 h2
    split at h1
    · rename_i hk
      rw [if_pos hk] at h2
      rw [← Heap.size_push h { cls := .type "cell", data := .cell none }] at h1 h2
      refine cells_inj (h := h.push _) (fun p hp => ?_) (fun x y c a b => ?_) h1 h2
      · rw [Heap.size_push]
        rcases List.mem_cons.mp hp with rfl | hp
        · exact Nat.lt_succ_self _
        · exact Nat.lt_succ_of_lt (hl p hp)
      · rcases List.mem_cons.mp a with e | a <;> rcases List.mem_cons.mp b with e' | b
        · cases e; cases e'; rfl
        · cases e; exact absurd (hl _ b) (Nat.lt_irrefl _)
        · cases e'; exact absurd (hl _ a) (Nat.lt_irrefl _)
        · exact hi _ _ _ a b
    · rename_i hk
      rw [if_neg hk] at h2
      exact cells_inj hl hi h1 h2
theorem newEnv_comp {M : Model} {A : Around} {E : Value → Shared → Prop} {s : Shared} {scope : Scope} {globals : Addr} {closure : List (Str × Addr)} {qual : Str} {func : Option Addr} {code : Value} {around : Env} {builtins : Addr} {Q : Env → Shared → Prop}
    (h : Q (newEnv scope s.heap.objs.size globals (cellsFrom (s.heap.objs.size + 1) scope.names closure) qual func code (some around) builtins)
      { s with heap := pushCells (s.heap.push { cls := .type "dict", data := .dict #[] }) scope.names }) :
    wpAny M A (newFunctionEnv scope globals closure [] qual func code (some around) builtins) Q E s := by
  simp only [newFunctionEnv, Option.isSome_some, if_true]
  refine wpAny_bind (wpAny_alloc ?_)
  refine wpAny_bind (wpAny_layCells _ (fun n k c => rfl) scope.names closure _ _ ?_)
  rw [show ({ s with heap := s.heap.push { cls := .type "dict", data := .dict #[] } } : Shared).heap.objs.size = s.heap.objs.size + 1 from Heap.size_push ..]
  rw [List.forIn_nil]
  exact wpAny_bind (wpAny_pure (wpAny_pure h))
theorem lookup_relS {sc : Scope} : ∀ {names : List (Str × NameKind)} {x : Str} {k : NameKind},
    (names.map fun (n, k) => if (k == NameKind.free && sc.kind == .function && sc.names.lookup n == some .cell) then (n, NameKind.cell) else (n, k)).lookup x = some k →
    ∃ k', names.lookup x = some k' ∧ (k = k' ∨ (k' = .free ∧ k = .cell))
  | [], _, _, h => by simp at h
  | (n, k₀) :: r, x, k, h => by
    have ih := @lookup_relS sc r x k
    have h' : List.lookup x ((if (k₀ == NameKind.free && sc.kind == .function && sc.names.lookup n == some .cell) = true then (n, NameKind.cell) else (n, k₀)) :: (r.map _)) = some k := h
    cases hx : x == n with
    | true =>
      simp only [List.lookup_cons, hx]
      by_cases hc : (k₀ == NameKind.free && sc.kind == .function && sc.names.lookup n == some .cell) = true
      · rw [if_pos hc] at h'
        simp only [List.lookup_cons, hx] at h'
        cases h'
        simp only [Bool.and_eq_true, beq_iff_eq] at hc
        exact ⟨k₀, rfl, .inr ⟨hc.1.1, rfl⟩⟩
      · rw [if_neg hc] at h'
        simp only [List.lookup_cons, hx] at h'
        cases h'
        exact ⟨_, rfl, .inl rfl⟩
    | false =>
      simp only [List.lookup_cons, hx]
      by_cases hc : (k₀ == NameKind.free && sc.kind == .function && sc.names.lookup n == some .cell) = true
      · rw [if_pos hc] at h'
        simp only [List.lookup_cons, hx] at h'
        exact ih h'
      · rw [if_neg hc] at h'
        simp only [List.lookup_cons, hx] at h'
        exact ih h'
structure BlkOk (N : List Str) (sc scope : Scope) (own : List (Str × Nat)) : Prop where
  kind : scope.kind = .function
  uniq : ∀ y ∈ scope.names, scope.names.lookup y.1 = some y.2
  ix : ∀ p ∈ own, N[p.2]? = some p.1
  free : ∀ y ∈ scope.names, y.2 = .free → sc.names.lookup y.1 = some .cell ∨ sc.names.lookup y.1 = some .free
  own : ∀ y ∈ scope.names, y.2 = .local ∨ y.2 = .cell → y.1 ∈ own.map (·.1) ∨ y.1 ∉ N
def wipe (σ : St) : List Nat → St
  | [] => σ
  | v :: vs => (wipe σ vs).set v none
theorem wipe_length (σ : St) : ∀ vs : List Nat, (wipe σ vs).length = σ.length
  | [] => rfl
  | v :: vs => by unfold wipe; rw [List.length_set, wipe_length σ vs]
theorem wipe_some {σ : St} {i : Nat} {x : V} : ∀ {vs : List Nat}, (wipe σ vs)[i]? = some (some x) → σ[i]? = some (some x) ∧ i ∉ vs
  | [], h => ⟨h, by simp⟩
  | v :: vs, h => by
    unfold wipe at h
    by_cases hi : v = i
    · subst hi
      by_cases hv : v < (wipe σ vs).length
      · rw [List.getElem?_set_self hv] at h; cases h
      · rw [List.getElem?_eq_none (by simpa using hv)] at h; cases h
    · rw [List.getElem?_set_ne hi] at h
      obtain ⟨h1, h2⟩ := wipe_some h
      exact ⟨h1, by simp only [List.mem_cons, not_or]; exact ⟨fun e => hi e.symm, h2⟩⟩
abbrev Cx.blk (X : Cx) (s : Shared) (H : Hp) (scope : Scope) (cenv : Env) (fp : List Addr) : Cx := { X with s_0 := s, H_0 := H, env := cenv, outer := X.stack, ex := fp, fn := fun x => scope.names.lookup x == some .cell, pn := [], xe := fun _ _ => False }
section
variable {X : Cx} {pins : List (Addr × Obj)} {σ : St} {H : Hp} {s : Shared}
theorem block_start {scope : Scope} {own : List (Str × Nat)} {fp : List Addr} (I : Inv X pins σ H s) (ok : BlkOk X.N X.env.scope scope own) (hN : X.N.Nodup) (hfp : ∀ b ∈ fp, FpOk X pins H b ∧ b < s.heap.objs.size) :
    Inv (X.blk s H scope (compEnvC scope (cellsFrom (s.heap.objs.size + 1) scope.names (cloFrom X.env.cells scope.names [])) s.heap.objs.size X.env) fp) [] (wipe σ (own.map (·.2))) H { s with heap := pushCells (s.heap.push { cls := .type "dict", data := .dict #[] }) scope.names } := by
  have hfree : ∀ y ∈ scope.names, y.2 = .free → ∃ c, X.env.cells.lookup y.1 = some c := fun y hy e => by
    rcases ok.free y hy e with k | k
    · exact I.ok.has _ (.inl k)
    · exact I.ok.has _ (.inr k)
  generalize hcenv : compEnvC scope (cellsFrom (s.heap.objs.size + 1) scope.names (cloFrom X.env.cells scope.names [])) s.heap.objs.size X.env = cenv
  have kp : ∀ b o, s.heap.get? b = some o → (pushCells (s.heap.push { cls := .type "dict", data := .dict #[] }) scope.names).get? b = some o := fun b o e => pushCells_keeps _ _ _ _ (Heap.get?_push_of_some _ e)
  have hL : cenv.locals = s.heap.objs.size := by rw [← hcenv]; rfl
  have hcl : cenv.cells = cellsFrom (s.heap.objs.size + 1) scope.names (cloFrom X.env.cells scope.names []) := by rw [← hcenv]; rfl
  have hsc : cenv.scope = relS scope X.env.scope := by rw [← hcenv]; rfl
  rw [← Heap.size_push s.heap { cls := .type "dict", data := .dict #[] }] at hcl
  have cm : ∀ {y c}, (y, c) ∈ cloFrom X.env.cells scope.names [] → X.env.cells.lookup y = some c ∧ c < s.heap.objs.size := fun {y c} hm => by
    rcases cloFrom_mem hm with hm | ⟨h1, rfl⟩
    · cases hm
    · obtain ⟨c, hc⟩ := hfree _ h1 rfl
      rw [hc]
      obtain ⟨w, z⟩ := I.cell _ _ hc
      exact ⟨rfl, z.lt⟩
  have mem : ∀ {y c}, cenv.cells.lookup y = some c → (X.env.cells.lookup y = some c ∧ c < s.heap.objs.size) ∨ (s.heap.objs.size + 1 ≤ c ∧ CellAt (pushCells (s.heap.push { cls := .type "dict", data := .dict #[] }) scope.names) c none) := fun {y c} e => by
    rw [hcl] at e
    rcases cells_mem (PySem.mem_of_lookup e) with hm | ⟨_, h2, h3⟩
    · exact .inl (cm hm)
    · rw [Heap.size_push] at h2; exact .inr ⟨h2, h3⟩
  have look : ∀ {y}, scope.names.lookup y = some .free → ∃ c, cenv.cells.lookup y = some c ∧ X.env.cells.lookup y = some c := fun {y} hl => by
    have hy : (y, NameKind.free) ∈ scope.names := PySem.mem_of_lookup hl
    obtain ⟨c', e'⟩ := mem_lookup (cells_acc (names := scope.names) (n := (s.heap.push { cls := .type "dict", data := .dict #[] }).objs.size) (cloFrom_has (cells := X.env.cells) (acc := []) hy))
    rw [← hcl] at e'
    refine ⟨c', e', ?_⟩
    rw [hcl] at e'
    rcases cells_mem (PySem.mem_of_lookup e') with hm | ⟨h1, _, _⟩
    · exact (cm hm).1
    · have := ok.uniq _ h1
      rw [hl] at this; cases this
  have okB : (X.blk s H scope cenv fp).Ok := by
    refine ⟨I.ok.mod, by show cenv.scope.kind = _; rw [hsc]; exact ok.kind, by show cenv.globals = _; rw [← hcenv]; exact I.ok.glob, by show cenv.builtins = _; rw [← hcenv]; exact I.ok.blt, by show s.heap.objs.size ≤ cenv.locals; rw [hL]; exact Nat.le_refl _,
      fun y z c e1 e2 => ?_, fun y hy => ?_, fun y c z e => ?_, I.ok.hd, I.ok.frames, .inl rfl, fun b hb => ⟨?_, fun y c e z => ?_⟩, I.bs, Nat.le_trans I.ok.bsz I.sz, fun b o e hb => ?_, fun b hb z => ?_, I.stack, I.stkFree⟩
    · have e1 : cenv.cells.lookup y = some c := e1
      have e2 : cenv.cells.lookup z = some c := e2
      rw [hcl] at e1 e2
      refine cells_inj (fun p hp => ?_) (fun y z c a b => I.ok.inj y z c (cm a).1 (cm b).1) (PySem.mem_of_lookup e1) (PySem.mem_of_lookup e2)
      rw [Heap.size_push]
      exact Nat.lt_succ_of_lt (cm (y := p.1) (c := p.2) hp).2
    · show ∃ c, cenv.cells.lookup y = some c
      have key : ∀ k, cenv.kindOf y = some k → (k = .cell ∨ k = .free) → ∃ c, cenv.cells.lookup y = some c := fun k hk hk' => by
        unfold Env.kindOf at hk
        rw [hsc] at hk
        obtain ⟨k', e, r⟩ := lookup_relS hk
        have : k' = .cell ∨ k' = .free := by
          rcases r with rfl | ⟨rfl, _⟩
          · exact hk'
          · exact .inr rfl
        rcases this with rfl | rfl
        · obtain ⟨c, hm⟩ := cells_has (n := (s.heap.push { cls := .type "dict", data := .dict #[] }).objs.size) (acc := cloFrom X.env.cells scope.names []) (PySem.mem_of_lookup e)
          obtain ⟨c', e'⟩ := mem_lookup hm
          exact ⟨c', by rw [hcl]; exact e'⟩
        · obtain ⟨c, h1, _⟩ := look e
          exact ⟨c, h1⟩
      rcases hy with hy | hy
      · exact key _ hy (.inl rfl)
      · exact key _ hy (.inr rfl)
    · have z : (scope.names.lookup y == some NameKind.cell) = true := z
      have z : scope.names.lookup y = some .cell := by simpa using z
      have e : cenv.cells.lookup y = some c := e
      rw [hcl] at e
      rcases cells_mem (PySem.mem_of_lookup e) with hm | ⟨_, h2, _⟩
      · rcases cloFrom_mem hm with hm | ⟨h1, _⟩
        · cases hm
        · have q := ok.uniq _ h1
          rw [z] at q; cases q
      · rw [Heap.size_push] at h2
        exact Nat.le_of_succ_le h2
    · show b ≠ cenv.locals
      rw [hL]; exact Nat.ne_of_lt (hfp b hb).2
    · have e : cenv.cells.lookup y = some c := e
      rcases mem e with ⟨h1, _⟩ | ⟨h1, _⟩
      · exact (hfp b hb).1.2.2.2.2.1 y c h1 z
      · have h2 : s.heap.objs.size + 1 ≤ b := by rw [← z]; exact h1
        exact absurd (Nat.lt_of_lt_of_le (hfp b hb).2 (Nat.le_of_succ_le h2)) (Nat.lt_irrefl _)
    · rcases (hfp b hb).1.2.2.2.1 with z | z
      · exact I.ok.noex b o e z
      · exact absurd (Nat.lt_of_lt_of_le (Heap.lt_size e) (Nat.le_trans I.ok.bsz z)) (Nat.lt_irrefl _)
    · rcases List.mem_cons.mp (I.stkSub b z) with z | z
      · exact (hfp b hb).1.2.1 z
      · exact (hfp b hb).1.2.2.1 z
  refine ⟨okB, rfl, I.bare, Un.kept kp, ⟨fun _ => none, ?_, fun i y av e1 e2 e3 => ?_⟩, fun y c e => ?_, ?_, fun y c e => ?_, fun p hp => ?_, I.hok.kept kp, by rw [wipe_length]; exact I.len⟩
  · show Heap.Ns _ cenv.locals _
    rw [hL]
    exact Heap.Ns.keeps (Heap.Ns.new ..) fun b o e => pushCells_keeps _ _ _ _ e
  · obtain ⟨e2, hne⟩ := wipe_some e2
    have hfr : scope.names.lookup y = some .free ∧ (cenv.kindOf y = some .cell ∨ cenv.kindOf y = some .free) := by
      have key : ∀ k, cenv.scope.names.lookup y = some k → k = .local ∨ k = .cell ∨ k = .free → scope.names.lookup y = some .free ∧ (cenv.kindOf y = some .cell ∨ cenv.kindOf y = some .free) := fun k hk hk' => by
        have hk0 := hk
        rw [hsc] at hk
        obtain ⟨k', e, r⟩ := lookup_relS hk
        have no : ¬ (k' = .local ∨ k' = .cell) := fun hh => by
          rcases ok.own _ (PySem.mem_of_lookup e) hh with e' | e'
          · obtain ⟨p, hp, hpy⟩ := List.mem_map.mp e'
            have e3 := ok.ix p hp
            have : p.1 = y := hpy
            rw [this] at e3
            exact hne (List.mem_map.mpr ⟨p, hp, nodup_ix hN e3 e1⟩)
          · exact e' (List.mem_of_getElem? e1)
        rcases r with rfl | ⟨rfl, rfl⟩
        · rcases hk' with rfl | rfl | rfl
          · exact absurd (.inl rfl) no
          · exact absurd (.inr rfl) no
          · exact ⟨e, .inr hk0⟩
        · exact ⟨e, .inl hk0⟩
      have e3 : Vis cenv.scope y := e3
      rcases e3 with e3 | e3 | e3
      · exact key _ e3 (.inl rfl)
      · exact key _ e3 (.inr (.inl rfl))
      · exact key _ e3 (.inr (.inr rfl))
    obtain ⟨m, hn, hl⟩ := I.loc
    have hvis : Vis X.env.scope y := (ok.free _ (PySem.mem_of_lookup hfr.1) rfl).elim (fun k => .inr (.inl k)) (fun k => .inr (.inr k))
    obtain ⟨w, r, q⟩ := hl i y av e1 e2 hvis
    refine ⟨w, r, .inr ⟨hfr.2, ?_⟩⟩
    obtain ⟨c, h1, h2⟩ := look hfr.1
    rcases q with ⟨k, _⟩ | ⟨_, c', e', z⟩
    · have k : X.env.scope.names.lookup y = some .local := k
      rcases ok.free _ (PySem.mem_of_lookup hfr.1) rfl with k' | k' <;> rw [show X.env.scope.names.lookup y = _ from k'] at k <;> cases k
    · rw [h2] at e'; cases e'
      exact ⟨c, h1, z.keeps kp⟩
  · have e : cenv.cells.lookup y = some c := e
    rcases mem e with ⟨h1, _⟩ | ⟨_, z⟩
    · obtain ⟨w, z⟩ := I.cell y c h1
      exact ⟨w, z.keeps kp⟩
    · exact ⟨_, z⟩
  · show H cenv.locals = none
    rw [hL]; exact I.hok.fresh (Nat.le_refl _)
  · have e : cenv.cells.lookup y = some c := e
    rcases mem e with ⟨h1, _⟩ | ⟨h1, _⟩
    · exact I.freeC y c h1
    · exact I.hok.fresh (Nat.le_of_succ_le h1)
  · exact absurd (show p ∈ ([] : List (Addr × Obj)) ++ [] from hp) (by simp)
theorem app_ok {E : Value → Shared → Prop} {D : Addr} {xs : List V} {y : V} {v : Value} {Q : Value → Shared → Prop} (I : Inv X pins σ H s) (hD : H D = some (.lst xs)) (hz : xs.length < sizeLine) (r : RelV y v)
    (h : ∀ s', Inv X pins σ (upd H D (.lst (xs ++ [y]))) s' → Q .none s') : wpAny (model X.prog X.w) X.A (call (.builtin "list.append") [.ref D, v]) Q E s := by
  obtain ⟨hz', its, n, ri, e⟩ := I.hok D _ hD
  have hl := ri.length
  refine append_at (hsz := by rw [List.size_toArray]; omega) e fun h' sb ho' => ?_
  refine h { s with heap := h' } (I.write (t' := s.toks) (by rw [hD]; trivial) (.inl rfl) (fun b u hb q => (sb.2 b hb).trans q) ⟨_, ho'⟩ ⟨by rw [List.length_append]; exact hz, its ++ [v], n + 1, ri.append (.cons r .nil), ?_⟩)
  rw [ho']
  simp
def PTs (X : Cx) (ifs : List Expr) (t : TT) : Prop :=
  ∀ (pins : List (Addr × Obj)) (s : Shared) (σ : St) (H : Hp) (Q : Bool → Hp → Prop), Inv X pins σ H s → t σ H Q →
    wpAny (model X.prog X.w) X.A (forIn ifs true fun c r => if r = true then do let ok ← isTrue c X.env (eval c X.env); pure (ForInStep.yield ok) else pure (ForInStep.yield r)) (TP X pins σ Q) X.xe s
def tYes : TT := fun _ H Q => Q true H
theorem pts_nil : PTs X [] tYes := fun _ _ _ H _ I h => wpAny_tests_nil ⟨H, I, h⟩
end
theorem thnF {α : Type} {t : Sem α} {Q Q' : α → Shared → Prop} {M : Model} {A : Around} {E : Value → Shared → Prop} {s : Shared} (h : wpAny M A t Q (fun _ _ => False) s) (hQ : ∀ a s, Q a s → Q' a s) : wpAny M A t Q' E s := wpAny_mono h hQ fun _ _ z => False.elim z
section
variable {X : Cx}
end
def blkC (N : List Str) (sc scope : Scope) (own : List (Str × Nat)) : Bool :=
  (match scope.kind with | .function => true | _ => false) && (scope.names.all fun y => decide (scope.names.lookup y.1 = some y.2)) && (own.all fun p => decide (N[p.2]? = some p.1)) &&
    (scope.names.all fun y => match y.2 with
      | .free => (match sc.names.lookup y.1 with | some .cell => true | some .free => true | _ => false)
      | .local => decide (y.1 ∈ own.map (·.1)) || decide (y.1 ∉ N)
      | .cell => decide (y.1 ∈ own.map (·.1)) || decide (y.1 ∉ N)
      | _ => true)
theorem blkOk_by {N : List Str} {sc scope : Scope} {own : List (Str × Nat)} (h : blkC N sc scope own = true) : BlkOk N sc scope own := by
  unfold blkC at h
  simp only [Bool.and_eq_true, List.all_eq_true, decide_eq_true_eq] at h
  obtain ⟨⟨⟨h1, h2⟩, h3⟩, h4⟩ := h
  refine ⟨?_, h2, h3, fun y hy e => ?_, fun y hy e => ?_⟩
  · split at h1
    · assumption
    · cases h1
  · have q := h4 y hy
    simp only [e] at q
    split at q <;> first | exact .inl (by assumption) | exact .inr (by assumption) | cases q
  · have q := h4 y hy
    rcases e with e | e <;> (simp only [e, Bool.or_eq_true, decide_eq_true_eq] at q; exact q)
end L2
namespace L2
open PySem PySem.Spec PyProof.Rows
theorem compTurn2_out (elt t0 i0 t1 i1 : Expr) (ifs0 ifs1 : List Expr) (scope : Scope) (pos : Pos) (it acc : Value) (env : Env) :
    compTurn (.ListComp elt [⟨t0, i0, ifs0, 0⟩, ⟨t1, i1, ifs1, 0⟩] scope pos) 0 it acc env = (do
      standAt i0.pos
      match ← pyNext it with
      | none => pure (.done .next)
      | some v =>
        letOwnedTupleGo t0 it v
        assign t0 env v
        let mut ok := true
        for c in ifs0 do
          if ok then ok ← isTrue c env (eval c env)
        if ok then
          let x ← eval i1 env
          standAt i1.pos
          let x ← foldedSetIterable i1 env x
          let _ ← runOwn (.compStart (.ListComp elt [⟨t0, i0, ifs0, 0⟩, ⟨t1, i1, ifs1, 0⟩] scope pos) 1 (← holding [x] (pyIter x)) acc env) env
        again (.compLoop (.ListComp elt [⟨t0, i0, ifs0, 0⟩, ⟨t1, i1, ifs1, 0⟩] scope pos) 0 it acc env)) := by rfl
theorem compTurn2_in (elt t0 i0 t1 i1 : Expr) (ifs0 ifs1 : List Expr) (scope : Scope) (pos : Pos) (it acc : Value) (env : Env) :
    compTurn (.ListComp elt [⟨t0, i0, ifs0, 0⟩, ⟨t1, i1, ifs1, 0⟩] scope pos) 1 it acc env = (do
      standAt i1.pos
      match ← pyNext it with
      | none => pure (.done .next)
      | some v =>
        letOwnedTupleGo t1 it v
        assign t1 env v
        let mut ok := true
        for c in ifs1 do
          if ok then ok ← isTrue c env (eval c env)
        if ok then
          (do let _ ← call (.builtin "list.append") [acc, ← eval elt env])
        again (.compLoop (.ListComp elt [⟨t0, i0, ifs0, 0⟩, ⟨t1, i1, ifs1, 0⟩] scope pos) 1 it acc env)) := by rfl
section
variable {prog : Program} {w : World} {A : Around} {R : Result → Shared → Prop} {s : Shared} {elt t0 i0 t1 i1 : Expr} {ifs0 ifs1 : List Expr} {scope : Scope} {pos : Pos} {it acc : Value} {env : Env}
theorem compLoop2_out (hs : ∀ x, foldedSetIterable i1 env x = pure x) (I : Nat → Shared → Prop)
    (turn : ∀ n s, I n s → wpAny (model prog w) A (pyNext it) (fun r s₁ => match r with
      | none => R (.ok .next) s₁
      | some v => wpAny (model prog w) A (letOwnedTupleGo t0 it v) (fun _ s₁' => wpAny (model prog w) A (assign t0 env v) (fun _ s₂ =>
          wpAny (model prog w) A (forIn ifs0 true fun c r => if r = true then do let ok ← isTrue c env (eval c env); pure (ForInStep.yield ok) else pure (ForInStep.yield r)) (fun ok s₃ =>
            if ok = true then wpAny (model prog w) A (eval i1 env) (fun x s₄ => wpAny (model prog w) A (pyIter x) (fun it1 s₅ =>
              codeAny (model prog w) A (.compStart (.ListComp elt [⟨t0, i0, ifs0, 0⟩, ⟨t1, i1, ifs1, 0⟩] scope pos) 1 it1 acc env) (fun r s' => match r with
                | .ok _ => ∃ m, m < n ∧ I m s'
                | .error _ => False) s₅) (notedBy (model prog w) A env fun e s' => R (.error e) s') s₄) (notedBy (model prog w) A env fun e s' => R (.error e) s') s₃
            else ∃ m, m < n ∧ I m s₃) (notedBy (model prog w) A env fun e s' => R (.error e) s') s₂) (notedBy (model prog w) A env fun e s' => R (.error e) s') s₁') (notedBy (model prog w) A env fun e s' => R (.error e) s') s₁) (notedBy (model prog w) A env fun e s' => R (.error e) s') s)
    (n : Nat) (h : I n s) :
    codeAny (model prog w) A (.compLoop (.ListComp elt [⟨t0, i0, ifs0, 0⟩, ⟨t1, i1, ifs1, 0⟩] scope pos) 0 it acc env) R s := by
  refine codeAny_loop rfl I (fun n s hI => ?_) n h
  show wpAny _ A ((compTurn (.ListComp elt [⟨t0, i0, ifs0, 0⟩, ⟨t1, i1, ifs1, 0⟩] scope pos) 0 it acc env).onRaise (fun x => do noteFrame x env; theTreesLotGoes x)) _ _ s
  refine wpAny_noted ?_
  rw [compTurn2_out]
  refine wpAny_bind (wpAny_standAt (wpAny_bind (wpAny_mono (turn n s hI) (fun r s₁ h₁ => ?_) fun _ _ h' => h')))
  cases r with
  | none => exact wpAny_pure h₁
  | some v =>
    refine wpAny_bind (wpAny_mono h₁ (fun _ s₁' h₁' => ?_) fun _ _ h' => h')
    refine wpAny_bind (wpAny_mono h₁' (fun _ s₂ h₂ => wpAny_bind (wpAny_mono h₂ (fun ok s₃ h₃ => ?_) fun _ _ h' => h')) fun _ _ h' => h')
    cases ok with
    | false => exact wpAny_pure ⟨rfl, h₃⟩
    | true =>
      refine wpAny_bind (wpAny_mono h₃ (fun x s₄ h₄ => ?_) fun _ _ h' => h')
      refine wpAny_bind (wpAny_standAt (wpAny_bind (wpAny_of_eq (hs x) (wpAny_bind (wpAny_holding (wpAny_mono h₄ (fun it1 s₅ h₅ => ?_) fun _ _ h' => h'))))))
      refine wpAny_bind (wpAny_runOwn ?_)
      rw [Around.mark_none]
      refine codeAny_mono h₅ fun r s' hr => ?_
      cases r with
      | ok f =>
        first
          | exact wpAny_pure ⟨rfl, hr⟩
          | exact wpAny_bind (wpAny_pure (wpAny_pure ⟨rfl, hr⟩))
      | error e => exact hr.elim
theorem compLoop2_in (I : Nat → Shared → Prop)
    (turn : ∀ n s, I n s → wpAny (model prog w) A (pyNext it) (fun r s₁ => match r with
      | none => R (.ok .next) s₁
      | some v => wpAny (model prog w) A (letOwnedTupleGo t1 it v) (fun _ s₁' => wpAny (model prog w) A (assign t1 env v) (fun _ s₂ =>
          wpAny (model prog w) A (forIn ifs1 true fun c r => if r = true then do let ok ← isTrue c env (eval c env); pure (ForInStep.yield ok) else pure (ForInStep.yield r)) (fun ok s₃ =>
            if ok = true then wpAny (model prog w) A (eval elt env) (fun x s₄ =>
              wpAny (model prog w) A (call (.builtin "list.append") [acc, x]) (fun _ s₅ => ∃ m, m < n ∧ I m s₅) (notedBy (model prog w) A env fun e s' => R (.error e) s') s₄) (notedBy (model prog w) A env fun e s' => R (.error e) s') s₃
            else ∃ m, m < n ∧ I m s₃) (notedBy (model prog w) A env fun e s' => R (.error e) s') s₂) (notedBy (model prog w) A env fun e s' => R (.error e) s') s₁') (notedBy (model prog w) A env fun e s' => R (.error e) s') s₁) (notedBy (model prog w) A env fun e s' => R (.error e) s') s)
    (n : Nat) (h : I n s) :
    codeAny (model prog w) A (.compLoop (.ListComp elt [⟨t0, i0, ifs0, 0⟩, ⟨t1, i1, ifs1, 0⟩] scope pos) 1 it acc env) R s := by
  refine codeAny_loop rfl I (fun n s hI => ?_) n h
  show wpAny _ A ((compTurn (.ListComp elt [⟨t0, i0, ifs0, 0⟩, ⟨t1, i1, ifs1, 0⟩] scope pos) 1 it acc env).onRaise (fun x => do noteFrame x env; theTreesLotGoes x)) _ _ s
  refine wpAny_noted ?_
  rw [compTurn2_in]
  refine wpAny_bind (wpAny_standAt (wpAny_bind (wpAny_mono (turn n s hI) (fun r s₁ h₁ => ?_) fun _ _ h' => h')))
  cases r with
  | none => exact wpAny_pure h₁
  | some v =>
    refine wpAny_bind (wpAny_mono h₁ (fun _ s₁' h₁' => ?_) fun _ _ h' => h')
    refine wpAny_bind (wpAny_mono h₁' (fun _ s₂ h₂ => wpAny_bind (wpAny_mono h₂ (fun ok s₃ h₃ => ?_) fun _ _ h' => h')) fun _ _ h' => h')
    cases ok with
    | false => exact wpAny_pure ⟨rfl, h₃⟩
    | true =>
      exact wpAny_bind (wpAny_bind (wpAny_mono h₃ (fun x s₄ h₄ => wpAny_bind (wpAny_mono h₄ (fun _ s₅ h₅ => wpAny_pure (wpAny_pure ⟨rfl, h₅⟩)) fun _ _ h' => h')) fun _ _ h' => h'))
theorem compStart1_ok (h0 : codeAny (model prog w) A (.compLoop (.ListComp elt [⟨t0, i0, ifs0, 0⟩, ⟨t1, i1, ifs1, 0⟩] scope pos) 1 it acc env) R s)
    (h : wpAny (model prog w) A (pyIter it) (fun it' s' => codeAny (model prog w) A (.compLoop (.ListComp elt [⟨t0, i0, ifs0, 0⟩, ⟨t1, i1, ifs1, 0⟩] scope pos) 1 it' acc env) R s')
      (notedBy (model prog w) A env fun x s' => R (.error x) s') s) :
    codeAny (model prog w) A (.compStart (.ListComp elt [⟨t0, i0, ifs0, 0⟩, ⟨t1, i1, ifs1, 0⟩] scope pos) 1 it acc env) R s := by
  refine codeAny_of_tree ?_
  show wpAny _ _ ((compStart (.ListComp elt [⟨t0, i0, ifs0, 0⟩, ⟨t1, i1, ifs1, 0⟩] scope pos) 1 it acc env).onRaise (fun x => do noteFrame x env; standAt theWindowsPlace)) _ _ s
  refine wpAny_notedAt ?_
  unfold compStart
  show wpAny _ _ (ask >>= _) _ _ s
  refine wpAny_bind (wpAny_askSetting (wpAny_ite ?_))
  split
  · first
      | exact wpAny_bind (wpAny_pure (wpAny_pure (And.intro rfl h0)))
      | exact wpAny_pure (And.intro rfl h0)
  · first
      | exact wpAny_bind (wpAny_rule (wpAny_bind (wpAny_standAt (wpAny_bind (wpAny_mono h (fun it' s' h' => wpAny_pure (And.intro rfl h')) fun _ _ x => x)))))
      | (refine wpAny_bind (wpAny_rule ?_); show wpAny _ _ (standAt i1.pos >>= _) _ _ s; exact wpAny_bind (wpAny_standAt (wpAny_bind (wpAny_mono h (fun it' s' h' => wpAny_pure (And.intro rfl h')) fun _ _ x => x))))
end
theorem wipe_out {σ : St} {i : Nat} : ∀ {vs : List Nat}, i ∉ vs → (wipe σ vs)[i]? = σ[i]?
  | [], _ => rfl
  | v :: vs, h => by
    have h1 : v ≠ i := fun e => h (by rw [e]; exact List.mem_cons_self)
    have h2 : i ∉ vs := fun m => h (List.mem_cons_of_mem _ m)
    unfold wipe
    rw [List.getElem?_set_ne h1]
    exact wipe_out h2
section
variable {X : Cx}
def tLc2 (wi : TI) (g : TG) (tt : TT) (wi1 : TI) (g1 : TG) (tt1 : TT) (te : TE) (vs vs1 : List Nat) : TE := fun σ H Q => wi σ H fun J H1 => ∀ D, H1 D = none → ∃ W : Nat → Nat → Hp → Prop, (∃ m, W 0 m (upd H1 D (.lst []))) ∧ ∀ i m H, W i m H →
  (J.stop i H ∧ Q (.ref D) H) ∨ (J.go i H ∧ ∃ Nx : Hp → Prop, (∀ H', Nx H' → ∃ m', m' < m ∧ W (i + 1) m' H') ∧ ∀ x H', J.yld i H x H' → g x (wipe σ vs) H' fun σ2 H2 => wipe σ2 vs = wipe σ vs ∧ tt σ2 H2 fun b H3 =>
    if b = true then wi1 σ2 H3 fun J1 H4 => ∃ W1 : Nat → Nat → Hp → Prop, (∃ m, W1 0 m H4) ∧ ∀ j k H, W1 j k H →
      (J1.stop j H ∧ Nx H) ∨ (J1.go j H ∧ ∃ Nx1 : Hp → Prop, (∀ H', Nx1 H' → ∃ k', k' < k ∧ W1 (j + 1) k' H') ∧ ∀ x H', J1.yld j H x H' → g1 x (wipe σ2 vs1) H' fun σ3 H5 => wipe σ3 vs1 = wipe σ2 vs1 ∧ tt1 σ3 H5 fun b H6 =>
        if b = true then te σ3 H6 fun y H7 => ∃ acc, H7 D = some (.lst acc) ∧ acc.length < sizeLine ∧ Nx1 (upd H7 D (.lst (acc ++ [y]))) else Nx1 H6)
    else Nx H3)
theorem lc2_core {pins : List (Addr × Obj)} {s : Shared} {σ : St} {H : Hp} {Q : VK} {elt tg iter tg1 iter1 : Expr} {ifs ifs1 : List Expr} {scope : Scope} {own : List (Str × Nat)} {vs1 : List Nat} {pos pos' : Pos} {wi wi1 : TI} {g g1 : TG} {tt tt1 : TT} {te : TE} {use : Option (Value → Sem Unit)} {Qf : Value → Shared → Prop}
    (hc : X.calm = true) (hN : X.N.Nodup) (I : Inv X pins σ H s) (hi : PI X tg iter wi) (ok : BlkOk X.N X.env.scope scope own) (hv : ∀ i ∈ vs1, i ∈ own.map (·.2))
    (hg : ∀ (s : Shared) (H : Hp) (C : Addr) (cl : List (Str × Addr)) (fp : List Addr), PG (X.blk s H scope (compEnvC scope cl C X.env) fp) tg g) (ht : ∀ (s : Shared) (H : Hp) (C : Addr) (cl : List (Str × Addr)) (fp : List Addr), PTs (X.blk s H scope (compEnvC scope cl C X.env) fp) ifs tt)
    (he : ∀ (s : Shared) (H : Hp) (C : Addr) (cl : List (Str × Addr)) (fp : List Addr), PE (X.blk s H scope (compEnvC scope cl C X.env) fp) elt te) (hs : ∀ x, foldedSetIterable iter X.env x = pure x)
    (hi1 : ∀ (s : Shared) (H : Hp) (C : Addr) (cl : List (Str × Addr)) (fp : List Addr), PI (X.blk s H scope (compEnvC scope cl C X.env) fp) tg1 iter1 wi1)
    (hg1 : ∀ (s : Shared) (H : Hp) (C : Addr) (cl : List (Str × Addr)) (fp : List Addr), PG (X.blk s H scope (compEnvC scope cl C X.env) fp) tg1 g1)
    (ht1 : ∀ (s : Shared) (H : Hp) (C : Addr) (cl : List (Str × Addr)) (fp : List Addr), PTs (X.blk s H scope (compEnvC scope cl C X.env) fp) ifs1 tt1)
    (hs1 : ∀ env x, foldedSetIterable iter1 env x = pure x)
    (h : tLc2 wi g tt wi1 g1 tt1 te (own.map (·.2)) vs1 σ H Q)
    (hRR : ∀ D C s' m H', Inv X pins σ H' s' → Q (.ref D) H' → s'.heap.Ns C m → FpOk X pins H' C → compPost (model X.prog X.w) X.A X.xe use Qf (.ref D) C (.ok .next) s') :
    wpAny (model X.prog X.w) X.A (comprehension (.ListComp elt [⟨tg, iter, ifs, 0⟩, ⟨tg1, iter1, ifs1, 0⟩] scope pos) scope X.env pos' (newList []) false (eval iter X.env) use) Qf X.xe s := by
  have hfree : ∀ y ∈ scope.names, y.2 = .free → ∃ c, X.env.cells.lookup y.1 = some c := fun y hy e => by
    rcases ok.free y hy e with k | k
    · exact I.ok.has _ (.inl k)
    · exact I.ok.has _ (.inr k)
  refine wpAny_comprehension_free (use := use) rfl hs (closure_ok hfree) ok.kind (fun y hy e => by rw [ok.uniq y hy, e])
    (thn (hi pins s σ H _ I h) fun xv s1 hx => thn hx fun itv s2 h2 => ?_)
  obtain ⟨it, fp, tn, J, H2, e, I2, T, st2, f2, q⟩ := h2
  subst e
  refine wpAny_newObj_type (newEnv_comp ?_) (by show 0 ≤ sizeLine; decide)
  generalize hD : s2.heap.objs.size = D
  have hDn : H2 D = none := I2.hok.fresh (Nat.le_of_eq hD)
  obtain ⟨W, ⟨m0, w0⟩, turn⟩ := q D hDn
  -- the new list
  generalize hs3 : ({ s2 with heap := s2.heap.push { cls := .type "list", data := .seq ([] : List Value).toArray } } : Shared) = s3
  have I3 : Inv X pins σ (upd H2 D (.lst [])) s3 := by
    rw [← hs3]
    refine I2.laid (t' := s2.toks) (fun b o e => Heap.get?_push_of_some _ e) (Nat.le_of_eq hD) ⟨Nat.zero_le _, [], 0, .nil, ?_⟩
    rw [← hD]
    exact Heap.get?_push_size _ rfl
  have h3 : s3.heap = s2.heap.push { cls := .type "list", data := .seq ([] : List Value).toArray } := by rw [← hs3]
  have sz : ∀ b ∈ fp, b < s2.heap.objs.size := fun b hb => by
    obtain ⟨o, e, _⟩ := T.obj _ _ st2 b hb
    exact Heap.lt_size e
  have f3 : ∀ b ∈ fp, FpOk X pins (upd H2 D (.lst [])) b ∧ b < s3.heap.objs.size := fun b hb => by
    have hlt := sz b hb
    refine ⟨⟨?_, (f2 b hb).2⟩, by rw [h3, Heap.size_push]; exact Nat.lt_succ_of_lt hlt⟩
    rw [upd_ne (by rw [← hD]; exact Nat.ne_of_lt hlt)]
    exact (f2 b hb).1
  have st3 : tn 0 s3.heap := T.keep _ _ _ st2 fun b _ o e => by rw [h3]; exact Heap.get?_push_of_some _ e
  have I4 := block_start I3 ok hN f3
  have pg := hg s3 (upd H2 D (.lst [])) s3.heap.objs.size (cellsFrom (s3.heap.objs.size + 1) scope.names (cloFrom X.env.cells scope.names [])) fp
  have pt := ht s3 (upd H2 D (.lst [])) s3.heap.objs.size (cellsFrom (s3.heap.objs.size + 1) scope.names (cloFrom X.env.cells scope.names [])) fp
  have pe := he s3 (upd H2 D (.lst [])) s3.heap.objs.size (cellsFrom (s3.heap.objs.size + 1) scope.names (cloFrom X.env.cells scope.names [])) fp
  have pi1 := hi1 s3 (upd H2 D (.lst [])) s3.heap.objs.size (cellsFrom (s3.heap.objs.size + 1) scope.names (cloFrom X.env.cells scope.names [])) fp
  have pg1 := hg1 s3 (upd H2 D (.lst [])) s3.heap.objs.size (cellsFrom (s3.heap.objs.size + 1) scope.names (cloFrom X.env.cells scope.names [])) fp
  have pt1 := ht1 s3 (upd H2 D (.lst [])) s3.heap.objs.size (cellsFrom (s3.heap.objs.size + 1) scope.names (cloFrom X.env.cells scope.names [])) fp
  show codeAny _ _ (.compStart (.ListComp elt [⟨tg, iter, ifs, 0⟩, ⟨tg1, iter1, ifs1, 0⟩] scope pos) 0 (.ref it) (.ref D) (compEnvC scope (cellsFrom (s3.heap.objs.size + 1) scope.names (cloFrom X.env.cells scope.names [])) s3.heap.objs.size X.env)) (compPost (model X.prog X.w) X.A X.xe use Qf (.ref D) s3.heap.objs.size) { s3 with heap := pushCells (s3.heap.push { cls := .type "dict", data := .dict #[] }) scope.names }
  have nfp : ∀ b ∈ fp, (upd H2 D (.lst [])) b = none := fun b hb => (f3 b hb).1.1
  generalize hce : compEnvC scope (cellsFrom (s3.heap.objs.size + 1) scope.names (cloFrom X.env.cells scope.names [])) s3.heap.objs.size X.env = ce at I4 pg pt pe pi1 pg1 pt1 ⊢
  have cL : ce.locals = s3.heap.objs.size := by subst hce; rfl
  generalize hH3 : upd H2 D (.lst []) = H3 at I3 I4 pg pt pe pi1 pg1 pt1 w0 nfp f3
  generalize hs4 : ({ s3 with heap := pushCells (s3.heap.push { cls := .type "dict", data := .dict #[] }) scope.names } : Shared) = s4 at I4 ⊢
  have st4 : tn 0 s4.heap := T.keep _ _ _ st3 fun b _ o e => by rw [← hs4]; exact pushCells_keeps _ _ _ _ (Heap.get?_push_of_some _ e)
  have stat : ∀ {σ' : St} {H' : Hp} {s' : Shared}, Inv (X.blk s3 H3 scope ce fp) [] σ' H' s' → (∀ b ∈ fp, H' b = none) → ∀ b ∈ fp, FpOk (X.blk s3 H3 scope ce fp) [] H' b := fun {σ' H' s'} I' hn b hb =>
    ⟨hn b hb, (I'.ok.exf b hb).1, I'.ok.exfs b hb, .inl hb, fun x c e => (I'.ok.exf b hb).2 x c e, fun p hp => absurd (show p ∈ ([] : List (Addr × Obj)) ++ [] from hp) (by simp)⟩
  have loop : codeAny (model X.prog X.w) X.A (.compLoop (.ListComp elt [⟨tg, iter, ifs, 0⟩, ⟨tg1, iter1, ifs1, 0⟩] scope pos) 0 (.ref it) (.ref D) ce) (compPost (model X.prog X.w) X.A X.xe use Qf (.ref D) s3.heap.objs.size) s4 := by
    refine compLoop2_out (hs1 ce) (fun n s' => ∃ i H', Inv (X.blk s3 H3 scope ce fp) [] (wipe σ (own.map (·.2))) H' s' ∧ tn i s'.heap ∧ (∀ b ∈ fp, H' b = none) ∧ W i n H') ?_ m0 ⟨0, H3, I4, st4, nfp, w0⟩
    rintro n s5 ⟨i, H5, I5, st5, n5, w5⟩
    rcases turn i n H5 w5 with ⟨stop, qq⟩ | ⟨go, Nx, hNx, step⟩
    · have td := T.done (X.blk s3 H3 scope ce fp) rfl rfl rfl hc i [] s5 _ H5 (fun _ _ => False) I5 (stat I5 n5) st5 stop
      refine thnF td fun r s6 ⟨hr, I6⟩ => ?_
      subst hr
      -- back in the def's context
      have I7 : Inv X pins σ H5 s6 := I3.call' (ch := fp) I6.os I6.base I6.hok I6.bare fun b hb => ⟨(f3 b hb).1.2.2.2.1, (f3 b hb).1.2.1, (f3 b hb).1.2.2.2.2.1, (f3 b hb).1.2.2.2.2.2⟩
      have nC : H5 s3.heap.objs.size = none := by
        have z : H5 ce.locals = none := I6.free
        rw [cL] at z
        exact z
      obtain ⟨m, hn, _⟩ := I6.loc
      have hn : s6.heap.Ns ce.locals m := hn
      rw [cL] at hn
      exact hRR D s3.heap.objs.size s6 m H5 I7 qq hn (I3.fpOk (Nat.le_refl _) nC)
    · have ti := T.item (X.blk s3 H3 scope ce fp) rfl rfl rfl hc i [] s5 _ H5 (fun _ _ => False) I5 (stat I5 n5) st5 go
      refine thnF ti fun r s6 ⟨u, hr, h6⟩ => ?_
      subst hr
      refine thnF h6 fun _ s7 ⟨x, H7, I7, r7, y7, st7, n7⟩ => ?_
      have I7' := I7.pinned (stat I7 n7) (T.obj _ _ st7)
      refine thnF (pg _ s7 _ H7 x u _ I7' r7 (step x H7 y7)) fun _ s8 ⟨σ8, H8, I8, hw8, q8⟩ => ?_
      refine thnF (pt _ s8 σ8 H8 _ I8 q8) fun b s9 ⟨H9, I9, q9⟩ => ?_
      -- the turn's end, from any slots that know what the block knew at its start
      have fin : ∀ {σ9 : St} {s' : Shared} {H' : Hp}, Inv (X.blk s3 H3 scope ce fp) ([] ++ pinsAt fp s7.heap) σ9 H' s' → (wipe σ (own.map (·.2))).length = σ9.length → (∀ (j : Nat) v, (wipe σ (own.map (·.2)))[j]? = some (some v) → σ9[j]? = some (some v)) → Nx H' →
          ∃ m, m < n ∧ ∃ i H', Inv (X.blk s3 H3 scope ce fp) [] (wipe σ (own.map (·.2))) H' s' ∧ tn i s'.heap ∧ (∀ b ∈ fp, H' b = none) ∧ W i m H' := fun {σ9 s' H'} I' hl hk nx => by
        obtain ⟨m', hm, w'⟩ := hNx H' nx
        have pin' : ∀ b ∈ fp, ∀ o, s7.heap.get? b = some o → s'.heap.get? b = some o ∧ H' b = none := fun b hb o e =>
          let z := I'.pin (b, o) (List.mem_append_right _ (List.mem_append_right _ (mem_pinsAt hb e)))
          ⟨z.1, z.2.1⟩
        refine ⟨m', hm, i + 1, H', (I'.unpinned (pins := [])).weak hl hk, T.keep _ _ _ st7 fun b hb o e => (pin' b hb o e).1, fun b hb => ?_, w'⟩
        obtain ⟨o, e, _⟩ := T.obj _ _ st7 b hb
        exact (pin' b hb o e).2
      have hl8 : (wipe σ (own.map (·.2))).length = σ8.length := by rw [← hw8, wipe_length]
      have hk8 : ∀ (j : Nat) v, (wipe σ (own.map (·.2)))[j]? = some (some v) → σ8[j]? = some (some v) := fun j v e => by
        rw [← hw8] at e
        exact (wipe_some e).1
      have hk9 : ∀ (j : Nat) v, (wipe σ (own.map (·.2)))[j]? = some (some v) → (wipe σ8 vs1)[j]? = some (some v) := fun j v e => by
        rw [← hw8] at e
        obtain ⟨e1, e2⟩ := wipe_some e
        rw [wipe_out fun z => e2 (hv j z)]
        exact e1
      cases b with
      | false =>
        simp only [Bool.false_eq_true, if_false] at q9 ⊢
        exact fin I9 hl8 hk8 q9
      | true =>
        simp only [if_true] at q9 ⊢
        refine thnF (pi1 _ s9 σ8 H9 _ I9 q9) fun xv s10 hx => thnF hx fun itv s11 h11 => ?_
        obtain ⟨it1, fp1, tn1, J1, H11, e1, I11, T1, st11, f11, W1, ⟨m1, w1⟩, turn1⟩ := h11
        subst e1
        -- the inner loop
        have stat1 : ∀ {H' : Hp}, (∀ b ∈ fp1, H' b = none) → ∀ b ∈ fp1, FpOk (X.blk s3 H3 scope ce fp) ([] ++ pinsAt fp s7.heap) H' b := fun hn b hb => ⟨hn b hb, (f11 b hb).2⟩
        have loop1 : codeAny (model X.prog X.w) X.A (.compLoop (.ListComp elt [⟨tg, iter, ifs, 0⟩, ⟨tg1, iter1, ifs1, 0⟩] scope pos) 1 (.ref it1) (.ref D) ce)
            (fun r s' => match r with
              | .ok _ => ∃ m, m < n ∧ ∃ i H', Inv (X.blk s3 H3 scope ce fp) [] (wipe σ (own.map (·.2))) H' s' ∧ tn i s'.heap ∧ (∀ b ∈ fp, H' b = none) ∧ W i m H'
              | .error _ => False) s11 := by
          refine compLoop2_in (fun k s' => ∃ j H', Inv (X.blk s3 H3 scope ce fp) ([] ++ pinsAt fp s7.heap) (wipe σ8 vs1) H' s' ∧ tn1 j s'.heap ∧ (∀ b ∈ fp1, H' b = none) ∧ W1 j k H') ?_ m1 ⟨0, H11, I11.weak (wipe_length _ _) (fun j v e => (wipe_some e).1), st11, fun b hb => (f11 b hb).1, w1⟩
          rintro k s12 ⟨j, H12, I12, st12, n12, w12⟩
          rcases turn1 j k H12 w12 with ⟨stop1, nx1⟩ | ⟨go1, Nx1, hNx1, step1⟩
          · refine thnF (T1.done (X.blk s3 H3 scope ce fp) rfl rfl rfl hc j _ s12 (wipe σ8 vs1) H12 (fun _ _ => False) I12 (stat1 n12) st12 stop1) fun r s13 ⟨hr, I13⟩ => ?_
            subst hr
            exact fin I13 (hl8.trans (wipe_length σ8 vs1).symm) hk9 nx1
          · refine thnF (T1.item (X.blk s3 H3 scope ce fp) rfl rfl rfl hc j _ s12 (wipe σ8 vs1) H12 (fun _ _ => False) I12 (stat1 n12) st12 go1) fun r s13 ⟨u1, hr, h13⟩ => ?_
            subst hr
            refine thnF h13 fun _ s14 ⟨x1, H14, I14, r14, y14, st14, n14⟩ => ?_
            have I14' := I14.pinned (stat1 n14) (T1.obj _ _ st14)
            refine thnF (pg1 _ s14 (wipe σ8 vs1) H14 x1 u1 _ I14' r14 (step1 x1 H14 y14)) fun _ s15 ⟨σ15, H15, I15, hw15, q15⟩ => ?_
            refine thnF (pt1 _ s15 σ15 H15 _ I15 q15) fun b1 s16 ⟨H16, I16, q16⟩ => ?_
            have fin1 : ∀ {s' : Shared} {H' : Hp}, Inv (X.blk s3 H3 scope ce fp) (([] ++ pinsAt fp s7.heap) ++ pinsAt fp1 s14.heap) σ15 H' s' → Nx1 H' → ∃ m, m < k ∧ ∃ j H', Inv (X.blk s3 H3 scope ce fp) ([] ++ pinsAt fp s7.heap) (wipe σ8 vs1) H' s' ∧ tn1 j s'.heap ∧ (∀ b ∈ fp1, H' b = none) ∧ W1 j m H' := fun {s' H'} I' nx => by
              obtain ⟨m', hm, w'⟩ := hNx1 H' nx
              have pin' : ∀ b ∈ fp1, ∀ o, s14.heap.get? b = some o → s'.heap.get? b = some o ∧ H' b = none := fun b hb o e =>
                let z := I'.pin (b, o) (List.mem_append_right _ (List.mem_append_right _ (mem_pinsAt hb e)))
                ⟨z.1, z.2.1⟩
              refine ⟨m', hm, j + 1, H', I'.unpinned.weak (by rw [← hw15, wipe_length]) (fun j v e => by rw [← hw15] at e; exact (wipe_some e).1), T1.keep _ _ _ st14 fun b hb o e => (pin' b hb o e).1, fun b hb => ?_, w'⟩
              obtain ⟨o, e, _⟩ := T1.obj _ _ st14 b hb
              exact (pin' b hb o e).2
            cases b1 with
            | false =>
              simp only [Bool.false_eq_true, if_false] at q16 ⊢
              exact fin1 I16 q16
            | true =>
              simp only [if_true] at q16 ⊢
              refine thnF (pe _ s16 σ15 H16 _ I16 q16) fun z s17 ⟨yv, H17, I17, r17, acc, hD17, hz17, nx⟩ => ?_
              exact app_ok (X := X.blk s3 H3 scope ce fp) I17 hD17 hz17 r17 fun s18 I18 => fin1 I18 nx
        exact compStart1_ok loop1 (T1.self X.A 0 _ _ _ st11 loop1)
  exact codeAny_compStart_list loop (T.self X.A 0 _ _ _ st4 loop)
theorem pe_lc2 {elt tg iter tg1 iter1 : Expr} {ifs ifs1 : List Expr} {scope : Scope} {own : List (Str × Nat)} {vs1 : List Nat} {pos : Pos} {wi wi1 : TI} {g g1 : TG} {tt tt1 : TT} {te : TE} (hc : X.calm = true) (hN : X.N.Nodup) (hi : PI X tg iter wi) (ok : BlkOk X.N X.env.scope scope own) (hv : ∀ i ∈ vs1, i ∈ own.map (·.2))
    (hg : ∀ (s : Shared) (H : Hp) (C : Addr) (cl : List (Str × Addr)) (fp : List Addr), PG (X.blk s H scope (compEnvC scope cl C X.env) fp) tg g) (ht : ∀ (s : Shared) (H : Hp) (C : Addr) (cl : List (Str × Addr)) (fp : List Addr), PTs (X.blk s H scope (compEnvC scope cl C X.env) fp) ifs tt)
    (hi1 : ∀ (s : Shared) (H : Hp) (C : Addr) (cl : List (Str × Addr)) (fp : List Addr), PI (X.blk s H scope (compEnvC scope cl C X.env) fp) tg1 iter1 wi1)
    (hg1 : ∀ (s : Shared) (H : Hp) (C : Addr) (cl : List (Str × Addr)) (fp : List Addr), PG (X.blk s H scope (compEnvC scope cl C X.env) fp) tg1 g1) (ht1 : ∀ (s : Shared) (H : Hp) (C : Addr) (cl : List (Str × Addr)) (fp : List Addr), PTs (X.blk s H scope (compEnvC scope cl C X.env) fp) ifs1 tt1)
    (he : ∀ (s : Shared) (H : Hp) (C : Addr) (cl : List (Str × Addr)) (fp : List Addr), PE (X.blk s H scope (compEnvC scope cl C X.env) fp) elt te) (hs : ∀ x, foldedSetIterable iter X.env x = pure x := by intro _; rfl) (hs1 : ∀ env x, foldedSetIterable iter1 env x = pure x := by intro _ _; rfl) :
    PE X (.ListComp elt [⟨tg, iter, ifs, 0⟩, ⟨tg1, iter1, ifs1, 0⟩] scope pos) (tLc2 wi g tt wi1 g1 tt1 te (own.map (·.2)) vs1) := by
  intro pins s σ H Q I h
  rw [eval_ListComp]
  refine lc2_core hc hN I hi ok hv hg ht he hs hi1 hg1 ht1 hs1 h fun D C s' m H' I' q hn f => ⟨m, hn, fun h'' sb => ?_⟩
  obtain ⟨f0, f1, f2, f3, f4, f5⟩ := f
  exact ⟨.ref D, H', I'.turned (t' := s'.toks) (fun b o hb e => (sb.2 b hb).trans e) f0 f1 f3 f4 f5, rfl, q⟩
end
end L2
namespace L2
open PySem PySem.Spec PyProof.Rows
section
variable {κ : Type} [DecidableEq κ]
def valV (kvs : List (κ × V)) (k : κ) : Option V := (kvs.find? fun kv => decide (kv.1 = k)).map (·.2)
def putK (kvs : List (κ × V)) (k : κ) (v : V) : List (κ × V) :=
  if (kvs.any fun kv => decide (kv.1 = k)) = true then kvs.map (fun kv => if kv.1 = k then (kv.1, v) else kv) else kvs ++ [(k, v)]
def dropK (kvs : List (κ × V)) (k : κ) : List (κ × V) := kvs.filter fun kv => decide (kv.1 ≠ k)
theorem valV_pos {p : κ × V} {r : List (κ × V)} {k : κ} (e : p.1 = k) : valV (p :: r) k = some p.2 := by simp [valV, List.find?_cons, e]
theorem valV_neg {p : κ × V} {r : List (κ × V)} {k : κ} (e : ¬ p.1 = k) : valV (p :: r) k = valV r k := by simp [valV, List.find?_cons, e]
theorem valV_any (k : κ) : ∀ kvs : List (κ × V), (kvs.any fun kv => decide (kv.1 = k)) = (valV kvs k).isSome
  | [] => rfl
  | p :: r => by
    rw [List.any_cons]
    by_cases e : p.1 = k
    · simp only [valV_pos e, decide_eq_true e, Bool.true_or, Option.isSome_some]
    · rw [valV_neg e, decide_eq_false e, Bool.false_or]; exact valV_any k r
theorem length_putK (kvs : List (κ × V)) (k : κ) (v : V) : (putK kvs k v).length ≤ kvs.length + 1 := by
  unfold putK
  split
  · rw [List.length_map]; omega
  · rw [List.length_append, List.length_cons, List.length_nil]; omega
theorem RelO.isSome_eq {o : Option V} {u : Option Value} (r : RelO o u) : o.isSome = u.isSome := by
  cases o with
  | none => cases u with
    | none => rfl
    | some _ => exact (show False from r).elim
  | some _ => cases u with
    | none => exact (show False from r).elim
    | some _ => rfl
theorem RelO.getD {o : Option V} {u : Option Value} {d : V} {d' : Value} (r : RelO o u) (rd : RelV d d') : RelV (o.getD d) (u.getD d') := by
  cases o with
  | none => cases u with
    | none => exact rd
    | some _ => exact (show False from r).elim
  | some _ => cases u with
    | none => exact (show False from r).elim
    | some _ => exact r
theorem KV.val {kvs : List (κ × V)} {vs : List (κ × Value)} (r : KV kvs vs) (k : κ) : RelO (valV kvs k) (valueAt vs k) := by
  unfold KV at r
  induction r with
  | nil => exact True.intro
  | @cons p q ps qs h t ih =>
    obtain ⟨h1, h2⟩ := h
    by_cases e : p.1 = k
    · have e' : q.1 = k := h1.symm.trans e
      have b : valueAt (q :: qs) k = some q.2 := by simp [valueAt, List.find?_cons, e']
      rw [valV_pos e, b]; exact h2
    · have e' : ¬ q.1 = k := fun z => e (h1.trans z)
      have b : valueAt (q :: qs) k = valueAt qs k := by simp [valueAt, List.find?_cons, e']
      rw [valV_neg e, b]; exact ih
theorem KV.any {kvs : List (κ × V)} {vs : List (κ × Value)} (r : KV kvs vs) (k : κ) : (kvs.any fun kv => decide (kv.1 = k)) = vs.any fun kv => decide (kv.1 = k) := by
  unfold KV at r
  induction r with
  | nil => rfl
  | cons h t ih => rw [List.any_cons, List.any_cons, ih, h.1]
theorem KV.repl {kvs : List (κ × V)} {vs : List (κ × Value)} (r : KV kvs vs) (k : κ) {y : V} {u : Value} (ry : RelV y u) :
    KV (kvs.map fun kv => if kv.1 = k then (kv.1, y) else kv) (vs.map fun kv => if kv.1 = k then (kv.1, u) else kv) := by
  unfold KV at r ⊢
  induction r with
  | nil => exact .nil
  | @cons p q ps qs h t ih =>
    rw [List.map_cons, List.map_cons]
    refine .cons ?_ ih
    obtain ⟨h1, h2⟩ := h
    by_cases e : p.1 = k
    · rw [if_pos e, if_pos (h1.symm.trans e)]; exact ⟨h1, ry⟩
    · rw [if_neg e, if_neg (fun z => e (h1.trans z))]; exact ⟨h1, h2⟩
theorem KV.put {kvs : List (κ × V)} {vs : List (κ × Value)} (r : KV kvs vs) (k : κ) {y : V} {u : Value} (ry : RelV y u) : KV (putK kvs k y) (stored vs k u) := by
  unfold putK stored
  rw [r.any k]
  by_cases e : (vs.any fun kv => decide (kv.1 = k)) = true
  · rw [if_pos e, if_pos e]; exact r.repl k ry
  · rw [if_neg e, if_neg e]; exact Paired.snoc r ⟨rfl, ry⟩
theorem KV.drop {kvs : List (κ × V)} {vs : List (κ × Value)} (r : KV kvs vs) (k : κ) : KV (dropK kvs k) (without vs k) := by
  unfold KV at r ⊢
  unfold dropK without
  induction r with
  | nil => exact .nil
  | @cons p q ps qs h t ih =>
    obtain ⟨h1, h2⟩ := h
    rw [List.filter_cons, List.filter_cons]
    by_cases e : p.1 = k
    · have a : ¬ decide (p.1 ≠ k) = true := by simp [e]
      have b : ¬ decide (q.1 ≠ k) = true := by simp [h1.symm.trans e]
      rw [if_neg a, if_neg b]; exact ih
    · have e' : ¬ q.1 = k := fun z => e (h1.trans z)
      have a : decide (p.1 ≠ k) = true := by simp [e]
      have b : decide (q.1 ≠ k) = true := by simp [e']
      rw [if_pos a, if_pos b]; exact .cons ⟨h1, h2⟩ ih
theorem KV.keys {kvs : List (κ × V)} {vs : List (κ × Value)} (r : KV kvs vs) : kvs.map (·.1) = vs.map (·.1) := by
  unfold KV at r
  induction r with
  | nil => rfl
  | cons h t ih => rw [List.map_cons, List.map_cons, ih, h.1]
theorem KV.length {kvs : List (κ × V)} {vs : List (κ × Value)} (r : KV kvs vs) : kvs.length = vs.length := Paired.length r
end
theorem kV_is {P : Program} {w : World} {k : Key} {u : Value} (r : RelV (kV k) u) : (mixKind P w).is k u = true := by
  cases k with
  | inl i => obtain ⟨t, e⟩ := (show ∃ t, u = Value.int i t from r); subst e; exact mixKind_int P w i t
  | inr x => obtain ⟨t, e⟩ := (show ∃ t, u = Value.str x t from r); subst e; exact mixKind_str P w x t
theorem items_are {P : Program} {w : World} : ∀ {ks : List Key} {us : List Value}, Vals (ks.map kV) us → ItemsAre (mixKind P w) ks us
  | [], _, r => by rw [List.map_nil] at r; cases r; exact .nil
  | k :: ks, _, r => by
    rw [List.map_cons] at r
    cases r with
    | cons h t => exact .cons (kV_is h) (items_are t)
abbrev KT (H : Hp) : List (List Key × V) → List (List Key × Addr × Value) → Prop := Paired fun p q => p.1 = q.1 ∧ H q.2.1 = some (.tup (p.1.map kV)) ∧ RelV p.2 q.2.2
theorem KT.val {H : Hp} {kvs : List (List Key × V)} {xs : List (List Key × Addr × Value)} (r : KT H kvs xs) (k : List Key) : RelO (valV kvs k) ((atKey xs k).map (·.2)) := by
  induction r with
  | nil => exact True.intro
  | @cons p q ps qs h t ih =>
    obtain ⟨h1, _, h2⟩ := h
    by_cases e : p.1 = k
    · have e' : q.1 = k := h1.symm.trans e
      have b : atKey (q :: qs) k = some q.2 := by simp [atKey, List.find?_cons, e']
      rw [valV_pos e, b]; exact h2
    · have e' : ¬ q.1 = k := fun z => e (h1.trans z)
      have b : atKey (q :: qs) k = atKey qs k := by simp [atKey, List.find?_cons, e']
      rw [valV_neg e, b]; exact ih
theorem KT.repl {H : Hp} {kvs : List (List Key × V)} {xs : List (List Key × Addr × Value)} (r : KT H kvs xs) (k : List Key) {y : V} {u : Value} (ry : RelV y u) :
    KT H (kvs.map fun kv => if kv.1 = k then (kv.1, y) else kv) (xs.map (putAt k u)) := by
  induction r with
  | nil => exact .nil
  | @cons p q ps qs h t ih =>
    rw [List.map_cons, List.map_cons]
    refine .cons ?_ ih
    obtain ⟨h1, h2, h3⟩ := h
    unfold putAt
    by_cases e : p.1 = k
    · rw [if_pos e, if_pos (h1.symm.trans e)]; exact ⟨h1, h2, ry⟩
    · rw [if_neg e, if_neg (fun z => e (h1.trans z))]; exact ⟨h1, h2, h3⟩
theorem KT.put {H : Hp} {kvs : List (List Key × V)} {xs : List (List Key × Addr × Value)} (r : KT H kvs xs) (k : List Key) {b : Addr} {y : V} {u : Value} (hb : H b = some (.tup (k.map kV))) (ry : RelV y u) :
    KT H (putK kvs k y) (storedH xs k b u) := by
  have e : (kvs.any fun kv => decide (kv.1 = k)) = (atKey xs k).isSome := by
    rw [valV_any, (r.val k).isSome_eq, Option.isSome_map]
  unfold putK storedH
  rw [e]
  by_cases q : (atKey xs k).isSome = true
  · rw [if_pos q, if_pos q]; exact r.repl k ry
  · rw [if_neg q, if_neg q]; exact Paired.snoc r ⟨rfl, hb, ry⟩
theorem KT.keeps {H H' : Hp} {kvs : List (List Key × V)} {xs : List (List Key × Addr × Value)} (r : KT H kvs xs) (ht : ∀ b ys, H b = some (.tup ys) → H' b = some (.tup ys)) : KT H' kvs xs :=
  Paired.mapP r fun _ _ z => ⟨z.1, ht _ _ z.2.1, z.2.2⟩
section
variable {P : Program} {w : World} {H : Hp} {h : Heap} {a : Addr}
theorem rd_of {u : HO} (ok : HOk P w H h) (e : Rd H a u) : ObjOk P w H h a u := e.ok ok
theorem dk_rd {kvs : List (Key × V)} (ok : HOk P w H h) (e : Rd H a (.dK kvs)) : kvs.length ≤ sizeLine ∧ (a == sysModules) = false ∧ ∃ vs, KV kvs vs ∧ h.DictOf (mixKind P w) a vs :=
  show ObjOk P w H h a (.dK kvs) from rd_of ok e
theorem dk_of {kvs : List (Key × V)} (ok : HOk P w H h) (e : H a = some (.dK kvs)) : kvs.length ≤ sizeLine ∧ (a == sysModules) = false ∧ ∃ vs, KV kvs vs ∧ h.DictOf (mixKind P w) a vs := dk_rd ok (.inl e)
theorem key_of {ks : List Key} (ok : HOk P w H h) (e : H a = some (.tup (ks.map kV))) : (tupleKind (mixKind P w)).is h ks a := by
  obtain ⟨_, its, r, o, h1, h2, n, h3⟩ := (show ObjOk P w H h a (.tup (ks.map kV)) from ok a _ e)
  exact ⟨o, its.toArray, n, h1, h2, h3, by simpa using items_are r⟩
theorem dt_rd {kvs : List (List Key × V)} (ok : HOk P w H h) (e : Rd H a (.dT kvs)) : kvs.length ≤ sizeLine ∧ (a == sysModules) = false ∧
    ∃ xs, KT H kvs xs ∧ h.DictOfH (tupleKind (mixKind P w)) a xs := by
  obtain ⟨z, y, xs, r, o, es, ep, h1, h2, h3, h4, h5⟩ := (show ObjOk P w H h a (.dT kvs) from rd_of ok e)
  refine ⟨z, y, xs, r, o, es, ep, h1, h2, h3, h4, fun x hx => ?_, h5⟩
  have all : ∀ {l : List (List Key × V)} {m : List (List Key × Addr × Value)}, KT H l m → ∀ x ∈ m, (tupleKind (mixKind P w)).is h x.1 x.2.1 := by
    intro l m q
    induction q with
    | nil => intro x hx; exact nomatch hx
    | @cons p q ps qs hq t ih =>
      intro x hx
      rcases List.mem_cons.mp hx with e | hx
      · subst e
        exact key_of ok (by rw [← hq.1]; exact hq.2.1)
      · exact ih x hx
  exact all r x hx
theorem dt_of {kvs : List (List Key × V)} (ok : HOk P w H h) (e : H a = some (.dT kvs)) : kvs.length ≤ sizeLine ∧ (a == sysModules) = false ∧
    ∃ xs, KT H kvs xs ∧ h.DictOfH (tupleKind (mixKind P w)) a xs := dt_rd ok (.inl e)
end
def DGet (H : Hp) (a : Addr) (y : V) (r : Option V) : Prop :=
  (∃ kvs k, Rd H a (.dK kvs) ∧ y = kV k ∧ r = valV kvs k) ∨ ∃ kvs k b, Rd H a (.dT kvs) ∧ y = .ref b ∧ H b = some (.tup (k.map kV)) ∧ r = valV kvs k
def DPut (H : Hp) (a : Addr) (y v : V) (H' : Hp) : Prop :=
  (∃ kvs k, H a = some (.dK kvs) ∧ y = kV k ∧ kvs.length < sizeLine ∧ H' = upd H a (.dK (putK kvs k v))) ∨
  ∃ kvs k b, H a = some (.dT kvs) ∧ y = .ref b ∧ H b = some (.tup (k.map kV)) ∧ kvs.length < sizeLine ∧ H' = upd H a (.dT (putK kvs k v))
theorem DGet.k {H : Hp} {a : Addr} {kvs : List (Key × V)} {k : Key} (e : H a = some (.dK kvs)) : DGet H a (kV k) (valV kvs k) := .inl ⟨kvs, k, .inl e, rfl, rfl⟩
theorem DGet.t {H : Hp} {a b : Addr} {kvs : List (List Key × V)} {k : List Key} (e : H a = some (.dT kvs)) (eb : H b = some (.tup (k.map kV))) : DGet H a (.ref b) (valV kvs k) := .inr ⟨kvs, k, b, .inl e, rfl, eb, rfl⟩
theorem DPut.k {H : Hp} {a : Addr} {kvs : List (Key × V)} {k : Key} {v : V} (e : H a = some (.dK kvs)) (hl : kvs.length < sizeLine) : DPut H a (kV k) v (upd H a (.dK (putK kvs k v))) := .inl ⟨kvs, k, e, rfl, hl, rfl⟩
theorem DPut.t {H : Hp} {a b : Addr} {kvs : List (List Key × V)} {k : List Key} {v : V} (e : H a = some (.dT kvs)) (eb : H b = some (.tup (k.map kV))) (hl : kvs.length < sizeLine) :
    DPut H a (.ref b) v (upd H a (.dT (putK kvs k v))) := .inr ⟨kvs, k, b, e, rfl, eb, hl, rfl⟩
section
variable {X : Cx} {pins : List (Addr × Obj)} {σ : St} {H : Hp} {s : Shared} {a : Addr} {y v : V} {u r : Value} {o : Option V} {A : Around} {E : Value → Shared → Prop}
theorem d_getItem {Q : Value → Shared → Prop} (hu : A.units + 1 < cLine) (I : Inv X pins σ H s) (g : DGet H a y (some v)) (ry : RelV y u) (h : ∀ w' s', Inv X pins σ H s' → RelV v w' → Q w' s') :
    wpAny (model X.prog X.w) A (getItem (.ref a) u) Q E s := by
  rcases g with ⟨kvs, k, e, ey, l⟩ | ⟨kvs, k, b, e, ey, eb, l⟩
  · subst ey
    obtain ⟨z, hd, vs, rel, dd⟩ := dk_rd I.hok e
    obtain ⟨w', hw, rw'⟩ := RelO.some_of (v := v) (o := valueAt vs k) (by rw [l]; exact rel.val k)
    exact wpAny_getItem_of (kV_is ry) dd.mapOf hw (h w' _ (I.tok _) rw')
  · subst ey
    cases (show u = Value.ref b from ry)
    obtain ⟨z, hd, xs, rel, dd⟩ := dt_rd I.hok e
    obtain ⟨w', hw, rw'⟩ := RelO.some_of (v := v) (o := (atKey xs k).map (·.2)) (by rw [l]; exact rel.val k)
    obtain ⟨p, hp, hp2⟩ := Option.map_eq_some_iff.mp hw
    refine wpAny_getItem_heap (tupleKind_room_in1 hu) (key_of I.hok eb) dd hp ?_
    rw [hp2]
    exact h w' _ (I.tok _) rw'
theorem d_write {h' : Heap} {t' : Nat} {ob : HO} (I : Inv X pins σ H s) (mu : Mut (H a)) (hs : Heap.SameBut a s.heap h') (he : ∃ q, h'.get? a = some q) (new : ObjOk X.prog X.w (upd H a ob) h' a ob) :
    Inv X pins σ (upd H a ob) { s with heap := h', toks := t' } :=
  I.write (x := a) (e := a) mu (.inl rfl) (fun b q hb z => (hs.2 b hb).trans z) he new
theorem dk_new {P : Program} {w : World} {H' : Hp} {h' : Heap} {kvs : List (Key × V)} {vs : List (Key × Value)} (z : kvs.length ≤ sizeLine) (hd : (a == sysModules) = false) (rel : KV kvs vs) (dd : h'.DictOf (mixKind P w) a vs) :
    ObjOk P w H' h' a (.dK kvs) := ⟨z, hd, vs, rel, dd⟩
theorem d_setItem {H' : Hp} {Q : Unit → Shared → Prop} (hu : A.units + 1 < cLine) (I : Inv X pins σ H s) (g : DPut H a y v H') (ry : RelV y u) (rv : RelV v r) (h : ∀ s', Inv X pins σ H' s' → Q () s') :
    wpAny (model X.prog X.w) A (setItem (.ref a) u r) Q E s := by
  rcases g with ⟨kvs, k, e, ey, l, eH⟩ | ⟨kvs, k, b, e, ey, eb, l, eH⟩
  · subst ey eH
    obtain ⟨z, hd, vs, rel, dd⟩ := dk_of I.hok e
    have hz : vs.length ≤ sizeLine := by rw [← rel.length]; exact z
    have hl : (putK kvs k v).length ≤ sizeLine := by have := length_putK kvs k v; omega
    refine wpAny_setItem_pairs (hsz := hz) (kV_is ry) dd fun h' dd' hs => h _ ?_
    have he : ∃ q, h'.get? a = some q := let ⟨q, _, _, hq, _⟩ := dd'; ⟨q, hq⟩
    exact d_write I (by rw [e]; exact True.intro) hs he (dk_new hl hd (rel.put k rv) dd')
  · subst ey eH
    cases (show u = Value.ref b from ry)
    obtain ⟨z, hd, xs, rel, dd⟩ := dt_of I.hok e
    have hz : xs.length ≤ sizeLine := by rw [← Paired.length rel]; exact z
    have hl : (putK kvs k v).length ≤ sizeLine := by have := length_putK kvs k v; omega
    refine wpAny_setItem_heap (hsz := hz) (tupleKind_room_in1 hu) (key_of I.hok eb) dd fun h' dd' hs => h _ ?_
    obtain ⟨q, es, ep, hq, h2, h3, h4, _, h5⟩ := dd'
    refine d_write I (by rw [e]; exact True.intro) hs ⟨q, hq⟩ ⟨hl, hd, _, (rel.put k eb rv).keeps fun c ys ec => ?_, q, es, ep, hq, h2, h3, h4, h5⟩
    rw [upd_ne (ne_of ec e (fun z => nomatch z))]
    exact ec
end
section
variable {X : Cx} {pins : List (Addr × Obj)} {σ : St} {H : Hp} {s : Shared} {a : Addr} {kvs : List (Key × V)} {k : Key} {u : Value} {A : Around} {E : Value → Shared → Prop}
end
def NoSl (i : Expr) : Prop := ∀ ov iv, subscripted i false ov iv = operate [ov, iv] (getItem ov iv)
theorem subD_of {prog : Program} {w : World} {A : Around} {E : Value → Shared → Prop} {s : Shared} {env : Env} {value slice : Expr} {pos : Pos} {T id : String} {Q : Value → Shared → Prop}
    (hl : typeLookup (.type T) "__getitem__" = pure (some (.builtin id))) (hs : NoSl slice)
    (h : wpAny (model prog w) A (eval value env) (fun o s₁ => wpAny (model prog w) A (eval slice env) (fun i s₂ => s₂.TypeIs o T ∧ wpAny (model prog w) A (getItem o i) Q E s₂) E s₁) E s) :
    wpAny (model prog w) A (eval (.Subscript value slice pos) env) Q E s := by
  refine Subscript_ (wpAny_mono h (fun o s₁ h₁ => wpAny_mono h₁ (fun i s₂ h₂ => ?_) fun _ _ x => x) fun _ _ x => x)
  obtain ⟨hT, h₂⟩ := h₂
  unfold subscriptTail
  refine wpAny_bind ?_
  rw [getitemInPython_of_ne hT.not_modules]
  refine wpAny_bind (wpAny_specialOf hT hl ?_)
  have fin : wpAny (model prog w) A (subscripted slice false o i) (fun r s₃ => wpAny (model prog w) A (letTemporaryGo value o r >>= fun _ => pure r) Q E s₃) E s₂ := by
    rw [hs o i]
    exact wpAny_operating (wpAny_mono h₂ (fun r s₃ h₃ => wpAny_bind (wpAny_letTemporaryGo (wpAny_pure h₃))) fun _ _ x => x)
  first
    | exact wpAny_pure (wpAny_bind fin)
    | exact wpAny_bind (wpAny_pure (wpAny_bind fin))
    | exact wpAny_bind fin
theorem dict_typeIs {X : Cx} {pins : List (Addr × Obj)} {σ : St} {H : Hp} {s : Shared} {a : Addr} {y : V} {o : Option V} (I : Inv X pins σ H s) (g : DGet H a y o) : s.TypeIs (.ref a) "dict" := by
  rcases g with ⟨kvs, k, e, _, _⟩ | ⟨kvs, k, b, e, _, _, _⟩
  · obtain ⟨_, _, vs, _, dd⟩ := dk_rd I.hok e
    exact dd.typeIs
  · obtain ⟨_, _, xs, _, dd⟩ := dt_rd I.hok e
    exact dd.typeIs
def tDGet (td ty : TE) : TE := fun σ H Q => td σ H fun x H1 => ty σ H1 fun y H2 => ∃ a v, x = .ref a ∧ DGet H2 a y (some v) ∧ Q v H2
section
variable {X : Cx} {o i e value : Expr} {pos pos' tpos : Pos} {td ty tv : TE}
theorem pe_dget (hu : X.A.units + 1 < cLine) (ho : PE X o td) (hi : PE X i ty) (hs : NoSl i) : PE X (.Subscript o i pos) (tDGet td ty) := by
  intro pins s σ H Q I h
  refine subD_of PySem.F.slot_dict_getitem.lookup hs (thn (ho pins s σ H _ I h) fun u s1 ⟨x, H1, I1, rx, q1⟩ => thn (hi pins s1 σ H1 _ I1 q1) fun iv s2 ⟨y, H2, I2, ry, a, v, ex, g, q2⟩ => ?_)
  subst ex
  obtain rfl : u = Value.ref a := rx
  exact ⟨dict_typeIs I2 g, d_getItem hu I2 g ry fun w' s3 I3 rw' => ⟨v, H2, I3, rw', q2⟩⟩
end
section
variable {X : Cx} {pos : Pos}
end
def tPairs : List (TE × TE) → St → Hp → (List (V × V) → Hp → Prop) → Prop
  | [], _, H, Q => Q [] H
  | (tk, tv) :: r, σ, H, Q => tk σ H fun x H1 => tv σ H1 fun y H2 => tPairs r σ H2 fun ps H3 => Q ((x, y) :: ps) H3
abbrev VV : List (V × V) → List (Value × Value) → Prop := Paired fun p q => RelV p.1 q.1 ∧ RelV p.2 q.2
def PPs (X : Cx) (pos : Pos) (keys : List (Option Expr)) (values : List Expr) (trs : List (TE × TE)) : Prop :=
  ∀ (pins : List (Addr × Obj)) (s : Shared) (σ : St) (H : Hp) (Q : List (V × V) → Hp → Prop), Inv X pins σ H s → tPairs trs σ H Q →
    wpAny (model X.prog X.w) X.A (evalPairs (pairTrees keys values X.env pos)) (fun vs s' => ∃ ps H', Inv X pins σ H' s' ∧ VV ps vs ∧ Q ps H') X.xe s
structure M1 (X : Cx) (o : Expr) (m : Str) (apos : Pos) (e : Expr) (cpos : Pos) : Prop where
  base : attributeBase o m X.env (eval o X.env) = eval o X.env
  few : ((backTo cpos (starEach [e] X.env)).all (fun x => !x.1) && (backToKw cpos (keywordEach [] X.env)).all (fun x => x.1.isSome)
    && decide (([e] : List Expr).length + ([] : List Keyword).length + (if ([] : List Keyword).isEmpty then 0 else 1) < 30)) = true
  line : (apos.endLine == cpos.line) = true
  trees : backTo cpos (starEach [e] X.env) = [(false, eval e X.env)]
structure M2 (X : Cx) (o : Expr) (m : Str) (apos : Pos) (e f : Expr) (cpos : Pos) : Prop where
  base : attributeBase o m X.env (eval o X.env) = eval o X.env
  few : ((backTo cpos (starEach [e, f] X.env)).all (fun x => !x.1) && (backToKw cpos (keywordEach [] X.env)).all (fun x => x.1.isSome)
    && decide (([e, f] : List Expr).length + ([] : List Keyword).length + (if ([] : List Keyword).isEmpty then 0 else 1) < 30)) = true
  line : (apos.endLine == cpos.line) = true
  trees : backTo cpos (starEach [e, f] X.env) = [(false, eval e X.env), (false, eval f X.env)]
section
variable {X : Cx} {pins : List (Addr × Obj)} {σ : St} {H : Hp} {s : Shared} {a : Addr} {y d : V} {u r : Value} {o : Option V} {A : Around} {E : Value → Shared → Prop}
end
section
variable {X : Cx} {o e f : Expr} {apos cpos : Pos} {td ty tx : TE}
end
section
variable {X : Cx} {pins : List (Addr × Obj)} {σ : St} {H : Hp} {s : Shared} {a : Addr} {kvs : List (Key × V)} {A : Around} {E : Value → Shared → Prop}
end
section
variable {X : Cx} {pins : List (Addr × Obj)} {σ : St} {H : Hp} {s : Shared} {a : Addr} {y : V} {u : Value} {A : Around} {E : Value → Shared → Prop}
end
end L2
namespace L2
open PySem PySem.Spec PyProof.Rows
section
variable {prog : Program} {w : World} {A : Around} {E : Value → Shared → Prop}
end
section
variable {X : Cx}
theorem pairs_of {pins : List (Addr × Obj)} {σ : St} {H : Hp} {s : Shared} (I : Inv X pins σ H s) : ∀ {ps : List Addr} {kvs : List (Key × V)}, Paired (fun p kv => SqT X.K H p [kV kv.1, kv.2]) ps kvs →
    ∃ prs : List (Key × Value), KV kvs prs ∧ prs.length = ps.length ∧ ∀ (j : Nat) (q : Key × Value), prs[j]? = some q → ∃ (b : Addr) (u : Value), ps[j]? = some b ∧ IsTup s.heap b #[u, q.2] ∧ keyIs q.1 u = true
  | _, _, .nil => ⟨[], .nil, rfl, fun j q e => by simp at e⟩
  | _, _, .cons (a := p) (b := kv) h t => by
    obtain ⟨prs, r, hl, hp⟩ := pairs_of I t
    obtain ⟨its, rv, ht, _⟩ := I.tuple h
    obtain ⟨u, y, ei, ru, ry⟩ := vals2 rv
    subst ei
    refine ⟨(kv.1, y) :: prs, .cons ⟨rfl, ry⟩ r, by rw [List.length_cons, List.length_cons, hl], fun j q e => ?_⟩
    cases j with
    | zero =>
      have e' : (kv.1, y) = q := Option.some.inj e
      subst e'
      exact ⟨p, u, rfl, ht, kV_is (P := X.prog) (w := X.w) ru⟩
    | succ j =>
      obtain ⟨b, u', e1, e2, e3⟩ := hp j q (by simpa using e)
      exact ⟨b, u', by simpa using e1, e2, e3⟩
end
end L2
namespace L2
open PySem PySem.Spec PyProof.Rows
section
variable {X : Cx} {pins : List (Addr × Obj)} {σ : St} {H : Hp} {s : Shared} {h' : Heap}
end
section
variable {X : Cx}
end
def RgC (i j c : Int) (n : Nat) : Prop := c ≠ 0 ∧ c.natAbs < 1073741824 ∧ Builtin.Range.small i j c = true ∧ Builtin.Range.rangeSize i j c = n
theorem RgC.neg {i j : Int} (ha : -(2 ^ 62) ≤ i) (ha' : i < 2 ^ 62) (hb : -(2 ^ 62) ≤ j) (hb' : j < 2 ^ 62) : RgC i j (-1) (i - j).toNat :=
  ⟨by decide, by decide, PySem.W.small_down ha ha' hb hb', PySem.W.rangeSize_downNat i j⟩
section
variable {X : Cx} {tg : Expr}
end
section
variable {X : Cx} {tg : Expr}
end
section
variable {prog : Program} {w : World} {A : Around} {E : Value → Shared → Prop} {s : Shared}
end
section
variable {X : Cx} {pins : List (Addr × Obj)} {σ : St} {H : Hp} {s : Shared} {d : Addr} {o : Obj}
end
section
variable {P : Program} {w : World} {K : PySem.W.Frag} {tg : Expr} {d : Addr} {o : Obj} {es : Array DictEntry} {ep : Nat}
end
section
variable {X : Cx} {tg e : Expr} {td : TE} {apos cpos : Pos}
end
end L2
section 
namespace Bits
open PySem PyProof.Rows
end Bits
end 
section 
namespace TL
open PySem PySem.Builtin PySem.Builtin.Str PySem.StrLaws
abbrev tl (x : Str) : List Nat := x.cps.toList
theorem len_tl (x : Str) : x.length = (tl x).length := by simp [tl, Str.length]
theorem ext_tl {x y : Str} (h : tl x = tl y) : x = y := Str.ext' (Array.toList_inj.mp h)
theorem tl_append (x y : Str) : tl (x ++ y) = tl x ++ tl y := by
  show (x ++ y).cps.toList = _
  rw [Str.cps_append, Array.toList_append]
theorem mk_tl (x : Str) : (⟨(tl x).toArray⟩ : Str) = x := ext_tl rfl
def pre (S l : List Nat) : Bool := l.take S.length == S
def par (S : List Nat) : List Nat → List Nat → Option (List Nat × List Nat)
  | _, [] => none
  | acc, c :: r => if pre S (c :: r) = true then some (acc, (c :: r).drop S.length) else par S (acc ++ [c]) r
def joinL (S : List Nat) : List (List Nat) → List Nat
  | [] => []
  | [p] => p
  | p :: q :: r => p ++ (S ++ joinL S (q :: r))
theorem tl_join (y : Str) : ∀ parts : List Str, tl (Str.join y parts) = joinL (tl y) (parts.map tl)
  | [] => rfl
  | [_] => rfl
  | x :: z :: r => by
    show tl (x ++ y ++ Str.join y (z :: r)) = tl x ++ (tl y ++ joinL (tl y) ((z :: r).map tl))
    rw [tl_append, tl_append, tl_join y (z :: r), List.append_assoc]
theorem join_eq (y : Str) (parts : List Str) : Txt.join y parts = Str.join y parts := glued_eq_join y parts
def numL (n : Nat) : List Nat := (Nat.toDigits 10 n).map Char.toNat
theorem tl_num (n : Nat) : tl (Str.ofString (toString ((n : Nat) : Int))) = numL n := PySem.W.KIN.signs_num n
theorem digitChar_nat : ∀ d : Nat, d < 10 → (Nat.digitChar d).toNat = 48 + d := by decide
theorem numL_lt {n : Nat} (h : n < 10) : numL n = [48 + n] := by
  unfold numL
  rw [Nat.toDigits_of_lt_base h]
  show [(Nat.digitChar n).toNat] = _
  rw [digitChar_nat n h]
theorem numL_step {n : Nat} (h : 10 ≤ n) : numL n = numL (n / 10) ++ [48 + n % 10] := by
  have hm : n % 10 < 10 := Nat.mod_lt n (by decide)
  have t : Nat.toDigits 10 (n / 10) ++ Nat.toDigits 10 (n % 10) = Nat.toDigits 10 (10 * (n / 10) + n % 10) := Nat.toDigits_append_toDigits (by decide) (by omega) hm
  rw [Nat.div_add_mod] at t
  show (Nat.toDigits 10 n).map Char.toNat = _
  rw [← t, List.map_append, Nat.toDigits_of_lt_base hm]
  show (Nat.toDigits 10 (n / 10)).map Char.toNat ++ [(Nat.digitChar (n % 10)).toNat] = _
  rw [digitChar_nat _ hm] <;> rfl
theorem numL_digits (n : Nat) : NumText.AllDigits (numL n) := by
  induction n using Nat.strongRecOn with
  | _ n ih =>
    by_cases h : n < 10
    · rw [numL_lt h]
      intro c hc
      rw [List.mem_singleton.mp hc]
      omega
    · rw [numL_step (by omega)]
      intro c hc
      rcases List.mem_append.mp hc with hc | hc
      · exact ih (n / 10) (by omega) c hc
      · have hm : n % 10 < 10 := Nat.mod_lt n (by decide)
        rw [List.mem_singleton.mp hc]
        omega
theorem numL_ne (n : Nat) : numL n ≠ [] := by
  by_cases h : n < 10
  · rw [numL_lt h]
    simp
  · rw [numL_step (by omega)]
    simp
theorem numL_val (n : Nat) : NumText.digitsVal (numL n) = n := PySem.W.KIN.val_back n
theorem numL_len {n k : Nat} (hk : 0 < k) (h : n < 10 ^ k) : (numL n).length ≤ k := by
  have z := PyProof.Rows.toString_length_le (v := (n : Int)) (by omega) hk (by
    have e : ((10 : Int) ^ k) = ((10 ^ k : Nat) : Int) := by
      first
        | exact (Int.natCast_pow 10 k).symm
        | simp
    rw [e]
    first | exact Int.ofNat_lt.mpr h | omega)
  rw [len_tl, tl_num] at z
  exact z
end TL
end 
namespace L2
open PySem PySem.Spec PyProof.Rows
section
variable {X : Cx} {pins : List (Addr × Obj)} {σ : St} {H : Hp} {s : Shared} {Q : VK}
end
section
variable {X : Cx}
end
section
variable {X : Cx} {o e : Expr} {to te : TE}
end
end L2
namespace L2
open PySem PySem.Spec PyProof.Rows
section
variable {X : Cx}
end
end L2
namespace Att
open PySem PySem.W PySem.Calls PyProof.Rows
theorem ints_of_wellAll {P : Params} {h : Heap} : ∀ (ns : List Int) (vs : List Value), WellAll P h vs (ns.map WData.int) → IntsAre vs ns := by
  intro ns
  induction ns with
  | nil =>
    intro vs w
    rw [List.map_nil] at w
    cases w
    exact .nil
  | cons n ns ih =>
    intro vs w
    rw [List.map_cons] at w
    cases w with
    | cons a b =>
      cases a
      exact .cons _ _ (ih _ b)
theorem script_of {l : OpenLaw} {n : Nat} (hn : l.most = some n) {P : Params} {h : Heap} {args : List WData} {vals : List Value}
    (hpre : l.row.toRowW.claim.pre args = true) (hwl : WellAll P h vals args) :
    ∃ a vs ns, vals = [Value.ref a] ∧ args = [WData.list (ns.map WData.int)] ∧ h.get? a = some { cls := .type "list", data := .seq vs.toArray } ∧ IntsAre vs ns ∧ ns.length ≤ n := by
  have hsh : WShape.hasAll [] args [.list .int] = true := (pre_splitW hpre).1
  have hc : l.pre.holds [] { args := args } = true := (pre_splitW hpre).2
  obtain ⟨d, r, rfl, h1, h2⟩ := hasAllW_cons hsh
  obtain rfl := hasAllW_nil h2
  obtain ⟨xs, rfl, h3⟩ := hasW_list h1
  obtain ⟨ns, rfl⟩ := items_int h3
  have hlen : ns.length ≤ n := by
    unfold OpenLaw.pre at hc
    have h4 : (WTm.not (.lt (.lit (.int (n : Int))) (.len (.arg 0)))).holds [] { args := [.list (ns.map .int)] } = true := by
      have h4 := (holds_andW hc).1
      rw [hn] at h4
      exact h4
    have h5 := condW_of h4 (w_not (w_lt w_lit (w_len_list (w_arg rfl))))
    rw [List.length_map] at h5
    refine Nat.le_of_not_lt fun q => ?_
    have q' : (n : Int) < ((ns.length : Nat) : Int) := by omega
    first
      | (rw [decide_eq_true q'] at h5; exact absurd h5 (by decide))
      | (simp at h5; omega)
  cases hwl with
  | cons w1 w2 =>
    cases w2
    cases w1 with
    | list ho hall => exact ⟨_, _, ns, rfl, rfl, ho, ints_of_wellAll ns _ hall, hlen⟩
theorem post_true (l : OpenLaw) (args : List WData) : l.row.toRowW.claim.post args (.bool true) args = true :=
  postW_of (r := l.row.toRowW) (X := (true == true))
    (show WShape.has [] (.bool true) .bool = true by first | rfl | decide | simp [WShape.has, WShape.arms, WShape.armsAll])
    (show (WTm.eq .res (.lit (.bool true))).value [] { args := args, res := some (.bool true), after := args } = some (.bool (true == true)) from w_eq_bool (w_res rfl) w_lit) rfl
theorem attach_call {l : OpenLaw} {n : Nat} {q : Program} {loose : List Str} {XP : (Str → Option Value) → Heap → Prop} {YP : World → Heap → Prop} {d : DefRec}
    (hn : l.most = some n) (hdf : d.params.defaults = [])
    (call : ∀ (w : World) (s₀ s₁ : Shared) (mg mb : Str → Option Value) (fa : Addr) (o : Obj) (pm cd doc : Value) (a : Addr) (vs : List Value) (ns : List Int),
      Ground q loose [] XP w s₀ mg mb s₁.heap → YP w s₁.heap →
      s₁.heap.get? fa = some o → o.data = .func (docDef d.name d.params d.body d.scope pm cd doc) → s₁.heap.CodeRec cd d.name → mg d.name = some (.ref fa) →
      s₁.heap.get? a = some { cls := .type "list", data := .seq vs.toArray } → IntsAre vs ns → ns.length ≤ n → s₁.gens = #[] →
      codeAny (model l.prog w) callerA (.call (.ref fa) ⟨[.ref a], []⟩) (fun r s' => r = .ok (.ret (.bool true)) ∧ OldK s₁.heap s'.heap ∧ s'.os = s₁.os ∧ AllBare s'.gens) s₁) :
    WalkO q loose XP YP l.row.toRowW d [] (fun f vs => PySem.call f vs) := by
  intro w s₀ s₁ mg mb G Y fa o pm cd doc dV kV ho hd hcd hD hmg hg args vals as hpre hlay hrd hwl hlo
  obtain rfl : dV = .none := Dflts.none hD hdf
  obtain rfl : kV = .none := Dflts.noKw hD
  obtain ⟨a, vs, ns, rfl, rfl, hobj, hints, hlen⟩ := script_of hn hpre hwl
  refine enter_call (codeAny_mono (call w s₀ s₁ mg mb fa o pm cd doc a vs ns G Y ho (fd_plain hd) hcd hmg hobj hints hlen hg) fun r s' hq => ?_)
  obtain ⟨rfl, h2, h3, h4⟩ := hq
  exact ⟨.inl ⟨.bool true, .bool true, [], rfl, fun _ => rfl, .bool true, post_true l _, fun _ => ⟨List.Pairwise.nil, fun _ hm => (nomatch hm)⟩⟩, h2, h3, h4⟩
section
variable {prog : Program} {w : World} {A : Around} {E : Value → Shared → Prop} {s : Shared} {K : Frag}
end
end Att
namespace L2
open PySem PySem.Spec PyProof.Rows
theorem vals_ints : ∀ {vs : List Value} {ns : List Int}, IntsAre vs ns → Vals (ns.map V.int) vs
  | _, _, .nil => .nil
  | _, _, .cons n t h => .cons ⟨t, rfl⟩ (vals_ints h)
end L2
namespace L2
open PySem PySem.Spec PyProof.Rows
end L2
namespace L2
open PySem PySem.Spec PyProof.Rows
def defArgs (s : Stmt) : Arguments := match s with
  | .FunctionDef _ a _ _ _ _ _ _ _ _ => a
  | _ => { posonlyargs := [], args := [], vararg := none, kwonlyargs := [], kw_defaults := [], kwarg := none, defaults := [] }
def defBody (s : Stmt) : List Stmt := match s with
  | .FunctionDef _ _ b _ _ _ _ _ _ _ => b
  | _ => []
def defScope (s : Stmt) : Scope := match s with
  | .FunctionDef _ _ _ _ _ _ sc _ _ _ => sc
  | _ => { kind := .function, names := [], isGenerator := false, isCoroutine := false }
abbrev CX0 : CXT := fun _ _ _ _ _ _ => False
abbrev E0 : XK := fun _ _ _ => False
theorem pass0 {X : Cx} : Passes CX0 X E0 := fun _ _ _ _ _ _ _ h => h.elim
structure Fun (K : PySem.W.Frag) (x qual : Str) (st : Stmt) (f : Addr) (fd : FuncData) : Prop where
  ex : ∃ (oc : Value) (od : Option Addr) (kV doc pm : Value) (an : Option Addr) (cdv ct : Value) (osl : Array (Option Value)),
    fd = PySem.W.fnOf x qual (defArgs st) (defBody st) (defScope st) .none kV doc pm an cdv ct ∧ K.lookup f = some ⟨oc, od, .func fd, osl⟩ ∧ PySem.W.codeIn K cdv qual = true
  kp : PySem.W.keepIn K (.ref f) = true
section
variable {P : Program} {w : World} {K : PySem.W.Frag} {mg : Str → Option Value} {base : Heap}
theorem Fun.ok {x qual : Str} {st : Stmt} {f : Addr} {fd : FuncData} {N ps : List Str} {k : Nat} {sp : Sp} (F : Fun K x qual st f fd) (S : FnScope N ps (defScope st)) (len : ∀ vs H Q E, sp vs H Q E → vs.length = ps.length)
    (hbody : ∀ (cdv : Value) (A : Around) (outer : List Env) (s : Shared) (H : Hp) (vs : List V) (Q : VK) (E : XK), Room k (A.deeper (envOfC qual (defScope st) s.heap.objs.size f cdv)) → sp vs H Q E →
      ∃ t, PSs (cxOf CX0 P w K mg base N qual (defScope st) f cdv A outer s H E).nox (defBody st) t ∧ t { nx := fun _ H' => Q .non H', rt := Q } (start N vs) H) : FnOk P w K mg base CX0 (k + 1) f fd ps sp := by
  obtain ⟨oc, od, kV, doc, pm, an, cdv, ct, osl, rfl, lk, hcd⟩ := F.ex
  refine fn_of lk hcd S len fun A outer s H vs Q E hr hsp => ?_
  obtain ⟨t, h, q⟩ := hbody cdv A outer s H vs Q E hr hsp
  exact ⟨t, h.nox, q⟩
theorem Fun.binds {x qual : Str} {st : Stmt} {f : Addr} {fd : FuncData} {ps : List Str} (F : Fun K x qual st f fd)
    (h : ∀ (kV doc pm : Value) (an : Option Addr) (cdv ct : Value) (us : List Value), us.length = ps.length → bindArgs (PySem.W.fnOf x qual (defArgs st) (defBody st) (defScope st) .none kV doc pm an cdv ct) ⟨us, []⟩ = pure (ps.zip us)) : Binds K fd ps [] := by
  obtain ⟨oc, od, kV, doc, pm, an, cdv, ct, osl, rfl, lk, hcd⟩ := F.ex
  exact .all (h kV doc pm an cdv ct)
theorem fun_mk {x qual : Str} {st : Stmt} {f : Addr} {oc : Value} {od an : Option Addr} {osl : Array (Option Value)} {kV doc pm cdv ct : Value} (l : K.lookup f = some ⟨oc, od, .func (PySem.W.fnOf x qual (defArgs st) (defBody st) (defScope st) .none kV doc pm an cdv ct), osl⟩)
    (c : PySem.W.codeIn K cdv qual = true) (k : PySem.W.keepIn K (.ref f) = true) : Fun K x qual st f (PySem.W.fnOf x qual (defArgs st) (defBody st) (defScope st) .none kV doc pm an cdv ct) := ⟨⟨oc, od, kV, doc, pm, an, cdv, ct, osl, rfl, l, c⟩, k⟩
end
theorem hu_of {A : Around} {k : Nat} (hr : Room k A) : A.units + 1 < cLine := Nat.lt_of_le_of_lt (Nat.add_le_add_left (by decide : 1 ≤ 64) _) hr.units
section
variable {X : Cx}
end
def Same (H H' : Hp) : Prop := ∀ b o, H b = some o → H' b = some o
theorem Same.refl (H : Hp) : Same H H := fun _ _ h => h
theorem Same.trans {H H1 H2 : Hp} (a : Same H H1) (b : Same H1 H2) : Same H H2 := fun c o h => b c o (a c o h)
theorem Same.free {H H' : Hp} (e : Same H H') {l : Addr} (h : H' l = Option.none) : H l = Option.none := by
  cases q : H l with
  | none => rfl
  | some o =>
    rw [e l o q] at h
    cases h
theorem Same.seq {K : PySem.W.Frag} {H H' : Hp} {a : Addr} {xs : List V} (e : Same H H') (h : SqL K H a xs) : SqL K H' a xs := by
  rcases h with (h | ⟨o, h⟩) | h
  · exact .inl (.inl (e _ _ h))
  · exact .inl (.inr ⟨o, e _ _ h⟩)
  · exact .inr h
section
variable {κ : Type} [DecidableEq κ]
end
theorem Same.made {H H1 : Hp} {x dx C : Addr} (nx : H x = Option.none) (nd : H dx = Option.none) (k : ∀ b o, (upd (upd H dx (.own x)) x (.ins C dx [])) b = some o → b ≠ x → H1 b = some o) : Same H H1 := fun b o e =>
  k b o (by rw [upd_ne (ne_of_none e nx), upd_ne (ne_of_none e nd)]; exact e) (ne_of_none e nx)
end L2
namespace PySem
theorem Runs.gens_le {M : Model} {Γ : Ctx} {p : Pos} {t : Sem Fin} {fs : List Frame} {s s' : Shared} {e : End} (h : Runs M Γ p t fs s e s') : s.gens.size ≤ s'.gens.size := by
  induction h <;> (try simp only [Shared.setGen, Array.size_setIfInBounds, Array.size_push] at *) <;> omega
theorem setGen_size (s : Shared) (g : Nat) (x : GenState) : (s.setGen g x).gens.size = s.gens.size := by simp only [Shared.setGen, Array.size_setIfInBounds]
theorem Returns.gens_le {M : Model} {Γ : Ctx} {p : Pos} {s s' : Shared} {r : Result} (h : Returns M Γ p s r s') : s.gens.size ≤ s'.gens.size := Runs.gens_le h
theorem Wakes.gens_le {M : Model} {Γ : Ctx} {p : Pos} {g : Nat} {r : Resume} {s s' : Shared} {res : GenResult} (h : Wakes M Γ p g r s res s') : s.gens.size ≤ s'.gens.size := by
  have go : ∀ {s₁ : Shared} {e₁ : End}, (s.setGen g .running).gens.size ≤ s₁.gens.size → s.gens.size ≤ (s₁.setGen g e₁.genState).gens.size := fun hr => by
    rw [setGen_size] at hr ⊢; exact hr
  unfold Wakes at h
  split at h
  · exact h.elim
  · split at h
    · obtain ⟨e₁, s₁, hr, _, _, rfl⟩ := h; exact go (Runs.gens_le hr)
    · rw [h.2]; first | exact Nat.le_refl _ | (rw [setGen_size]; exact Nat.le_refl _)
    · rw [h.2]; first | exact Nat.le_refl _ | (rw [setGen_size]; exact Nat.le_refl _)
  · obtain ⟨e₁, s₁, hr, _, _, rfl⟩ := h; exact go (Runs.gens_le hr)
  · rw [h.2]; exact Nat.le_refl _
  · rw [h.2]; exact Nat.le_refl _
namespace Sem
theorem wp_gens {α : Type} (M : Model) (Γ : Ctx) (n : Nat) (t : Sem α) : ∀ (Q : α → Pos → Shared → Prop) (E : Value → Pos → Shared → Prop) (p : Pos) (s : Shared), n ≤ s.gens.size → wp M Γ t Q E p s →
    wp M Γ t (fun a p' s' => n ≤ s'.gens.size ∧ Q a p' s') (fun e p' s' => n ≤ s'.gens.size ∧ E e p' s') p s := by
  induction t with
  | pure a => intro Q E p s hn h; exact ⟨hn, h⟩
  | raise e => intro Q E p s hn h; exact ⟨hn, h⟩
  | unsupported _ => intro Q E p s _ h; exact h
  | finish _ => intro Q E p s _ h; exact h
  | rule _ k ih => intro Q E p s hn h; exact ih () Q E p s hn h
  | «at» p' k ih => intro Q E p s hn h; exact ih () Q E p' s hn h
  | load a _ k ih => intro Q E p s hn h; obtain ⟨o, ho, h⟩ := h; exact ⟨o, ho, ih o Q E p s hn h⟩
  | update a _ f k ih => intro Q E p s hn h; exact ⟨h.1, ih () Q E p _ hn h.2⟩
  | loadIfAlive a k ih => intro Q E p s hn h; exact ih _ Q E p s hn h
  | point _ k ih => intro Q E p s hn h; exact ih () Q E p s hn h
  | register _ _ => intro Q E p s _ h; exact h
  | alloc o k ih => intro Q E p s hn h; exact ih _ Q E p _ hn h
  | fresh k ih => intro Q E p s hn h; exact ih _ Q E p _ hn h
  | ask k ih => intro Q E p s hn h; exact ih _ Q E p s hn h
  | choose src m k ih => intro Q E p s hn h; exact ⟨h.1, ih _ Q E p _ hn h.2⟩
  | os q _ k ih => intro Q E p s hn h; exact ih _ Q E p _ hn h
  | call c hd _ _ k ih => intro Q E p s hn h; obtain ⟨r, s', hr, h⟩ := h; exact ⟨r, s', hr, ih r Q E p s' (Nat.le_trans hn hr.gens_le) h⟩
  | handled own k ih => intro Q E p s hn h; exact ih _ Q E p s hn h
  | genState g k ih => intro Q E p s hn h; obtain ⟨st, hs, h⟩ := h; exact ⟨st, hs, ih _ Q E p s hn h⟩
  | newGen c k ih => intro Q E p s hn h; exact ih _ Q E p _ (by show n ≤ (s.gens.push _).size; rw [Array.size_push]; omega) h
  | resume g r _ k ih => intro Q E p s hn h; obtain ⟨res, s', hw, h⟩ := h; exact ⟨res, s', hw, ih res Q E p s' (Nat.le_trans hn hw.gens_le) h⟩
  | yield _ _ _ _ => intro Q E p s _ h; exact h
  | stack k ih => intro Q E p s hn h; exact ih _ Q E p s hn h
  | fork _ _ => intro Q E p s _ h; exact h
  | thread k ih => intro Q E p s hn h; exact ih _ Q E p s hn h
  | await _ _ _ _ _ => intro Q E p s _ h; exact h
end Sem
theorem wpAny_gens_of {α : Type} {M : Model} {A : Around} {s : Shared} {t : Sem α} {Q : α → Shared → Prop} {E : Value → Shared → Prop} {n : Nat} (hn : n ≤ s.gens.size) (h : wpAny M A t Q E s) :
    wpAny M A t (fun a s' => n ≤ s'.gens.size ∧ Q a s') (fun e s' => n ≤ s'.gens.size ∧ E e s') s :=
  fun Γ p hΓ => Sem.wp_gens M Γ n t _ _ p s hn (h Γ p hΓ)
theorem wpAny_with_gens {α : Type} {M : Model} {A : Around} {s : Shared} {t : Sem α} {Q : α → Shared → Prop} {E : Value → Shared → Prop} {n : Nat} (hn : n ≤ s.gens.size)
    (h : wpAny M A t (fun a s' => n ≤ s'.gens.size → Q a s') (fun e s' => n ≤ s'.gens.size → E e s') s) : wpAny M A t Q E s :=
  wpAny_mono (wpAny_gens_of hn h) (fun _ _ x => x.2 x.1) (fun _ _ x => x.2 x.1)
end PySem
set_option Elab.async false
set_option linter.all false
set_option maxRecDepth 100000
namespace L2
open PySem PySem.Spec PyProof.Rows
def noDT : HO → Prop
  | .dT _ => False
  | .frz _ u => noDT u
  | _ => True
theorem ObjOk.back {P : Program} {w : World} {H0 H1 : Hp} {h0 h1 : Heap} {a : Addr} {o : HO} (x0 : ObjOk P w H0 h0 a o) (x1 : ObjOk P w H1 h1 a o) (n : noDT o) : ObjOk P w H0 h1 a o := by
  induction o with
  | lst xs => exact x1
  | tup xs => exact x1
  | dK kvs => exact x1
  | dT kvs => exact False.elim n
  | set S n => exact x1
  | ins C dx fs => exact ⟨x0.1, x1.2⟩
  | own y => exact x1
  | xd fs => exact x1
  | rng lo hi => exact x1
  | frz ob u ih => exact ⟨x1.1, ih x0.2 x1.2 n⟩
  | tbl ps => exact x1
  | met f y => exact x1
  | ext φ => exact x1
def Sm (H H' : Hp) : Prop := ∀ b o, H b = some o → H' b = some o
theorem Sm.refl (H : Hp) : Sm H H := fun _ _ e => e
theorem Sm.trans {H H1 H2 : Hp} (a : Sm H H1) (b : Sm H1 H2) : Sm H H2 := fun c o h => b c o (a c o h)
theorem Sm.new {H : Hp} {p : Addr} (h : H p = none) (o : HO) : Sm H (upd H p o) := fun b u q => by rw [upd_ne (ne_of_none q h)]; exact q
theorem Inv.forget {X : Cx} {pins : List (Addr × Obj)} {σ0 σ1 : St} {H0 H1 : Hp} {s0 s1 : Shared} (I0 : Inv X pins σ0 H0 s0) (I1 : Inv X pins σ1 H1 s1) (sm : Sm H0 H1) (nd : ∀ b o, H0 b = some o → noDT o) : Inv X pins σ1 H0 s1 :=
  ⟨I1.ok, I1.os, I1.bare, ⟨I1.base.keep, I1.base.slot, I0.base.free, I1.base.there, I0.base.tups, I0.base.frzs, I0.base.tbls⟩, I1.loc, I1.cell, I0.free, I0.freeC,
    fun p hp => ⟨(I1.pin p hp).1, (I0.pin p hp).2.1, (I1.pin p hp).2.2⟩, fun b o e => (I0.hok b o e).back (I1.hok b o (sm b o e)) (nd b o e), I1.len⟩
theorem Inv.gens {X : Cx} {pins : List (Addr × Obj)} {σ : St} {H : Hp} {s : Shared} (I : Inv X pins σ H s) {g : Array GenState} (hb : AllBare g) : Inv X pins σ H { s with gens := g } :=
  ⟨I.ok, I.os, hb, I.base, I.loc, I.cell, I.free, I.freeC, I.pin, I.hok, I.len⟩
def Keepable (X : Cx) (H : Hp) (fp : List Addr) (b : Addr) (o : Obj) : Prop := H b = none ∧ b ≠ X.env.locals ∧ b ∉ X.fs ∧ b ∉ fp ∧ ∀ v, o.data ≠ .cell v
noncomputable def pinsMax (X : Cx) (H : Hp) (fp : List Addr) (h : Heap) : List (Addr × Obj) :=
  (List.range h.objs.size).filterMap fun b => (h.get? b).bind fun o => @ite _ (Keepable X H fp b o) (Classical.propDecidable _) (some (b, o)) none
theorem mem_pinsMax {X : Cx} {H : Hp} {fp : List Addr} {h : Heap} {b : Addr} {o : Obj} (e : h.get? b = some o) (k : Keepable X H fp b o) : (b, o) ∈ pinsMax X H fp h := by
  unfold pinsMax
  refine List.mem_filterMap.mpr ⟨b, List.mem_range.mpr (Heap.lt_size e), ?_⟩
  rw [e]
  show (@ite _ (Keepable X H fp b o) (Classical.propDecidable _) (some (b, o)) none) = some (b, o)
  rw [if_pos k]
theorem of_pinsMax {X : Cx} {H : Hp} {fp : List Addr} {h : Heap} {p : Addr × Obj} (hp : p ∈ pinsMax X H fp h) : h.get? p.1 = some p.2 ∧ Keepable X H fp p.1 p.2 := by
  unfold pinsMax at hp
  obtain ⟨b, _, e⟩ := List.mem_filterMap.mp hp
  cases q : h.get? b with
  | none => rw [q] at e; cases e
  | some o =>
    rw [q] at e
    have e' : (@ite _ (Keepable X H fp b o) (Classical.propDecidable _) (some (b, o)) none) = some p := e
    by_cases k : Keepable X H fp b o
    · rw [if_pos k] at e'
      cases e'
      exact ⟨q, k⟩
    · rw [if_neg k] at e'; cases e'
def Kept (X : Cx) (H : Hp) (fp : List Addr) (s s' : Shared) : Prop := ∀ b o, s.heap.get? b = some o → Keepable X H fp b o → s'.heap.get? b = some o
theorem Kept.refl (X : Cx) (H : Hp) (fp : List Addr) (s : Shared) : Kept X H fp s s := fun _ _ e _ => e
theorem Kept.trans {X : Cx} {H : Hp} {fp : List Addr} {s s1 s2 : Shared} (a : Kept X H fp s s1) (b : Kept X H fp s1 s2) : Kept X H fp s s2 := fun c o e k => b c o (a c o e k) k
abbrev gexp (elt : Expr) (x : Str) (px : Pos) (iter : Expr) (scope : Scope) (gpos : Pos) : Expr := .GeneratorExp elt [⟨.Name x px, iter, [], 0⟩] scope gpos
structure GenIn (X : Cx) (A : Around) (elt : Expr) (x : Str) (px : Pos) (iter : Expr) (scope : Scope) (gpos : Pos) (it : Addr) (fp : List Addr) (tn : Nat → Heap → Prop) (J : It) (xs vals : List V) (H0 : Hp) (σ0 : St) (i0 : Nat) (te : TE) : Prop where
  turn : Turn X.prog X.w X.K (.Name x px) J fp it tn
  ctx : X.A = A.over (.compLoop (gexp elt x px iter scope gpos) 0 (.ref it) .none X.env) []
  hd : A.handled = none
  calm : X.calm = true
  co : X.env.scope.isCoroutine = false
  go : ∀ i : Nat, i < xs.length → J.go i H0
  yl : ∀ (i : Nat) y H', J.yld i H0 y H' → H' = H0 ∧ xs[i]? = some y
  stop : J.stop xs.length H0
  fpx : ∀ b ∈ fp, H0 b = none ∧ b ≠ X.env.locals ∧ b ∉ X.fs ∧ b ∈ X.ex ∧ ∀ y c, X.env.cells.lookup y = some c → c ≠ b
  pn : X.pn = []
  xe : ∀ e s, ¬ X.xe e s
  tg : PG X (.Name x px) (gName i0)
  el : PE X elt te
  st : σ0[i0]? = some none
  val : ∀ (i : Nat) y, xs[i]? = some y → te (σ0.set i0 (some y)) H0 fun v H1 => vals[i]? = some v ∧ Sm H0 H1
  ndt : ∀ b o, H0 b = some o → noDT o
def GenU (X : Cx) (σ0 : St) (H0 : Hp) (tn : Nat → Heap → Prop) (i : Nat) (s : Shared) : Prop := Inv X [] σ0 H0 s ∧ tn i s.heap
def genP (X : Cx) (σ0 : St) (H0 : Hp) (fp : List Addr) (n : Nat) (s₀ s₁ : Shared) : Prop := n = 0 ∧ Inv X [] σ0 H0 s₁ ∧ Kept X H0 fp s₀ s₁
abbrev genR (X : Cx) (σ0 : St) (H0 : Hp) (fp : List Addr) : GenEnd := fun n s₀ r s₁ => r = .ok .next ∧ genP X σ0 H0 fp n s₀ s₁
def genY (X : Cx) (σ0 : St) (H0 : Hp) (fp : List Addr) (tn : Nat → Heap → Prop) (xs vals : List V) : Protocol := fun m s₀ v s kap =>
  ∃ i, i < xs.length ∧ m = xs.length - 1 - i ∧ (∃ y, vals[i]? = some y ∧ RelV y v) ∧ GenU X σ0 H0 tn (i + 1) s ∧ Kept X H0 fp s₀ s ∧ ∀ s'', GenU X σ0 H0 tn (i + 1) s'' → kap (.send .none) s''
section
variable {X : Cx} {A : Around} {elt : Expr} {x : Str} {px : Pos} {iter : Expr} {scope : Scope} {gpos : Pos} {it : Addr} {fp : List Addr} {tn : Nat → Heap → Prop} {J : It} {xs vals : List V} {H0 : Hp} {σ0 : St} {i0 : Nat} {te : TE}
theorem GenIn.fpOk (G : GenIn X A elt x px iter scope gpos it fp tn J xs vals H0 σ0 i0 te) (s : Shared) : ∀ b ∈ fp, FpOk X (pinsMax X H0 fp s.heap) H0 b := fun b hb => by
  obtain ⟨f0, f1, f2, f3, f4⟩ := G.fpx b hb
  refine ⟨f0, f1, f2, .inl f3, f4, fun p hp => ?_⟩
  rw [G.pn, List.nil_append] at hp
  intro z
  exact (of_pinsMax hp).2.2.2.2.1 (by rw [z]; exact hb)
theorem GenIn.inv (G : GenIn X A elt x px iter scope gpos it fp tn J xs vals H0 σ0 i0 te) {s : Shared} (I : Inv X [] σ0 H0 s) : Inv X (pinsMax X H0 fp s.heap) σ0 H0 s :=
  I.pins_of fun p hp => by
    obtain ⟨e, k1, k2, k3, k4, k5⟩ := of_pinsMax hp
    exact ⟨e, k1, k2, k3, k5⟩
theorem seg_gen_loop (G : GenIn X A elt x px iter scope gpos it fp tn J xs vals H0 σ0 i0 te) :
    ∀ (k i : Nat) (s₀ s : Shared), xs.length - i = k → i ≤ xs.length → GenU X σ0 H0 tn i s → Kept X H0 fp s₀ s →
      Seg (model X.prog X.w) A (genR X σ0 H0 fp) (genY X σ0 H0 fp tn xs vals) (xs.length - i) s₀ (.compLoop (gexp elt x px iter scope gpos) 0 (.ref it) .none X.env)
        ((model X.prog X.w).den (.compLoop (gexp elt x px iter scope gpos) 0 (.ref it) .none X.env)) [] s := by
  intro k
  induction k with
  | zero =>
    intro i s₀ s hk hi hU hkp
    obtain ⟨I, st⟩ := hU
    have hin : i = xs.length := by omega
    subst hin
    show Seg _ A _ _ _ s₀ _ ((compTurn (gexp elt x px iter scope gpos) 0 (.ref it) .none X.env).onRaise (leaving X.env)) [] s
    rw [compTurn_gen, Sem.onRaise_eq_wrap]
    refine seg_bind_wrap (wpAny_standAt ?_)
    have h1 := G.turn.done X rfl rfl rfl G.calm xs.length (pinsMax X H0 fp s.heap) s σ0 H0 (fun _ _ => False) (G.inv I) (G.fpOk s) st G.stop
    rw [G.ctx] at h1
    refine seg_bind_wrap (wpAny_mono h1 (fun r s1 hr => ?_) fun _ _ e => e.elim)
    obtain ⟨rfl, I1⟩ := hr
    refine seg_end (.ok .next) ⟨rfl, by omega, I1.pins_of (fun p hp => nomatch hp), ?_⟩
    refine hkp.trans fun b o e kb => (I1.pin (b, o) (List.mem_append_right _ (mem_pinsMax e kb))).1
  | succ k ih =>
    intro i s₀ s hk hi hU hkp
    obtain ⟨I, st⟩ := hU
    have hlt : i < xs.length := by omega
    show Seg _ A _ _ _ s₀ _ ((compTurn (gexp elt x px iter scope gpos) 0 (.ref it) .none X.env).onRaise (leaving X.env)) [] s
    rw [compTurn_gen, Sem.onRaise_eq_wrap]
    refine seg_bind_wrap (wpAny_standAt ?_)
    have h1 := G.turn.item X rfl rfl rfl G.calm i (pinsMax X H0 fp s.heap) s σ0 H0 (fun _ _ => False) (G.inv I) (G.fpOk s) st (G.go i hlt)
    rw [G.ctx] at h1
    refine seg_bind_wrap (wpAny_mono h1 (fun r s1 hr => ?_) fun _ _ e => e.elim)
    obtain ⟨u, rfl, h2⟩ := hr
    refine seg_bind_wrap (wpAny_mono h2 (fun _ s2 h3 => ?_) fun _ _ e => e.elim)
    obtain ⟨y, H', I2, ry, hy, st2, fr2⟩ := h3
    obtain ⟨rfl, hxy⟩ := G.yl i y H' hy
    have I2' := I2.pinned (G.fpOk s) (G.turn.obj _ _ st2)
    have h4 := G.tg _ s2 σ0 H' y u (fun σ2 H2 => σ2 = σ0.set i0 (some y) ∧ H2 = H') I2' ry ⟨rfl, rfl⟩
    rw [G.ctx] at h4
    refine seg_bind_wrap (wpAny_mono h4 (fun _ s3 h5 => ?_) fun e s' h => (G.xe e s' h).elim)
    obtain ⟨σ3, H3, I3, rfl, rfl⟩ := h5
    simp only [List.forIn_nil]
    refine seg_bind_wrap (wpAny_pure ?_)
    simp only [if_true]
    have hyo : ∀ v, yieldOut X.env v = yieldValue v := fun v => by simp only [yieldOut, G.co, Bool.false_eq_true, if_false]
    simp only [hyo]
    rw [Sem.bind_eq_wrap', Sem.bind_eq_wrap', Sem.wrap_wrap, Sem.wrap_wrap]
    have h6 := G.el _ s3 (σ0.set i0 (some y)) H3 _ I3 (G.val i y hxy)
    rw [G.ctx] at h6
    refine seg_wrap (wpAny_mono h6 (fun v s4 h7 => ?_) fun e s' h => (G.xe e s' h).elim)
    obtain ⟨vv, H4, I4, rv, hv, sm⟩ := h7
    have I5 : Inv X (pinsMax X H3 fp s.heap ++ pinsAt fp s2.heap) (σ0.set i0 (some y)) H3 s4 := Inv.forget I3 I4 sm G.ndt
    have I6 : Inv X (pinsMax X H3 fp s.heap ++ pinsAt fp s2.heap) σ0 H3 s4 := I5.weak (by simp) fun j w e => by
      by_cases hj : j = i0
      · subst hj; rw [G.st] at e; cases e
      · rw [List.getElem?_set_ne (Ne.symm hj)]; exact e
    have U1 : GenU X σ0 H3 tn (i + 1) s4 := ⟨I6.pins_of (fun p hp => nomatch hp), G.turn.keep _ _ _ st2 fun b hb o e => (I6.pin (b, o) (List.mem_append_right _ (List.mem_append_right _ (mem_pinsAt hb e)))).1⟩
    have kp1 : Kept X H3 fp s₀ s4 := hkp.trans fun b o e kb => (I6.pin (b, o) (List.mem_append_right _ (List.mem_append_left _ (mem_pinsMax e kb)))).1
    obtain ⟨m, hm⟩ : ∃ m, xs.length - i = m + 1 := ⟨xs.length - i - 1, by omega⟩
    rw [hm]
    refine seg_at (seg_yield rfl rfl rfl ⟨i, hlt, by omega, ⟨vv, hv, rv⟩, U1, kp1, fun s'' hU'' => ?_⟩)
    have e : m = xs.length - (i + 1) := by omega
    rw [e]
    exact seg_again rfl (ih (i + 1) s'' s'' (by omega) hlt hU'' (Kept.refl _ _ _ _))
end
end L2
set_option Elab.async false
set_option linter.all false
set_option maxRecDepth 100000
namespace L2
open PySem PySem.Spec PyProof.Rows
theorem allBare_setGen {s : Shared} {g : Nat} {x : GenState} (h : AllBare s.gens) (hx : x.bare = true) : AllBare (s.setGen g x).gens := fun y hy => by
  have hy' : y ∈ s.gens.setIfInBounds g x := hy
  rcases Array.mem_or_eq_of_mem_setIfInBounds hy' with q | q
  · exact h y q
  · rw [q]; exact hx
section
variable {X : Cx} {A : Around} {elt : Expr} {x : Str} {px : Pos} {iter : Expr} {scope : Scope} {gpos : Pos} {it : Addr} {fp : List Addr} {tn : Nat → Heap → Prop} {J : It} {xs vals : List V} {H0 : Hp} {σ0 : St} {i0 : Nat} {te : TE}
theorem seg_gen_start (G : GenIn X A elt x px iter scope gpos it fp tn J xs vals H0 σ0 i0 te) (s₀ s : Shared) (hU : GenU X σ0 H0 tn 0 s) (hkp : Kept X H0 fp s₀ s) :
    Seg (model X.prog X.w) A (genR X σ0 H0 fp) (genY X σ0 H0 fp tn xs vals) (xs.length - 0) s₀ (.compStart (gexp elt x px iter scope gpos) 0 (.ref it) .none X.env)
        ((model X.prog X.w).den (.compStart (gexp elt x px iter scope gpos) 0 (.ref it) .none X.env)) [] s := by
  have loop := seg_gen_loop G xs.length 0 s₀ s (Nat.sub_zero _) (Nat.zero_le _) hU hkp
  show Seg _ A _ _ _ s₀ _ ((compStart (gexp elt x px iter scope gpos) 0 (.ref it) .none X.env).onRaise (leaving X.env)) [] s
  unfold compStart
  rw [Sem.onRaise_eq_wrap]
  show Seg _ A _ _ _ s₀ _ ((ask >>= _).wrap _ _ _ _) [] s
  refine seg_bind_wrap (wpAny_askSetting ?_)
  split
  · exact seg_again rfl loop
  · first
      | exact seg_bind_wrap (wpAny_rule (seg_bind_wrap (wpAny_standAt (seg_bind_wrap (G.turn.self _ 0 s _ _ hU.2 (seg_again rfl loop))))))
      | (refine seg_bind_wrap (wpAny_rule ?_); show Seg _ A _ _ _ s₀ _ ((standAt iter.pos >>= _).wrap _ _ _ _) [] s; exact seg_bind_wrap (wpAny_standAt (seg_bind_wrap (G.turn.self _ 0 s _ _ hU.2 (seg_again rfl loop)))))
structure GenSt (X : Cx) (A : Around) (fp : List Addr) (tn : Nat → Heap → Prop) (xs vals : List V) (H0 : Hp) (σ0 : St) (a : Addr) (g : Nat) (i : Nat) (s : Shared) : Prop where
  u : GenU X σ0 H0 tn i s
  gen : s.heap.IsGen a g
  fr : H0 a = none
  nl : a ≠ X.env.locals
  nf : a ∉ X.fs
  np : a ∉ fp
  tk : ∀ i h h', tn i h → (∀ b ∈ fp, ∀ o, h.get? b = some o → h'.get? b = some o) → tn i h'
  tl : ∀ i h, tn i h → ∀ b ∈ fp, b < h.objs.size
  goes : ∃ gs, s.gens[g]? = some gs ∧ ∀ s'', GenU X σ0 H0 tn i s'' → gs.Goes (model X.prog X.w) A.in1 (genR X σ0 H0 fp) (genY X σ0 H0 fp tn xs vals) (xs.length - i) (.send .none) s''
variable {a : Addr} {g : Nat} {i : Nat} {s : Shared} {Q : Option Value → Shared → Prop} {E : Value → Shared → Prop}
theorem GenSt.keepable (st : GenSt X A fp tn xs vals H0 σ0 a g i s) {o : Obj} {ps : Array Value} (hd : o.data = .fields ps) : Keepable X H0 fp a o :=
  ⟨st.fr, st.nl, st.nf, st.np, fun v z => by rw [hd] at z; cases z⟩
theorem GenSt.item (hh : A.handled = none) (hroom : A.depth < recursionLimit) (st : GenSt X A fp tn xs vals H0 σ0 a g i s) (hi : i < xs.length)
    (hQ : ∀ y u s', vals[i]? = some y → RelV y u → GenSt X A fp tn xs vals H0 σ0 a g (i + 1) s' → Kept X H0 fp s s' → Q (some u) s') : wpAny (model X.prog X.w) A (pyNext (.ref a)) Q E s := by
  obtain ⟨gs, hgs, hgo⟩ := st.goes
  obtain ⟨I, t⟩ := st.u
  obtain ⟨m, hm⟩ : ∃ m, xs.length - i = m + 1 := ⟨xs.length - i - 1, by omega⟩
  rw [hm] at hgo
  have hlt : g < s.gens.size := by
    rcases Nat.lt_or_ge g s.gens.size with h' | h'
    · exact h'
    · rw [Array.getElem?_eq_none h'] at hgs; cases hgs
  refine wpAny_with_gens (Nat.le_refl s.gens.size) ?_
  refine wpAny_pyNext_genexpQ (P := genP X σ0 H0 fp) hh I.nolimit hroom st.gen hgs (hgo (s.setGen g .running) ⟨I.gens (allBare_setGen I.bare rfl), t⟩) (fun v s₁ gs' hb hv => ?_) (fun s₁ hp h' hk => ?_)
  · intro hsz
    obtain ⟨j, hj, hm', ⟨y, hy, ry⟩, U1, kp, kap⟩ := hv
    have e : j = i := by omega
    subst e
    have hs1 : g < s₁.gens.size := by rw [setGen_size] at hsz; omega
    have kp' : Kept X H0 fp s (s₁.setGen g gs') := fun b o e k => kp b o e k
    refine hQ y v _ hy ry ⟨⟨U1.1.gens (allBare_setGen U1.1.bare hb), U1.2⟩, ?_, st.fr, st.nl, st.nf, st.np, st.tk, st.tl, gs', by simp [Shared.setGen, hs1], fun s'' hU => ?_⟩ kp'
    · obtain ⟨o, nm, qn, ho, hc, hd, r⟩ := st.gen
      exact ⟨o, nm, qn, kp' a o ho (st.keepable hd), hc, hd, r⟩
    · have e : xs.length - (j + 1) = m := by omega
      rw [e]
      exact kap s'' hU
  · exact absurd hp.1 (Nat.succ_ne_zero m)
theorem GenSt.done (hh : A.handled = none) (hroom : A.depth < recursionLimit) (st : GenSt X A fp tn xs vals H0 σ0 a g xs.length s)
    (hQ : ∀ s', Inv X [] σ0 H0 s' → Kept X H0 fp s s' → Q none s') : wpAny (model X.prog X.w) A (pyNext (.ref a)) Q E s := by
  obtain ⟨gs, hgs, hgo⟩ := st.goes
  obtain ⟨I, t⟩ := st.u
  rw [Nat.sub_self] at hgo
  refine wpAny_pyNext_genexpQ (P := genP X σ0 H0 fp) hh I.nolimit hroom st.gen hgs (hgo (s.setGen g .running) ⟨I.gens (allBare_setGen I.bare rfl), t⟩) (fun v s₁ gs' hb hv => ?_) (fun s₁ hp h' hk => ?_)
  · obtain ⟨j, hj, hm', _, U1, _, kap⟩ := hv
    exact False.elim (kap _ U1)
  · obtain ⟨_, I1, kp⟩ := hp
    have I2 : Inv X [] σ0 H0 (s₁.setGen g .finished) := I1.gens (allBare_setGen I1.bare rfl)
    exact hQ _ (I2.kept (t' := s₁.toks) hk) fun b o e k => hk b o (kp b o e k)
theorem GenSt.self (st : GenSt X A fp tn xs vals H0 σ0 a g i s) {Q : Value → Shared → Prop} {A' : Around} (hQ : Q (.ref a) s) : wpAny (model X.prog X.w) A' (pyIter (.ref a)) Q E s := wpAny_pyIter_gen st.gen hQ
theorem GenSt.moved (st : GenSt X A fp tn xs vals H0 σ0 a g i s) {s' : Shared} (hg : s'.gens = s.gens) (hU : GenU X σ0 H0 tn i s') (ha : ∀ o, s.heap.get? a = some o → s'.heap.get? a = some o) : GenSt X A fp tn xs vals H0 σ0 a g i s' := by
  obtain ⟨o, nm, qn, ho, r⟩ := st.gen
  refine ⟨hU, ⟨o, nm, qn, ha o ho, r⟩, st.fr, st.nl, st.nf, st.np, st.tk, st.tl, ?_⟩
  rw [hg]
  exact st.goes
structure OwnRec (X : Cx) (H0 : Hp) (fp : List Addr) (a S : Addr) : Prop where
  fr : H0 S = none
  nl : S ≠ X.env.locals
  yo : X.s_0.heap.objs.size ≤ S
  np : S ∉ fp
  na : S ≠ a
  nc : ∀ y c, X.env.cells.lookup y = some c → c ≠ S
  nf : S ∉ X.fs
theorem GenSt.fresh (st : GenSt X A fp tn xs vals H0 σ0 a g i s) : OwnRec X H0 fp a s.heap.objs.size := by
  obtain ⟨I, t⟩ := st.u
  have hp := st.tl i _ t
  obtain ⟨o, _, _, ho, _⟩ := st.gen
  have q := I.fpOk (H' := H0) (Nat.le_refl _) (I.hok.fresh (Nat.le_refl _))
  exact ⟨q.1, q.2.1, I.sz, fun z => Nat.lt_irrefl _ (hp _ z), Nat.ne_of_gt (Heap.lt_size ho), fun y c e => q.2.2.2.2.1 y c e, q.2.2.1⟩
theorem GenSt.own (st : GenSt X A fp tn xs vals H0 σ0 a g i s) {S : Addr} (R : OwnRec X H0 fp a S) (hpn : X.pn = []) {h' : Heap} {t' : Nat} (k : ∀ b o, b ≠ S → s.heap.get? b = some o → h'.get? b = some o) :
    GenSt X A fp tn xs vals H0 σ0 a g i { s with heap := h', toks := t' } := by
  obtain ⟨I, t⟩ := st.u
  refine st.moved rfl ⟨I.turned k R.fr R.nl (.inr R.yo) R.nc (fun p hp => by rw [hpn] at hp; exact nomatch hp), st.tk _ _ _ t fun b hb o e => k b o (fun z => R.np (z ▸ hb)) e⟩ fun o e => k a o (Ne.symm R.na) e
theorem OwnRec.keepable (R : OwnRec X H0 fp a S) {o : Obj} (hd : ∀ v, o.data ≠ .cell v) : Keepable X H0 fp S o := ⟨R.fr, R.nl, R.nf, R.np, hd⟩
end
end L2
set_option Elab.async false
set_option linter.all false
set_option maxRecDepth 100000
namespace L2
open PySem PySem.Spec PyProof.Rows
def tabO (P : Addr) : HO := .ext fun h => ∃ ps, h.get? P = some (PySem.W.tabObj ps) ∧ TriplesOk ps.toList
structure CodeOk (base : Heap) (mg : Str → Option Value) (c P : Addr) : Prop where
  hd : PySem.W.CodeHd base c P
  blt : ∃ bm o, mg "__builtins__" = some (.ref bm) ∧ bm ≠ builtinsNs ∧ base.get? bm = some o ∧ o.cls = .type "module" ∧ o.dict = some builtinsNs ∧ o.data = .plain
def shade (x : Str) (N : List Str) : List Str := N.map fun y => if y = x then "" else y
structure GenScope (x : Str) (N : List Str) (scope outer : Scope) : Prop where
  co : scope.isCoroutine = false
  kind : scope.kind = .function
  nocell : ∀ y ∈ scope.names, y.2 ≠ .cell
  dot : scope.names.lookup (".0" : Str) = some NameKind.local
  own : scope.names.lookup x = some .local
  free : ∀ y ∈ scope.names, y.2 = .free → outer.names.lookup y.1 = some .cell ∨ outer.names.lookup y.1 = some .free
  loc : ∀ y ∈ N, y ≠ x → scope.names.lookup y ≠ some .local
  nd : (x :: shade x N).Nodup
  emp : scope.names.lookup ("" : Str) = none
  ndot : x ≠ ".0"
def Cx.gen (X : Cx) (s : Shared) (H : Hp) (A' : Around) (x : Str) (genv : Env) (fp : List Addr) : Cx :=
  { X with A := A', N := x :: shade x X.N, s_0 := s, H_0 := H, env := genv, outer := X.stack, stack := genv :: X.stack, ex := fp, fn := fun _ => false, calm := true, pn := [], xe := fun _ _ => False }
abbrev genA (X : Cx) (elt : Expr) (x : Str) (px : Pos) (iter : Expr) (scope : Scope) (gpos : Pos) (it : Addr) (genv : Env) : Around := X.A.in4.in1.over (.compLoop (gexp elt x px iter scope gpos) 0 (.ref it) .none genv) []
abbrev genX (X : Cx) (elt : Expr) (x : Str) (px : Pos) (iter : Expr) (scope : Scope) (gpos : Pos) (s : Shared) (H : Hp) (it : Addr) (fp : List Addr) (code : Value) : Cx :=
  X.gen s H (genA X elt x px iter scope gpos it (genEnv scope (cloFrom X.env.cells scope.names []) s.heap.objs.size code builtinsNs X.env)) x (genEnv scope (cloFrom X.env.cells scope.names []) s.heap.objs.size code builtinsNs X.env) fp
theorem lookup_clo {X : Cx} {pins : List (Addr × Obj)} {σ : St} {H : Hp} {s : Shared} {x : Str} {N : List Str} {scope : Scope} (S : GenScope x N scope X.env.scope) (I : Inv X pins σ H s) {y : Str} {c : Addr} (h : (cloFrom X.env.cells scope.names []).lookup y = some c) : X.env.cells.lookup y = some c := by
  rcases cloFrom_mem (PySem.mem_of_lookup h) with z | ⟨z, e⟩
  · cases z
  · obtain ⟨c', hc'⟩ := I.ok.has y (S.free (y, .free) z rfl)
    rw [hc'] at e ⊢
    rw [e]; rfl
theorem gen_start {X : Cx} {pins : List (Addr × Obj)} {σ : St} {H : Hp} {s : Shared} {elt : Expr} {x : Str} {px : Pos} {iter : Expr} {scope : Scope} {gpos : Pos} {it : Addr} {fp : List Addr} {code : Value} {h5 : Heap} {g5 : Array GenState} {t5 : Nat} {m : Str → Option Value}
    (S : GenScope x X.N scope X.env.scope) (hd : X.A.handled = none) (I : Inv X pins σ H s) (hf : ∀ b ∈ fp, FpOk X pins H b) (hb : AllBare g5) (hk : ∀ b o, s.heap.get? b = some o → h5.get? b = some o) (hn : h5.Ns s.heap.objs.size m)
    (hfp : ∀ b ∈ fp, b < s.heap.objs.size) :
    Inv (genX X elt x px iter scope gpos s H it fp code) [] (none :: σ) H { s with heap := h5, gens := g5, toks := t5 } := by
  have fsub : ∀ b ∈ fp, b ∉ frs X.stack := fun b hb hm => by
    rcases List.mem_cons.mp (I.stkSub b hm) with z | z
    · exact (hf b hb).2.1 z
    · exact (hf b hb).2.2.1 z
  refine ⟨⟨I.ok.mod, S.kind, I.ok.glob, rfl, Nat.le_refl _, fun y z c h1 h2 => ?_, fun y hy => ?_, fun y c h _ => ?_, fun _ => hd, ?_, .inr ⟨rfl, rfl⟩, fun b hb => ⟨?_, fun y c h => ?_⟩, fun b o e => I.bs b o e, Nat.le_trans I.ok.bsz I.sz, fun b o e hb => ?_, fun b hb => fsub b hb, I.stack, I.stkFree⟩,
    rfl, hb, Un.kept hk, ⟨m, hn, fun i y v h1 h2 h3 => ?_⟩, fun y c h => ?_, I.hok.fresh (Nat.le_refl _), fun y c h => I.freeC y c (lookup_clo S I h), fun p hp => absurd (show p ∈ ([] : List (Addr × Obj)) from hp) (by simp), I.hok.kept hk, ?_⟩
  · exact I.ok.inj y z c (lookup_clo S I h1) (lookup_clo S I h2)
  · have hy : scope.names.lookup y = some .cell ∨ scope.names.lookup y = some .free := hy
    rcases hy with hy | hy
    · exact absurd rfl (S.nocell _ (PySem.mem_of_lookup hy))
    · exact mem_lookup (cloFrom_has (PySem.mem_of_lookup hy))
  · cases h
  · have hfr : X.A.in4.in1.frames = some X.stack := I.ok.frames
    show pushEnvs [_] (pushEnvs [] X.A.in4.in1.frames) = _
    rw [hfr]
    rfl
  · exact Nat.ne_of_lt (hfp b hb)
  · exact (hf b hb).2.2.2.2.1 y c (lookup_clo S I h)
  · rcases (hf b hb).2.2.2.1 with z | z
    · exact I.ok.noex b o e z
    · exact absurd (Nat.lt_of_lt_of_le (Nat.lt_of_lt_of_le (Heap.lt_size e) I.ok.bsz) z) (Nat.lt_irrefl _)
  · cases i with
    | zero => cases h2
    | succ j =>
      have h1 : (shade x X.N)[j]? = some y := h1
      have h2 : σ[j]? = some (some v) := h2
      have h3' : scope.names.lookup y = some .local ∨ scope.names.lookup y = some .cell ∨ scope.names.lookup y = some .free := h3
      obtain ⟨h1, hyx⟩ : X.N[j]? = some y ∧ y ≠ x := by
        unfold shade at h1
        rw [List.getElem?_map] at h1
        cases hz : X.N[j]? with
        | none => rw [hz] at h1; cases h1
        | some y0 =>
          rw [hz] at h1
          have h1 : (if y0 = x then ("" : Str) else y0) = y := Option.some.inj h1
          by_cases e0 : y0 = x
          · rw [if_pos e0] at h1
            rw [← h1, S.emp] at h3'
            rcases h3' with q | q | q <;> cases q
          · rw [if_neg e0] at h1
            exact ⟨by rw [h1], by rw [← h1]; exact e0⟩
      have hmem : y ∈ X.N := List.mem_of_getElem? h1
      have hfree : scope.names.lookup y = some .free := by
        have h3 : scope.names.lookup y = some .local ∨ scope.names.lookup y = some .cell ∨ scope.names.lookup y = some .free := h3
        rcases h3 with h3 | h3 | h3
        · exact absurd h3 (S.loc y hmem hyx)
        · exact absurd rfl (S.nocell _ (PySem.mem_of_lookup h3))
        · exact h3
      obtain ⟨m', hn', hl⟩ := I.loc
      have hout := S.free (y, .free) (PySem.mem_of_lookup hfree) rfl
      obtain ⟨u, r, l⟩ := hl j y v h1 h2 (.inr hout)
      refine ⟨u, r, ?_⟩
      rcases l with ⟨k, _⟩ | ⟨k, c, e, z⟩
      · have k : X.env.scope.names.lookup y = some .local := k
        rcases hout with q | q
        · rw [k] at q; cases q
        · rw [k] at q; cases q
      · refine .inr ⟨.inr hfree, c, ?_, ?_⟩
        · obtain ⟨c', hc'⟩ := mem_lookup (cloFrom_has (cells := X.env.cells) (acc := []) (PySem.mem_of_lookup hfree))
          have := lookup_clo S I hc'
          rw [e] at this
          cases this
          exact hc'
        · obtain ⟨o, ho, hdd⟩ := z
          exact ⟨o, hk _ _ ho, hdd⟩
  · obtain ⟨v, o, ho, hdd⟩ := I.cell y c (lookup_clo S I h)
    exact ⟨v, o, hk _ _ ho, hdd⟩
  · show (none :: σ).length = (x :: shade x X.N).length
    rw [List.length_cons, List.length_cons, I.len]
    unfold shade
    rw [List.length_map]
def GenRd (te : TE) (J : It) (xs vals : List V) (H : Hp) (σ : St) : Prop :=
  (∀ i : Nat, i < xs.length → J.go i H) ∧ (∀ (i : Nat) y H', J.yld i H y H' → H' = H ∧ xs[i]? = some y) ∧ J.stop xs.length H ∧
  (∀ (i : Nat) y, xs[i]? = some y → te (some y :: σ) H fun v H1 => vals[i]? = some v ∧ Sm H H1) ∧ ∀ b o, H b = some o → noDT o
theorem gen_make {X : Cx} {pins : List (Addr × Obj)} {σ : St} {H : Hp} {s : Shared} {elt : Expr} {x : Str} {px : Pos} {iter : Expr} {scope : Scope} {gpos : Pos} {wi : TI} {te : TE} {c P : Addr} {R : It → Hp → Prop} {Q : Value → Shared → Prop}
    (S : GenScope x X.N scope X.env.scope) (hd : X.A.handled = none) (hroom : X.A.depth < recursionLimit) (hcode : X.env.code = .ref c) (C : CodeOk X.base X.mg c P) (hi : PI X (.Name x px) iter wi)
    (he : ∀ s H it fp code, PE (genX X elt x px iter scope gpos s H it fp code) elt te)
    (hs : ∀ v, genFold iter X.env v = pure v) (I : Inv X pins σ H s)
    (h : wi σ H fun J H1 => H1 P = some (tabO P) ∧ R J H1)
    (hQ : ∀ (s4 s5 : Shared) (J : It) (H1 : Hp) (it : Addr) (fp : List Addr) (tn : Nat → Heap → Prop) (code : Value) (a : Addr), Inv X pins σ H1 s4 → (∀ b ∈ fp, FpOk X pins H1 b) → R J H1 →
      (∀ xs vals, GenRd te J xs vals H1 σ → GenSt (genX X elt x px iter scope gpos s4 H1 it fp code) X.A.in4 fp tn xs vals H1 (none :: σ) a s4.gens.size 0 s5) → Q (.ref a) s5) :
    wpAny (model X.prog X.w) X.A (eval (gexp elt x px iter scope gpos) X.env) Q X.xe s := by
  have hclos : closureFor scope X.env = pure (cloFrom X.env.cells scope.names []) := closure_ok fun y hy hfr => I.ok.has y.1 (S.free y hy hfr)
  refine wpAny_GeneratorExp_make S.co hclos S.nocell S.dot S.kind hroom ?_ hs
  refine thn (hi pins s σ H _ I h) fun v s1 h1 => thn h1 fun itv s2 h2 => ?_
  obtain ⟨it, fp, tn, J, H2, e, I2, T, st2, f2, hP, hR⟩ := h2
  subst e
  refine ⟨I2.nolimit, ?_⟩
  -- the code object's table
  obtain ⟨⟨ps, hop, htr⟩, _, _⟩ := I2.hok P _ hP
  have hd2 : PySem.W.CodeHd s2.heap c P := C.hd.keeps I2.bk
  have hcode2 : s2.heap.IsCode c P ps := hd2.code hop htr
  have hup : upd H2 P (tabO P) = H2 := by
    funext b
    by_cases hb : b = P
    · subst hb; rw [upd_same, hP]
    · rw [upd_ne hb]
  have after : ∀ (code : Value) (h3 : Heap) (tk : Nat) (ps3 : Array Value), Heap.ExtBut P s2.heap h3 → h3.get? P = some (PySem.W.tabObj ps3) → TriplesOk ps3.toList → wpAny (model X.prog X.w) X.A (builtinsFor X.env.globals X.env.builtins) (fun bi s₄ =>
        ∀ h', h'.Ns s₄.heap.objs.size (fun y => if y = ".0" then some (Value.ref it) else none) → Heap.SameBut s₄.heap.objs.size (s₄.heap.push { cls := .type "frame", data := .dict #[] }) h' →
          Q (.ref h'.objs.size) { s₄ with
            gens := s₄.gens.push (.fresh (.compStart (.GeneratorExp elt [⟨.Name x px, iter, [], 0⟩] scope gpos) 0 (.ref it) .none (genEnv scope (cloFrom X.env.cells scope.names []) s₄.heap.objs.size code bi X.env))),
            toks := s₄.toks + 1 + 1 + 1,
            heap := h'.push { cls := .type "generator", data := .fields #[.int s₄.gens.size 0, .str "<genexpr>" (s₄.toks + 1), .str (X.env.qual ++ "<genexpr>") (s₄.toks + 1 + 1)] } }) X.xe { s2 with heap := h3, toks := tk } := ?_
  · cases hnf : codeAmong gpos ps.toList with
    | some cv => exact wpAny_genexprCode_hit hcode hcode2 hnf (after cv s2.heap s2.toks ps (fun _ _ _ e => e) hop htr)
    | none => exact wpAny_genexprCodeX hcode hcode2 (hd2.tab hop) hnf fun c' h3 tk hx3 _ _ hc3 _ ht3 _ => after _ h3 tk _ hx3 ht3.2 (by
        obtain ⟨_, _, _, _, _, _, _, _, _, op3, _, _, _, _, _, _, _, g8, g9, g10, _⟩ := hc3
        exact g10)
  intro code h3 tk ps3 hx3 hP3 htr3
  have I3 : Inv X pins σ H2 { s2 with heap := h3, toks := tk } := by
    have q := I2.write (x := P) (e := P) (o := tabO P) (h' := h3) (t' := tk) (by rw [hP]; trivial) (.inl rfl) (fun b u hb e => hx3 b u hb e) ⟨_, hP3⟩
      ⟨⟨ps3, hP3, htr3⟩, ⟨_, hP3⟩, fun h1 h2 ⟨ps', q1, q3⟩ k => ⟨ps', k _ q1, q3⟩⟩
    rw [hup] at q
    exact q
  have fpP : ∀ b ∈ fp, b ≠ P := fun b hb z => by
    have := (f2 b hb).1
    rw [z, hP] at this; cases this
  have st3 : tn 0 h3 := T.keep _ _ _ st2 fun b hb o e => hx3 b o (fpP b hb) e
  obtain ⟨bm, ob, b1, b2, b3, b4, b5, b6⟩ := C.blt
  have hng : ({ s2 with heap := h3, toks := tk } : Shared).heap.Ns X.env.globals X.mg := by
    rw [I.ok.glob]
    obtain ⟨og, es, ep, k1, k2⟩ := I.ok.mod.glob
    exact ⟨og, es, ep, I3.bk _ _ k1, k2⟩
  refine wpAny_builtinsFor hng b1 b2 (I3.bk _ _ b3) b4 b5 b6 ?_
  intro h' hn' hs'
  have hsz : h'.objs.size = h3.objs.size + 1 := by rw [hs'.1, Heap.size_push]
  have keep' : ∀ b o, h3.get? b = some o → h'.get? b = some o := fun b o e => hs'.extBut b o (Nat.ne_of_lt (Heap.lt_size e)) (Heap.get?_push_of_some _ e)
  refine hQ { s2 with heap := h3, toks := tk } _ J H2 it fp tn code h'.objs.size I3 f2 hR fun xs vals rd => ?_
  have hfp : ∀ b ∈ fp, b < h3.objs.size := fun b hb => by
    obtain ⟨o, e, _⟩ := T.obj _ _ st3 b hb
    exact Heap.lt_size e
  have haf : h'.objs.size ∉ fp := fun hm => Nat.lt_irrefl _ (Nat.lt_of_lt_of_le (hfp _ hm) (by rw [hsz]; exact Nat.le_succ _))
  have hfr : H2 h'.objs.size = none := I3.hok.fresh (show h3.objs.size ≤ _ by omega)
  have hnf : h'.objs.size ∉ frs X.stack := fun hm => by
    rcases List.mem_cons.mp (I3.stkSub _ hm) with z | z
    · have := I3.lt
      rw [← z] at this
      have this : h'.objs.size < h3.objs.size := this
      omega
    · exact I3.nofs (show h3.objs.size ≤ _ by omega) z
  have hpush : ∀ b o, h'.get? b = some o → (h'.push { cls := .type "generator", data := .fields #[.int (s2.gens.size : Nat) 0, .str "<genexpr>" (tk + 1), .str (X.env.qual ++ "<genexpr>") (tk + 1 + 1)] }).get? b = some o := fun b o e => Heap.get?_push_of_some _ e
  have J0 := gen_start (elt := elt) (px := px) (iter := iter) (gpos := gpos) (it := it) (code := code) (t5 := tk + 1 + 1 + 1)
    (g5 := s2.gens.push (.fresh (.compStart (gexp elt x px iter scope gpos) 0 (.ref it) .none (genEnv scope (cloFrom X.env.cells scope.names []) h3.objs.size code builtinsNs X.env))))
    S hd I3 f2 (I3.bare.push rfl) (fun b o e => hpush b o (keep' b o e)) (hn'.push _) hfp
  have T' : GenIn (genX X elt x px iter scope gpos { s2 with heap := h3, toks := tk } H2 it fp code) X.A.in4.in1 elt x px iter scope gpos it fp tn J xs vals H2 (none :: σ) 0 te :=
    ⟨T, rfl, hd, rfl, S.co, rd.1, rd.2.1, rd.2.2.1, fun b hb => ⟨(f2 b hb).1, Nat.ne_of_lt (hfp b hb), fun hm => (by
        rcases List.mem_cons.mp (I3.stkSub b hm) with z | z
        · exact (f2 b hb).2.1 z
        · exact (f2 b hb).2.2.1 z), hb, fun y c' hc' => (f2 b hb).2.2.2.2.1 y c' (lookup_clo S I3 hc')⟩, rfl, fun e s' hz => hz,
      pg_name (i := 0) S.nd rfl (.inl S.own) (hf := .inr S.own), he _ _ _ _ _, rfl, rd.2.2.2.1, rd.2.2.2.2⟩
  refine ⟨⟨J0, T.keep _ _ _ st3 fun b hb o e => hpush b o (keep' b o e)⟩, ⟨_, _, _, Heap.get?_push_size _ rfl, rfl, rfl, rfl⟩, hfr, (show h'.objs.size ≠ h3.objs.size by omega), hnf, haf, T.keep, fun i h tt b hb => (let ⟨o, e, _⟩ := T.obj i h tt b hb; Heap.lt_size e), ?_⟩
  refine ⟨_, Array.getElem?_push_size .., fun s'' hU => ⟨rfl, ?_⟩⟩
  exact seg_gen_start T' s'' s'' hU (Kept.refl _ _ _ _)
end L2
set_option Elab.async false
set_option linter.all false
set_option maxRecDepth 100000
namespace L2
open PySem PySem.Spec PyProof.Rows
section
variable {X : Cx} {A : Around} {fp : List Addr} {tn : Nat → Heap → Prop} {xs vals : List V} {H0 : Hp} {σ0 : St} {a : Addr} {g : Nat}
theorem GenSt.item1 {i : Nat} {s : Shared} {Q : Option Value → Shared → Prop} {E : Value → Shared → Prop} (hh : A.handled = none) (hroom : A.depth < recursionLimit) (st : GenSt X A.in4 fp tn xs vals H0 σ0 a g i s) (hi : i < xs.length)
    (hQ : ∀ y u s', vals[i]? = some y → RelV y u → GenSt X A.in4 fp tn xs vals H0 σ0 a g (i + 1) s' → Kept X H0 fp s s' → Q (some u) s') : wpAny (model X.prog X.w) A.in1 (pyNext (.ref a)) Q E s :=
  wpAny_of_in1 (A := A.in1) (wpAny_of_in1 (A := A.in1.in1) (wpAny_of_in1 (A := A.in1.in1.in1) (st.item hh hroom hi hQ)))
theorem GenSt.done1 {s : Shared} {Q : Option Value → Shared → Prop} {E : Value → Shared → Prop} (hh : A.handled = none) (hroom : A.depth < recursionLimit) (st : GenSt X A.in4 fp tn xs vals H0 σ0 a g xs.length s)
    (hQ : ∀ s', Inv X [] σ0 H0 s' → Kept X H0 fp s s' → Q none s') : wpAny (model X.prog X.w) A.in1 (pyNext (.ref a)) Q E s :=
  wpAny_of_in1 (A := A.in1) (wpAny_of_in1 (A := A.in1.in1) (wpAny_of_in1 (A := A.in1.in1.in1) (st.done hh hroom hQ)))
theorem take_sum {ns : List Int} {i : Nat} {n : Int} (h : ns[i]? = some n) : (ns.take (i + 1)).sum = (ns.take i).sum + n := by
  rw [List.take_succ, h, List.sum_append]
  simp
abbrev accObj (n : Int) (t : Tok) (c : Nat) : Obj := { cls := .type "list", dict := none, data := .seq #[.int n t] c, slots := #[] }
theorem sum_loop_gen {R : Result → Shared → Prop} {ns : List Int} {S : Addr} (hh : A.handled = none) (hroom : A.depth < recursionLimit) (hpn : X.pn = []) (hl : ns.length = xs.length) (O : OwnRec X H0 fp a S) :
    ∀ (k i : Nat) (s : Shared) (tA : Tok) (c : Nat) (st : Int), (st = 0 ∨ st = 2) → xs.length - i = k → i ≤ xs.length → GenSt X A.in4 fp tn xs (ns.map V.int) H0 σ0 a g i s → s.heap.get? S = some (accObj (ns.take i).sum tA c) →
    (∀ s' t', Inv X [] σ0 H0 s' → R (.ok (.ret (.int ns.sum t'))) s') → codeAny (model X.prog X.w) A (.builtin "sum.loop" ⟨[.ref a, .ref S, rawInt st, rawInt 0], []⟩) R s := by
  intro k
  induction k with
  | zero =>
    intro i s tA c st hst2 hk hi hG hS hR
    have hin : i = xs.length := by omega
    subst hin
    refine codeAny_builtin F.entry_sum_loop ?_
    rw [Around.under_plainId F.plain_sum_loop _]
    show wpAny _ A.in1 (seqItems? (.ref S) >>= _) _ _ s
    refine wpAny_bind (wpAny_seqItems hS rfl ?_)
    show wpAny _ A.in1 (tryCatch (pyNext (.ref a)) _ >>= _) _ _ s
    refine wpAny_bind (wpAny_tryCatch (hG.done1 hh hroom fun s' I' kp => ?_))
    have e : (ns.take xs.length).sum = ns.sum := by rw [← hl, List.take_length]
    rw [e]
    exact wpAny_pure (hR s' tA I')
  | succ k ih =>
    intro i s tA c st hst2 hk hi hG hS hR
    have hlt : i < xs.length := by omega
    refine codeAny_builtin F.entry_sum_loop ?_
    rw [Around.under_plainId F.plain_sum_loop _]
    show wpAny _ A.in1 (seqItems? (.ref S) >>= _) _ _ s
    refine wpAny_bind (wpAny_seqItems hS rfl ?_)
    show wpAny _ A.in1 (tryCatch (pyNext (.ref a)) _ >>= _) _ _ s
    refine wpAny_bind (wpAny_tryCatch (hG.item1 hh hroom hlt fun y u s' hy ry hG' kp => ?_))
    obtain ⟨n, hn, rfl⟩ : ∃ n, ns[i]? = some n ∧ y = .int n := by
      rw [List.getElem?_map] at hy
      cases q : ns[i]? with
      | none => rw [q] at hy; cases hy
      | some n => rw [q] at hy; cases hy; exact ⟨n, rfl, rfl⟩
    obtain ⟨t, rfl⟩ := ry
    have hS' : s'.heap.get? S = some (accObj (ns.take i).sum tA c) := kp S _ hS (O.keepable fun v z => nomatch z)
    have es := take_sum hn
    have next : ∀ (h' : Heap) (t' tN c' : Nat) (st' : Int), (st' = 0 ∨ st' = 2) → (∀ b o, b ≠ S → s'.heap.get? b = some o → h'.get? b = some o) → h'.get? S = some (accObj ((ns.take i).sum + n) tN c') →
        codeAny (model X.prog X.w) A (.builtin "sum.loop" ⟨[.ref a, .ref S, rawInt st', rawInt 0], []⟩) R { s' with heap := h', toks := t' } := fun h' t' tN c' st' h2 hk' hS2 =>
      ih (i + 1) _ tN c' st' h2 (by omega) hlt (hG'.own O hpn hk') (by rw [es]; exact hS2) hR
    rcases hst2 with rfl | rfl
    · show wpAny _ A.in1 (if (_ : Bool) = true then (mkInt ((ns.take i).sum + n) >>= _) else _) _ _ _
      split
      · refine wpAny_bind (wpAny_mkInt ?_)
        show wpAny _ A.in1 (updateSeq S (fun _ => #[.int ((ns.take i).sum + n) s'.toks]) >>= _) _ _ _
        refine wpAny_bind (wpAny_updateSeq hS' rfl (wpAny_pure ⟨plainId_quiet F.plain_sum_loop _, next _ _ _ _ 0 (.inl rfl) (fun b o hb e => (Heap.get?_update_other _ _ (Ne.symm hb)).trans e) (Heap.get?_update_self _ hS' rfl)⟩))
      · refine wpAny_bind (wpAny_rule ?_)
        refine wpAny_bind (wpAny_attempt (wpAny_holding (wpAny_add_int ?_)))
        show wpAny _ A.in1 (updateSeq S (fun _ => #[.int ((ns.take i).sum + n) s'.toks]) >>= _) _ _ _
        refine wpAny_bind (wpAny_updateSeq hS' rfl ?_)
        have hS₂ := Heap.get?_update_self (Obj.mapSeq fun _ => #[Value.int ((ns.take i).sum + n) s'.toks]) hS' rfl
        refine wpAny_bind (wpAny_letGo ?_)
        refine wpAny_bind (wpAny_updateSeq hS₂ rfl (wpAny_pure ⟨plainId_quiet F.plain_sum_loop _, next _ _ _ _ 2 (.inr rfl) (fun b o hb e => (Heap.get?_update_other _ _ (Ne.symm hb)).trans ((Heap.get?_update_other _ _ (Ne.symm hb)).trans e)) (Heap.get?_update_self _ hS₂ rfl)⟩))
    · show wpAny _ A.in1 ((holding [Value.int n t] (binaryOp .Add (.int (ns.take i).sum tA) (.int n t))).attempt >>= _) _ _ _
      refine wpAny_bind (wpAny_attempt (wpAny_holding (wpAny_add_int ?_)))
      show wpAny _ A.in1 (updateSeq S (fun _ => #[.int ((ns.take i).sum + n) s'.toks]) >>= _) _ _ _
      refine wpAny_bind (wpAny_updateSeq hS' rfl ?_)
      have hS₂ := Heap.get?_update_self (Obj.mapSeq fun _ => #[Value.int ((ns.take i).sum + n) s'.toks]) hS' rfl
      refine wpAny_bind (wpAny_letGo ?_)
      refine wpAny_bind (wpAny_updateSeq hS₂ rfl (wpAny_pure ⟨plainId_quiet F.plain_sum_loop _, next _ _ _ _ 2 (.inr rfl) (fun b o hb e => (Heap.get?_update_other _ _ (Ne.symm hb)).trans ((Heap.get?_update_other _ _ (Ne.symm hb)).trans e)) (Heap.get?_update_self _ hS₂ rfl)⟩))
theorem call_sum_gen {s : Shared} {Q : Value → Shared → Prop} {E : Value → Shared → Prop} {ns : List Int} (hh : A.handled = none) (hroom : A.depth < recursionLimit) (hpn : X.pn = []) (hl : ns.length = xs.length)
    (hG : GenSt X A.in4 fp tn xs (ns.map V.int) H0 σ0 a g 0 s) (hQ : ∀ s' t', Inv X [] σ0 H0 s' → Q (.int ns.sum t') s') : wpAny (model X.prog X.w) A (call (.builtin "sum") [.ref a]) Q E s := by
  refine call_function_tree F.kind_sum F.plain_sum F.entry_sum (F.args_sum1 _) ?_
  unfold Builtin.«sum»
  simp only [List.length_cons, List.length_nil]
  rw [if_neg (by decide)]
  refine wpAny_bind (wpAny_of_eq (show Builtin.Builtins.bindParams "sum" ["start"] 0 { } = pure [none] from rfl) ?_)
  refine wpAny_bind (hG.self ?_)
  refine wpAny_bind (wpAny_mkInt ?_)
  refine wpAny_bind (wpAny_pure ?_)
  simp only [List.forIn_cons, List.forIn_nil]
  refine wpAny_bind (wpAny_bind (wpAny_bind (wpAny_isInstance (T := "int") (b := false) (typeIs_int _ _ _) PySem.sub_int_str ?_)))
  simp only [Bool.false_eq_true, if_false]
  refine wpAny_pure (wpAny_bind (wpAny_bind (wpAny_isInstance (T := "int") (b := false) (typeIs_int _ _ _) PySem.sub_int_bytes ?_)))
  simp only [Bool.false_eq_true, if_false]
  refine wpAny_pure (wpAny_bind (wpAny_bind (wpAny_isInstance (T := "int") (b := false) (typeIs_int _ _ _) PySem.sub_int_bytearray ?_)))
  simp only [Bool.false_eq_true, if_false]
  refine wpAny_pure (wpAny_pure ?_)
  refine wpAny_bind (wpAny_newObj_type ?_)
  have O : OwnRec X H0 fp a s.heap.objs.size := hG.fresh
  refine wpAny_pure ⟨plainId_quiet F.plain_sum_loop _, sum_loop_gen hh hroom hpn hl O xs.length 0 _ s.toks 0 0 (.inl rfl) (Nat.sub_zero _) (Nat.zero_le _) (hG.own O hpn fun b o _ e => Heap.get?_push_of_some _ e) (Heap.get?_push_size _ rfl) fun s' t' I' => hQ s' t' I'⟩
end
end L2
namespace L2
open PySem PySem.Spec PyProof.Rows
section
variable {X : Cx} {elt : Expr} {x : Str} {px : Pos} {iter : Expr} {scope : Scope} {gpos p pos : Pos} {wi : TI} {te : TE} {c P : Addr}
theorem boot_sum' : bootBuiltins "sum" = some (.builtin "sum") := by decide +kernel
def tSumGen (P : Addr) (wi : TI) (te : TE) : TE := fun σ H Q => wi σ H fun J H1 => H1 P = some (tabO P) ∧ ∃ (xs : List V) (ns : List Int), ns.length = xs.length ∧ GenRd te J xs (ns.map V.int) H1 σ ∧ Q (.int ns.sum) H1
theorem gen_leave {pins : List (Addr × Obj)} {σ : St} {H1 : Hp} {s4 s' : Shared} {it : Addr} {fp : List Addr} {code : Value} (I4 : Inv X pins σ H1 s4) (f4 : ∀ b ∈ fp, FpOk X pins H1 b)
    (J : Inv (genX X elt x px iter scope gpos s4 H1 it fp code) [] (none :: σ) H1 s') : Inv X pins σ H1 s' :=
  I4.call' J.os J.base J.hok J.bare fun b hb => ⟨(f4 b hb).2.2.2.1, (f4 b hb).2.1, (f4 b hb).2.2.2.2.1, (f4 b hb).2.2.2.2.2⟩
theorem pe_sumGen (S : GenScope x X.N scope X.env.scope) (hd : X.A.handled = none) (hroom : X.A.depth < recursionLimit) (hcode : X.env.code = .ref c) (C : CodeOk X.base X.mg c P) (hg : Gl X "sum") (hm : X.mg "sum" = none) (hi : PI X (.Name x px) iter wi)
    (he : ∀ s H it fp code, PE (genX X elt x px iter scope gpos s H it fp code) elt te)
    (hs : ∀ v, genFold iter X.env v = pure v := by intro _; rfl) (hst : starEach [gexp elt x px iter scope gpos] X.env = [(false, eval (gexp elt x px iter scope gpos) X.env)] := by rfl) :
    PE X (.Call (.Name "sum" p) [gexp elt x px iter scope gpos] [] pos) (tSumGen P wi te) := by
  intro pins s σ H Q I h
  refine wpAny_Call_Name_kw (ld_blt I hg hm boot_sum' ?_ (by decide) (by decide))
  refine PyProof.Rows.callWith_builtin1 ?_ hst rfl
  rw [hst]
  refine Calls.spliced_cons ?_
  refine gen_make S hd hroom hcode C hi he hs I h fun s4 s5 J H1 it fp tn code a I4 f4 hR hG => ?_
  obtain ⟨xs, ns, hl, rd, q⟩ := hR
  refine Calls.spliced_nil ?_
  exact call_sum_gen (X := genX X elt x px iter scope gpos s4 H1 it fp code) hd hroom rfl hl (hG xs (ns.map V.int) rd) fun s' t' J' => ⟨.int ns.sum, H1, gen_leave I4 f4 J', ⟨t', rfl⟩, q⟩
theorem Room.gen {k : Nat} {X : Cx} (r : Room (k + 1) X.A) {it : Addr} {genv : Env} : Room k (genA X elt x px iter scope gpos it genv) := by
  refine ⟨r.hd, ?_, ?_, ?_⟩
  · have := r.dp
    show X.A.depth + 0 + 1 + 3 * k + 5 < _
    omega
  · have := r.un
    show X.A.units + 1 + 1 + 1 + 1 + 1 + 0 + 3 + 16 * k + 200 < _
    omega
  · have e := r.gd
    simp [genA, Around.over, pushGuards, Code.guards, Code.isGuard, guardsOf, e]
end
end L2
set_option Elab.async false
set_option linter.all false
set_option maxRecDepth 100000
namespace L2
open PySem PySem.Spec PyProof.Rows
abbrev Tabs := List (Addr × Addr)
def OnlyT (tabs : Tabs) (H : Hp) : Prop := (∀ b, H b = none ∨ (∃ o xs, H b = some (.frz o (.lst xs))) ∨ (b ∈ tabs.map (·.2) ∧ H b = some (tabO b))) ∧ ∀ q ∈ tabs, H q.2 = some (tabO q.2)
theorem OnlyT.ndt {tabs : Tabs} {H : Hp} (h : OnlyT tabs H) : ∀ b o, H b = some o → noDT o := fun b o e => by
  rcases h.1 b with z | ⟨ob, xs, z⟩ | ⟨_, z⟩
  · rw [e] at z; cases z
  · rw [e] at z; cases z; trivial
  · rw [e] at z; cases z; trivial
theorem law_callT {P : Program} {w : World} {K : PySem.W.Frag} {mg mb : Str → Option Value} {CX : CXT} {k : Nat} {fa a : Addr} {fd : FuncData} {x : Str} {sp : Sp} {s₁ : Shared} {vs : List Value} {ns : List Int} {tabs : Tabs}
    (KX : K.In s₁.heap) (hns : s₁.heap.Ns mainGlobals mg) (hb : s₁.heap.Ns builtinsNs mb) (hbb : ∀ x : Str, x ≠ "__name__" → mb x = bootBuiltins x) (hlim : s₁.heap.NoLimit) (hg : s₁.gens = #[])
    (hT : PySem.W.TabsAt tabs s₁.heap) (hNT : PySem.W.noTabs K = true)
    (hbm : ∃ bm o, mg "__builtins__" = some (.ref bm) ∧ bm ≠ builtinsNs ∧ s₁.heap.get? bm = some o ∧ o.cls = .type "module" ∧ o.dict = some builtinsNs ∧ o.data = .plain)
    (ha : s₁.heap.get? a = some { cls := .type "list", data := .seq vs.toArray }) (hi : IntsAre vs ns) (hl : ns.length ≤ sizeLine) (hr : Room k callerA)
    (F : ∀ base : Heap, K.In base → base.Ns mainGlobals mg → (∀ q ∈ tabs, CodeOk base mg q.1 q.2) → FnOk P w K mg base CX k fa fd [x] sp) (hbind : ∀ (s : Shared) (u : Value), BindsTo s fd ⟨[u], []⟩ [(x, u)])
    (hsp : ∀ H : Hp, OnlyT tabs H → SqL K H a (ns.map V.int) → sp [.ref a] H (fun v H' => v = .bl true ∧ Sm H H') fun _ _ _ => False)
    (hCX : ∀ H e s', CX [] H s₁ (fun _ _ _ => False) e s' → False) :
    codeAny (model P w) callerA (.call (.ref fa) ⟨[.ref a], []⟩) (fun r s' => r = .ok (.ret (.bool true)) ∧ OldK s₁.heap s'.heap ∧ s'.os = s₁.os ∧ AllBare s'.gens) s₁ := by
  have rv := vals_ints hi
  have lenV := hi.length
  have tabAt : ∀ b, b ∈ tabs.map (·.2) → s₁.heap.get? b = some (PySem.W.tabObj #[]) := fun b hb => by
    obtain ⟨q, hq, rfl⟩ := List.mem_map.mp hb
    exact (hT q hq).2
  have aNot : a ∉ tabs.map (·.2) := fun h => by
    have q := tabAt a h
    rw [ha] at q
    cases q
  have core : ∀ H : Hp, OnlyT tabs H → SqL K H a (ns.map V.int) → HOk P w H s₁.heap → (∀ b, H b ≠ none → b = a ∨ b ∈ tabs.map (·.2)) → (H a ≠ none → K.lookup a = none) →
      codeAny (model P w) callerA (.call (.ref fa) ⟨[.ref a], []⟩) (fun r s' => r = .ok (.ret (.bool true)) ∧ OldK s₁.heap s'.heap ∧ s'.os = s₁.os ∧ AllBare s'.gens) s₁ := by
    intro H hO hS hok hA hK
    have base_of : ∀ {b : Addr} {o : Obj}, s₁.heap.get? b = some o → H b = none → (hidT s₁.heap H).get? b = some o := fun e n => hidT_get e n
    have other : ∀ {b : Addr} {o : Obj}, s₁.heap.get? b = some o → o ≠ { cls := .type "list", data := .seq vs.toArray } → o ≠ PySem.W.tabObj #[] → H b = none := fun {b o} e d1 d2 => by
      cases q : H b with
      | none => rfl
      | some u =>
        rcases hA b (by rw [q]; simp) with e' | e'
        · subst e'
          rw [ha] at e
          exact absurd (Option.some.inj e).symm d1
        · rw [tabAt b e'] at e
          exact absurd (Option.some.inj e).symm d2
    have nsK : ∀ {b : Addr} {m : Str → Option Value}, s₁.heap.Ns b m → (hidT s₁.heap H).Ns b m := fun {b m} ⟨o, es, ep, e, d, r⟩ => ⟨o, es, ep, base_of e (other e (fun z => by rw [z] at d; cases d) (fun z => by rw [z] at d; cases d)), d, r⟩
    have hKb : K.In (hidT s₁.heap H) := fun b o e => base_of (KX b o e) (by
      cases q : H b with
      | none => rfl
      | some u =>
        rcases hA b (by rw [q]; simp) with e' | e'
        · subst e'
          rw [hK (by rw [q]; simp)] at e; cases e
        · have z := KX b o e
          rw [tabAt b e'] at z
          have h2 := List.all_eq_true.mp hNT (b, o) (PySem.W.mem_of_lookupK e)
          cases z
          exact absurd (show false = true from h2) Bool.false_ne_true)
    have hM : Mod K mg (hidT s₁.heap H) := ⟨hKb, nsK hns, ⟨mb, nsK hb, hbb⟩, let ⟨mc, h1, h2⟩ := hlim; ⟨mc, nsK h1, h2⟩⟩
    have hC : ∀ q ∈ tabs, CodeOk (hidT s₁.heap H) mg q.1 q.2 := fun q hq => by
      refine ⟨?_, ?_⟩
      · obtain ⟨o, vs', file, tf, flags, tg, inF, text, tt, e1, r1, r2, r3⟩ := (hT q hq).1
        exact ⟨o, vs', file, tf, flags, tg, inF, text, tt, base_of e1 (other e1 (fun z => by rw [z] at r2; cases r2) (fun z => by rw [z] at r1; cases r1)), r1, r2, r3⟩
      · obtain ⟨bm, ob, b1, b2, b3, b4, b5, b6⟩ := hbm
        exact ⟨bm, ob, b1, b2, base_of b3 (other b3 (fun z => by rw [z] at b6; cases b6) (fun z => by rw [z] at b6; cases b6)), b4, b5, b6⟩
    have e0 : Env0 P w K mg (hidT s₁.heap H) callerA [] s₁ H := ⟨rfl, hM, fun b o e => of_hidT e, Nat.le_of_eq (hidT_size _ _), trivial, fun b hb => absurd (show b ∈ ([] : List Addr) from hb) (by simp), hok, .of_eq hg⟩
    refine codeAny_mono ((F _ hKb (nsK hns) hC).run callerA [] s₁ H ⟨[.ref a], []⟩ [.ref a] [.ref a] _ _ hr e0 (hbind s₁ (.ref a)) (.cons rfl .nil) (hsp H hO hS)) fun r s' h => ?_
    cases r with
    | error e => exact (hCX H e s' h).elim
    | ok fl =>
      cases fl with
      | next => exact False.elim h
      | brk => exact False.elim h
      | cont => exact False.elim h
      | ret u =>
        obtain ⟨v, H', os, bare, un, hok', r', q, sm⟩ := h
        have q' : v = .bl true := q
        subst q'
        obtain rfl : u = Value.bool true := r'
        have tab' : ∀ b, b ∈ tabs.map (·.2) → ∃ ps, s'.heap.get? b = some (PySem.W.tabObj ps) := fun b hb => by
          obtain ⟨q, hq, rfl⟩ := List.mem_map.mp hb
          obtain ⟨⟨ps, hp, _⟩, _⟩ := hok' _ _ (sm _ _ (hO.2 q hq))
          exact ⟨ps, hp⟩
        refine ⟨rfl, ⟨fun b o e => ?_, fun b o e => ?_⟩, os, bare⟩
        · rcases hO.1 b with z | ⟨ob, xs, z⟩ | ⟨hb, z⟩
          · exact .inl (un.keep b o e z (by intro z; exact absurd (show b ∈ ([] : List Addr) from z) (by simp)) (by simp))
          · have z2 := un.frzs b ob _ z
            obtain ⟨e1, _⟩ := hok b _ z
            obtain ⟨e2, _⟩ := hok' b _ z2
            rw [e] at e1; cases e1
            exact .inl e2
          · obtain ⟨ps, hp⟩ := tab' b hb
            have e1 := tabAt b hb
            rw [e] at e1; cases e1
            obtain ⟨q, hq, rfl⟩ := List.mem_map.mp hb
            exact .inr (.inl ⟨((hT q hq).1.tab (hT q hq).2).isCodeTable, rfl, #[], ps, rfl, by rw [hp]; simp⟩)
        · rcases hO.1 b with z | ⟨ob, xs, z⟩ | ⟨hb, z⟩
          · exact ⟨o, un.keep b o e z (by intro z; exact absurd (show b ∈ ([] : List Addr) from z) (by simp)) (by simp)⟩
          · obtain ⟨e2, _⟩ := hok' b _ (un.frzs b ob _ z)
            exact ⟨_, e2⟩
          · obtain ⟨ps, hp⟩ := tab' b hb
            exact ⟨_, hp⟩
  have tabOk : ∀ (H : Hp) b, b ∈ tabs.map (·.2) → ObjOk P w H s₁.heap b (tabO b) := fun H b hb =>
    ⟨⟨#[], tabAt b hb, trivial⟩, ⟨_, tabAt b hb⟩, fun h1 h2 ⟨ps', q1, q3⟩ k => ⟨ps', k _ q1, q3⟩⟩
  cases hk : K.lookup a with
  | some o =>
    have e := KX a o hk
    rw [ha] at e
    cases e
    refine core (fun b => if b ∈ tabs.map (·.2) then some (tabO b) else none) ⟨fun b => ?_, fun q hq => if_pos (List.mem_map_of_mem hq)⟩ (.inr ⟨_, vs.toArray, _, hk, rfl, rfl, rfl, by rw [List.size_toArray, lenV]; exact hl, by simpa using rv⟩) (fun b u z => ?_) (fun b z => ?_) fun z => absurd (if_neg aNot) z
    · by_cases h : b ∈ tabs.map (·.2)
      · exact .inr (.inr ⟨h, if_pos h⟩)
      · exact .inl (if_neg h)
    · by_cases h : b ∈ tabs.map (·.2)
      · have z' := (if_pos h).symm.trans z
        cases z'
        exact tabOk _ b h
      · have z' := (if_neg h).symm.trans z
        cases z'
    · by_cases h : b ∈ tabs.map (·.2)
      · exact .inr h
      · exact absurd (if_neg h) z
  | none =>
    refine core (fun b => if b = a then some (.frz { cls := .type "list", data := .seq vs.toArray } (.lst (ns.map V.int))) else if b ∈ tabs.map (·.2) then some (tabO b) else none) ⟨fun b => ?_, fun q hq => ?_⟩ (.inl (.inr ⟨{ cls := .type "list", data := .seq vs.toArray }, if_pos rfl⟩)) (fun b u z => ?_) (fun b z => ?_) fun _ => hk
    · by_cases hb : b = a
      · exact .inr (.inl ⟨_, _, if_pos hb⟩)
      · by_cases h : b ∈ tabs.map (·.2)
        · exact .inr (.inr ⟨h, (if_neg hb).trans (if_pos h)⟩)
        · exact .inl ((if_neg hb).trans (if_neg h))
    · have h : q.2 ∈ tabs.map (·.2) := List.mem_map_of_mem hq
      have hb : q.2 ≠ a := fun z => aNot (z ▸ h)
      exact (if_neg hb).trans (if_pos h)
    · by_cases hb : b = a
      · have z' := (if_pos hb).symm.trans z
        cases z'
        subst hb
        exact ⟨ha, by rw [List.length_map]; exact hl, vs, _, rv, ha⟩
      · by_cases h : b ∈ tabs.map (·.2)
        · have z' := ((if_neg hb).trans (if_pos h)).symm.trans z
          cases z'
          exact tabOk _ b h
        · have z' := ((if_neg hb).trans (if_neg h)).symm.trans z
          cases z'
    · by_cases hb : b = a
      · exact .inl hb
      · by_cases h : b ∈ tabs.map (·.2)
        · exact .inr h
        · exact absurd ((if_neg hb).trans (if_neg h)) z
theorem walk_ofT {l : PySem.W.OpenLaw} {n k : Nat} {q : Program} {loose : List Str} {XP : (Str → Option Value) → Heap → Prop} {YP : World → Heap → Prop} {d : DefRec} {K : Params → PySem.W.Frag} {CX : World → CXT} {sp : World → Sp} {x : Str} {tabs : World → Tabs}
    (hn : l.most = some n) (hn2 : n ≤ sizeLine) (hdf : d.params.defaults = []) (hr : Room k callerA)
    (hY : ∀ (w : World) (h : Heap), YP w h → (K w.params).In h) (hNT : ∀ w : World, PySem.W.noTabs (K w.params) = true)
    (hTab : ∀ (w : World) (h : Heap) (lo : List Str) (mean : ExcName → Option Value) (mg mb : Str → Option Value), Top q lo mean mg mb h → (K w.params).In h → PySem.W.TabsAt (tabs w) h)
    (F : ∀ (w : World) (mg : Str → Option Value) (fa : Addr) (h : Heap), (K w.params).In h → h.Ns mainGlobals mg → mg d.name = some (.ref fa) →
      ∃ fd : FuncData, (∀ (s : Shared) (u : Value), BindsTo s fd ⟨[u], []⟩ [(x, u)]) ∧
        ∀ base : Heap, (K w.params).In base → base.Ns mainGlobals mg → (∀ q ∈ tabs w, CodeOk base mg q.1 q.2) → FnOk l.prog w (K w.params) mg base (CX w) k fa fd [x] (sp w))
    (hsp : ∀ (w : World) (H : Hp) (a : Addr) (ns : List Int), ns.length ≤ n → OnlyT (tabs w) H → SqL (K w.params) H a (ns.map V.int) → sp w [.ref a] H (fun v H' => v = .bl true ∧ Sm H H') fun _ _ _ => False)
    (hCX : ∀ (w : World) (H : Hp) (s : Shared) (e : Value) (s' : Shared), CX w [] H s (fun _ _ _ => False) e s' → False) :
    PySem.W.WalkO q loose XP YP l.row.toRowW d [] (fun f vs => PySem.call f vs) := by
  refine Att.attach_call hn hdf fun w s₀ s₁ mg mb fa o pm cd doc a vs ns G Y ho hd hcd hmg hobj hints hlen hg => ?_
  have KX := hY w _ Y
  obtain ⟨fd, hb, hF⟩ := F w mg fa _ KX G.T.g hmg
  exact law_callT KX G.T.g G.T.b G.T.builtins G.T.nolimit hg (hTab w _ _ _ mg mb G.T KX) (hNT w) G.T.bmain hobj hints (Nat.le_trans hlen hn2) hr hF hb (fun H hO hS => hsp w H a ns hlen hO hS) fun H e s' => hCX w H s₁ e s'
def tabsOf (K : PySem.W.Frag) (xs : List Str) : Tabs := xs.filterMap fun x => PySem.W.tabIn K x
theorem tabs_at {p : Program} {K : PySem.W.Frag} {loose : List Str} {mean : ExcName → Option Value} {mg mb : Str → Option Value} {h : Heap} {xs : List Str} (T : Top p loose mean mg mb h) (X : K.In h)
    (hx : ∀ x ∈ xs, ((recsOf p).find? (fun e => e.name == x)).isSome = true) : PySem.W.TabsAt (tabsOf K xs) h := fun q hq => by
  obtain ⟨x, hm, e⟩ := List.mem_filterMap.mp hq
  obtain ⟨d, hd⟩ := Option.isSome_iff_exists.mp (hx x hm)
  exact PySem.W.tab_of T X hd e
theorem tabs_mem {K : PySem.W.Frag} {xs : List Str} {x : Str} {c P : Addr} (h : x ∈ xs) (e : PySem.W.tabIn K x = some (c, P)) : (c, P) ∈ tabsOf K xs := List.mem_filterMap.mpr ⟨x, h, e⟩
end L2
set_option Elab.async false
set_option linter.all false
set_option maxRecDepth 100000
namespace L2
open PySem PySem.Spec PyProof.Rows
structure Wk (prog : Program) (w : World) (A : Around) (I S : Addr) (n : Nat) (Pv : Nat → Value → Prop) (St : Nat → Shared → Prop) (Fin : Shared → Prop) : Prop where
  item : ∀ (i : Nat) (s : Shared) (Q : Option Value → Shared → Prop) (E : Value → Shared → Prop), i < n → St i s →
    (∀ v s', Pv i v → St (i + 1) s' → (∀ o : Obj, (∀ c, o.data ≠ .cell c) → s.heap.get? S = some o → s'.heap.get? S = some o) → Q (some v) s') → wpAny (model prog w) A (pyNext (.ref I)) Q E s
  done : ∀ (s : Shared) (Q : Option Value → Shared → Prop) (E : Value → Shared → Prop), St n s →
    (∀ s', Fin s' → (∀ o : Obj, (∀ c, o.data ≠ .cell c) → s.heap.get? S = some o → s'.heap.get? S = some o) → Q none s') → wpAny (model prog w) A (pyNext (.ref I)) Q E s
  self : ∀ (i : Nat) (s : Shared) (Q : Value → Shared → Prop) (E : Value → Shared → Prop), St i s → Q (.ref I) s → wpAny (model prog w) A (pyIter (.ref I)) Q E s
  own : ∀ (i : Nat) (s : Shared) (h' : Heap) (t : Nat), St i s → h'.objs.size = s.heap.objs.size → (∀ b o, b ≠ S → s.heap.get? b = some o → h'.get? b = some o) → St i { s with heap := h', toks := t }
abbrev lstObj (acc : Array Value) (c : Nat) : Obj := { cls := .type "list", dict := none, data := .seq acc c, slots := #[] }
section
variable {prog : Program} {w : World} {A : Around} {R : Result → Shared → Prop} {I S : Addr} {n : Nat} {Pv : Nat → Value → Prop} {St : Nat → Shared → Prop} {Fin : Shared → Prop}
theorem extend_loop (W : Wk prog w A.in1 I S n Pv St Fin) (hn : n ≤ sizeLine) (res : Value) :
    ∀ (k i : Nat) (s : Shared) (acc : Array Value) (c : Nat), n - i = k → i ≤ n → St i s → s.heap.get? S = some (lstObj acc c) → ItemsOf Pv acc i →
    (∀ s' acc' c', Fin s' → s'.heap.get? S = some (lstObj acc' c') → ItemsOf Pv acc' n → R (.ok (.ret res)) s') →
    codeAny (model prog w) A (.builtin "list.extend.loop" ⟨[.ref S, .ref I, res], []⟩) R s := by
  intro k
  induction k with
  | zero =>
    intro i s acc c hk hi hst hS hacc hR
    have hin : i = n := by omega
    subst hin
    refine codeAny_builtin F.entry_extend_loop ?_
    rw [Around.under_plainId F.plain_extend_loop _]
    show wpAny _ A.in1 (pyNext (.ref I) >>= _) _ _ s
    refine wpAny_bind (W.done s _ _ hst fun s' hm hk' => ?_)
    exact wpAny_pure (hR s' acc c hm (hk' (lstObj acc c) (fun _ z => by cases z) hS) hacc)
  | succ k ih =>
    intro i s acc c hk hi hst hS hacc hR
    have hlt : i < n := by omega
    refine codeAny_builtin F.entry_extend_loop ?_
    rw [Around.under_plainId F.plain_extend_loop _]
    show wpAny _ A.in1 (pyNext (.ref I) >>= _) _ _ s
    refine wpAny_bind (W.item i s _ _ hlt hst fun v s' hP hst' hk' => ?_)
    have hS' := hk' (lstObj acc c) (fun _ z => by cases z) hS
    show wpAny _ A.in1 (updateSeq S (·.push v) >>= _) _ _ _
    refine wpAny_bind ?_
    refine wpAny_updateSeq hS' rfl (wpAny_pure ⟨plainId_quiet F.plain_extend_loop _, ih (i + 1) _ (acc.push v) _ (by omega) hlt (W.own _ s' _ s'.toks hst' (Heap.SameBut.update ..).1 fun b o hb e => (Heap.get?_update_other _ _ (Ne.symm hb)).trans e) (Heap.get?_update_self _ hS' rfl) (hacc.push hP) hR⟩)
      (by rw [hacc.1]; omega) (by show (acc.push v).size ≤ sizeLine + 1; rw [Array.size_push, hacc.1]; omega)
theorem extend_wk {T : String} (W : Wk prog w A.in1 I S n Pv St Fin) (hn : n ≤ sizeLine) (hSI : S ≠ I) (s : Shared) (hT : s.TypeIs (.ref I) T) (hl : (Value.type T == Value.type "list") = false) (ht : (Value.type T == Value.type "tuple") = false)
    (nl : typeLookup (.type T) "__len__" = pure none) (nh : typeLookup (.type T) "__length_hint__" = pure none) (res : Value) (c : Nat) (hst : St 0 s) (hS : s.heap.get? S = some (lstObj #[] c))
    (hR : ∀ s' acc' c', Fin s' → s'.heap.get? S = some (lstObj acc' c') → ItemsOf Pv acc' n → R (.ok (.ret res)) s') :
    wpAny (model prog w) A.in1 (Builtin.List.listExtendWith (.ref S) (.ref I) res)
      (fun fin s' => match fin with | .done f => R (.ok f) s' | .again c' => c'.quiet = true ∧ codeAny (model prog w) A c' R s') (fun e s' => R (.error e) s') s := by
  unfold Builtin.List.listExtendWith
  refine wpAny_bind (wpAny_typeOf hT ?_)
  have h1 : Builtin.List.listSameRef (.ref S) (.ref I) = false := by simp [Builtin.List.listSameRef, hSI]
  simp only [h1, hl, ht, Bool.or_false, Bool.false_eq_true, if_false]
  refine wpAny_bind (W.self 0 _ _ _ hst ?_)
  refine wpAny_bind (wpAny_holding ?_)
  unfold Builtin.List.listLengthHint
  refine wpAny_bind (wpAny_specialOf hT nl ?_)
  show wpAny _ A.in1 (specialOf (Value.ref I) (Str.ofString "__length_hint__") >>= _) _ _ _
  refine wpAny_bind (wpAny_specialOf hT nh ?_)
  refine wpAny_pure ?_
  show wpAny _ A.in1 (rule "list.extend.makes-room" >>= fun _ => Builtin.List.listTouch (.ref S) >>= fun _ =>
    again (.builtin "list.extend.loop" ⟨[.ref S, .ref I, res], []⟩)) _ _ _
  refine wpAny_bind (wpAny_rule ?_)
  refine wpAny_bind ?_
  show wpAny _ A.in1 (updateSeq S (·.push .none) >>= fun _ => updateSeq S (·.pop)) _ _ _
  refine wpAny_bind (wpAny_updateSeq hS rfl ?_)
  have hS₂ := Heap.get?_update_self (Obj.mapSeq (·.push Value.none)) hS rfl
  refine wpAny_updateSeq (hz := by seq_fits) hS₂ rfl ?_
  have hS₃ := Heap.get?_update_self (Obj.mapSeq (·.pop)) hS₂ rfl
  have oth : ∀ b o, b ≠ S → s.heap.get? b = some o → ((s.heap.update S (Obj.mapSeq (·.push Value.none))).update S (Obj.mapSeq (·.pop))).get? b = some o :=
    fun b o hb e => (Heap.get?_update_other _ _ (Ne.symm hb)).trans ((Heap.get?_update_other _ _ (Ne.symm hb)).trans e)
  refine wpAny_pure ⟨plainId_quiet F.plain_extend_loop _, extend_loop W hn res n 0 _ _ _ (Nat.sub_zero _) (Nat.zero_le _)
    (W.own 0 s _ s.toks hst ((Heap.SameBut.update ..).1.trans (Heap.SameBut.update ..).1) oth) hS₃ (ItemsOf.nil Pv) hR⟩
end
theorem call_list_wk {prog : Program} {w : World} {A : Around} {E : Value → Shared → Prop} {s : Shared} {I : Addr} {n : Nat} {Pv : Nat → Value → Prop} {St : Nat → Shared → Prop} {Fin : Shared → Prop} {Q : Value → Shared → Prop} {T : String}
    (W : Wk prog w A.in1.in1 I s.heap.objs.size n Pv St Fin) (hn : n ≤ sizeLine) (hT : s.TypeIs (.ref I) T) (hl : (Value.type T == Value.type "list") = false) (ht : (Value.type T == Value.type "tuple") = false)
    (nl : typeLookup (.type T) "__len__" = pure none) (nh : typeLookup (.type T) "__length_hint__" = pure none) (hst : St 0 { s with heap := s.heap.push { cls := .type "list", data := .seq #[] } })
    (hQ : ∀ s' acc' c', Fin s' → s'.heap.get? s.heap.objs.size = some (lstObj acc' c') → ItemsOf Pv acc' n → Q (.ref s.heap.objs.size) s') :
    wpAny (model prog w) A (call (.type "list") [.ref I]) Q E s := by
  obtain ⟨oI, hoI, hcI⟩ := hT
  have hSI : s.heap.objs.size ≠ I := Nat.ne_of_gt (Heap.lt_size hoI)
  refine callType_codes (Q₁ := fun obj s₁ => obj = .ref s.heap.objs.size ∧ s₁ = { s with heap := s.heap.push { cls := .type "list", data := .seq #[] } }) F.called_list (F.typeCall_list_1 _) F.entry_list_init
    (code_list_new _ ⟨rfl, rfl⟩) fun obj s₁ h₁ => ?_
  obtain ⟨rfl, rfl⟩ := h₁
  have hS : (s.heap.push { cls := .type "list", data := .seq #[] }).get? s.heap.objs.size = some { cls := .type "list", data := .seq #[] } := Heap.get?_push_size _ rfl
  refine ⟨⟨_, hS, rfl⟩, F.args_list_init_2 _ _, ?_⟩
  show wpAny _ A.in1.in1 (do let old ← Builtin.List.listItems (.ref s.heap.objs.size); Builtin.List.listUpdate (.ref s.heap.objs.size) (fun _ => #[]); letGo old.toList.reverse; Builtin.List.listExtendWith (.ref s.heap.objs.size) (.ref I) .none) _ _ _
  refine wpAny_bind ?_
  unfold Builtin.List.listItems
  refine wpAny_bind (wpAny_seqItems hS rfl (wpAny_pure ?_))
  show wpAny _ A.in1.in1 (updateSeq s.heap.objs.size (fun _ => #[]) >>= fun _ => letGo (#[] : Array Value).toList.reverse >>= fun _ => Builtin.List.listExtendWith (.ref s.heap.objs.size) (.ref I) .none) _ _ _
  refine wpAny_bind (wpAny_updateSeq hS rfl ?_)
  have hS₂ := Heap.get?_update_self (Obj.mapSeq (fun _ => (#[] : Array Value))) hS rfl
  have oth : ∀ b o, b ≠ s.heap.objs.size → (s.heap.push { cls := .type "list", data := .seq #[] }).get? b = some o → ((s.heap.push { cls := .type "list", data := .seq #[] }).update s.heap.objs.size (Obj.mapSeq (fun _ => (#[] : Array Value)))).get? b = some o :=
    fun b o hb e => (Heap.get?_update_other _ _ (Ne.symm hb)).trans e
  refine wpAny_bind (wpAny_letGo ?_)
  refine extend_wk (A := A.in1) (R := wants (fun r s₂ => r = .none ∧ Q (.ref s.heap.objs.size) s₂) E) W hn hSI _ ⟨oI, oth _ _ (Ne.symm hSI) (Heap.get?_push_of_some _ hoI), hcI⟩ hl ht nl nh .none _ (W.own 0 _ _ s.toks hst (Heap.SameBut.update ..).1 oth) hS₂ fun s' acc' c' hf hS' hacc => ⟨rfl, hQ s' acc' c' hf hS' hacc⟩
theorem wpAny_alive {M : Model} {A : Around} {E : Value → Shared → Prop} {s : Shared} {a : Addr} {Q : Option Obj → Shared → Prop} (h : Q (s.heap.get? a) s) : wpAny M A (loadIfAlive a) Q E s := fun _ _ _ => h
def EnumG (h : Heap) (e it : Addr) (i : Nat) : Prop := ∃ f0 f1 old, h.get? e = some { cls := .type "enumerate", dict := none, data := .fields #[f0, f1, .ref it, rawInt i, .none, old], slots := #[] } ∧ (f0 = .none ∨ ∃ a : Int, f0 = rawInt a)
theorem enum_next {prog : Program} {w : World} {A : Around} {E : Value → Shared → Prop} {s : Shared} {e it l : Addr} {i : Nat} {items : Array Value} {x : Value} {Q : Value → Shared → Prop}
    (he : EnumG s.heap e it i) (hit : s.heap.IsListIter it l i) (hl : s.heap.IsList l items) (hx : items[i]? = some x) (hne : e ≠ it)
    (hQ : ∀ h', EnumG h' e it (i + 1) → h'.IsListIter it l (i + 1) → h'.get? s.heap.objs.size = some { cls := .type "tuple", data := .seq #[.int i s.toks, x] } → h'.objs.size = s.heap.objs.size + 1 →
      (∀ b o, b ≠ e → b ≠ it → s.heap.get? b = some o → h'.get? b = some o) → Q (.ref s.heap.objs.size) { s with heap := h', toks := s.toks + 1 }) :
    wpAny (model prog w) A (Builtin.«enumerate.__next__» ⟨[.ref e], []⟩) (fun fin s' => ∃ v, fin = .done (.ret v) ∧ Q v s') E s := by
  obtain ⟨hp, g, d, tk, os⟩ := s
  obtain ⟨f0, f1, old, he, hf0⟩ := he
  show wpAny _ _ (field (.ref e) 2 >>= _) _ _ _
  refine wpAny_bind (wpAny_field he rfl (x := .ref it) rfl ?_)
  refine wpAny_bind (wpAny_nextOf_list_item hit hl hx fun h₁ hit₁ hs₁ => ?_)
  replace hs₁ : Heap.SameBut it hp h₁ := hs₁
  have he₁ := (hs₁.2 e hne).trans he
  show wpAny _ _ (field (.ref e) 3 >>= _) _ _ ⟨h₁, g, d, tk, os⟩
  refine wpAny_bind (wpAny_field he₁ rfl (x := rawInt i) rfl ?_)
  show wpAny _ _ (field (.ref e) 4 >>= _) _ _ ⟨h₁, g, d, tk, os⟩
  refine wpAny_bind (wpAny_field he₁ rfl (x := .none) rfl ?_)
  show wpAny _ _ (mkInt i >>= _) _ _ ⟨h₁, g, d, tk, os⟩
  refine wpAny_bind (wpAny_mkInt ?_)
  show wpAny _ _ (setField (.ref e) 3 (rawInt ((i : Int) + 1)) >>= _) _ _ ⟨h₁, g, d, tk + 1, os⟩
  refine wpAny_bind (wpAny_setField_rec he₁ (by simp) fun h₂ he₂ hs₂ => ?_)
  replace hs₂ : Heap.SameBut e h₁ h₂ := hs₂
  replace he₂ : h₂.get? e = some { cls := .type "enumerate", dict := none, data := .fields #[f0, f1, .ref it, rawInt ((i : Int) + 1), .none, old], slots := #[] } := he₂
  show wpAny _ _ (setField (.ref e) 4 .none >>= _) _ _ ⟨h₂, g, d, tk + 1, os⟩
  refine wpAny_bind (wpAny_setField_rec he₂ (by simp) fun h₃ he₃ hs₃ => ?_)
  replace hs₃ : Heap.SameBut e h₂ h₃ := hs₃
  replace he₃ : h₃.get? e = some { cls := .type "enumerate", dict := none, data := .fields #[f0, f1, .ref it, rawInt ((i : Int) + 1), .none, old], slots := #[] } := he₃
  show wpAny _ _ (newTuple [.int i tk, x] >>= _) _ _ ⟨h₃, g, d, tk + 1, os⟩
  refine wpAny_bind (wpAny_newTuple ?_)
  have he₄ : (h₃.push { cls := .type "tuple", data := .seq #[.int i tk, x] }).get? e = some { cls := .type "enumerate", dict := none, data := .fields #[f0, f1, .ref it, rawInt ((i : Int) + 1), .none, old], slots := #[] } := Heap.get?_push_of_some _ he₃
  generalize hh₄ : h₃.push { cls := .type "tuple", data := .seq #[.int i tk, x] } = h₄ at he₄
  have hsz : h₃.objs.size = hp.objs.size := by rw [hs₃.1, hs₂.1, hs₁.1]
  have hel : e < hp.objs.size := Heap.lt_size he
  have ht₄ : h₄.get? hp.objs.size = some { cls := .type "tuple", data := .seq #[.int i tk, x] } := by rw [← hh₄, ← hsz]; exact Heap.get?_push_size _ rfl
  have hz₄ : h₄.objs.size = hp.objs.size + 1 := by rw [← hh₄, Heap.size_push, hsz]
  have hk₄ : ∀ b o, b ≠ e → b ≠ it → hp.get? b = some o → h₄.get? b = some o := fun b o hbe hbi hb => by
    rw [← hh₄]; exact Heap.get?_push_of_some _ (hs₃.extBut b o hbe (hs₂.extBut b o hbe (hs₁.extBut b o hbi hb)))
  have hit₄ : h₄.IsListIter it l (i + 1) := by
    rw [← hh₄]; obtain ⟨o, ho, r⟩ := (hit₁.extBut hs₂.extBut (Ne.symm hne)).extBut hs₃.extBut (Ne.symm hne); exact ⟨o, Heap.get?_push_of_some _ ho, r⟩
  -- whatever is noted of the tuple handed out, e alone changes
  have fin : ∀ (h₅ : Heap) (f0 f1 old : Value), (f0 = .none ∨ ∃ a : Int, f0 = rawInt a) → h₅.get? e = some { cls := .type "enumerate", dict := none, data := .fields #[f0, f1, .ref it, rawInt ((i : Int) + 1), .none, old], slots := #[] } → Heap.SameBut e h₄ h₅ →
      Q (.ref hp.objs.size) ⟨h₅, g, d, tk + 1, os⟩ := fun h₅ f0 f1 old hf he₅ hs₅ =>
    hQ h₅ ⟨f0, f1, old, he₅, hf⟩ (hit₄.extBut hs₅.extBut (Ne.symm hne)) (hs₅.extBut _ _ (Nat.ne_of_gt hel) ht₄) (by rw [hs₅.1, hz₄]) fun b o hbe hbi hb => hs₅.extBut b o hbe (hk₄ b o hbe hbi hb)
  have trans : ∀ {h₅ h₆ : Heap}, Heap.SameBut e h₄ h₅ → Heap.SameBut e h₅ h₆ → Heap.SameBut e h₄ h₆ := fun a b => ⟨b.1.trans a.1, fun c hc => (b.2 c hc).trans (a.2 c hc)⟩
  show wpAny _ _ (Builtin.SmallTypes.ownedTupleIsFree (.ref e) >>= _) _ _ ⟨h₄, g, d, tk + 1, os⟩
  rw [hsz]
  clear hh₄ he₃ hs₃ he₂ hs₂ he₁ hs₁ hit₁ hsz h₃ h₂ h₁
  have free : wpAny (model prog w) A (do
        rule "enumerate.__next__.owned-tuple-again"
        let old ← field (.ref e) 5
        setField (.ref e) 5 x
        Builtin.SmallTypes.ownedTupleHandOut (.ref e) (.ref hp.objs.size)
        letGo [old] [.ref hp.objs.size]
        ret (.ref hp.objs.size)) (fun fin s' => ∃ v, fin = .done (.ret v) ∧ Q v s') E ⟨h₄, g, d, tk + 1, os⟩ := by
    refine wpAny_bind (wpAny_rule ?_)
    refine wpAny_bind (wpAny_field he₄ rfl (x := old) rfl ?_)
    refine wpAny_bind (wpAny_setField_rec he₄ (by simp) fun h₅ he₅ hs₅ => ?_)
    replace hs₅ : Heap.SameBut e h₄ h₅ := hs₅
    replace he₅ : h₅.get? e = some { cls := .type "enumerate", dict := none, data := .fields #[f0, f1, .ref it, rawInt ((i : Int) + 1), .none, x], slots := #[] } := he₅
    show wpAny _ _ (Builtin.SmallTypes.ownedTupleHandOut (.ref e) (.ref hp.objs.size) >>= _) _ _ ⟨h₅, g, d, tk + 1, os⟩
    refine wpAny_bind ?_
    unfold Builtin.SmallTypes.ownedTupleHandOut
    refine wpAny_bind (wpAny_setField_rec he₅ (by simp) fun h₆ he₆ hs₆ => ?_)
    replace hs₆ : Heap.SameBut e h₅ h₆ := hs₆
    replace he₆ : h₆.get? e = some { cls := .type "enumerate", dict := none, data := .fields #[rawInt hp.objs.size, f1, .ref it, rawInt ((i : Int) + 1), .none, x], slots := #[] } := he₆
    refine wpAny_setField_rec he₆ (by simp) fun h₇ he₇ hs₇ => ?_
    replace hs₇ : Heap.SameBut e h₆ h₇ := hs₇
    replace he₇ : h₇.get? e = some { cls := .type "enumerate", dict := none, data := .fields #[rawInt hp.objs.size, .bool false, .ref it, rawInt ((i : Int) + 1), .none, x], slots := #[] } := he₇
    exact wpAny_bind (wpAny_letGo (wpAny_pure ⟨_, rfl, fin h₇ _ _ _ (.inr ⟨_, rfl⟩) he₇ (trans (trans hs₅ hs₆) hs₇)⟩))
  have same0 : Heap.SameBut e h₄ h₄ := ⟨rfl, fun _ _ => rfl⟩
  rcases hf0 with rfl | ⟨a, rfl⟩
  · refine wpAny_bind ?_
    unfold Builtin.SmallTypes.ownedTupleIsFree
    refine wpAny_bind (wpAny_field he₄ rfl (x := .none) rfl (wpAny_pure ?_))
    simp only [if_true]
    exact free
  · refine wpAny_bind ?_
    unfold Builtin.SmallTypes.ownedTupleIsFree
    refine wpAny_bind (wpAny_field he₄ rfl (x := rawInt a) rfl ?_)
    show wpAny _ _ (loadIfAlive a.toNat >>= _) _ _ _
    refine wpAny_bind (wpAny_alive ?_)
    show wpAny _ _ (if (h₄.get? a.toNat).isNone = true then _ else _) _ _ _
    cases hal : h₄.get? a.toNat with
    | none =>
      simp only [Option.isNone_none, if_true]
      refine wpAny_pure ?_
      simp only [if_true]
      exact free
    | some oa =>
      simp only [Option.isNone_some, Bool.false_eq_true, if_false]
      refine wpAny_bind (wpAny_field he₄ rfl (x := f1) rfl ?_)
      split
      · refine wpAny_bind (wpAny_setField_rec he₄ (by simp) fun h₅ he₅ hs₅ => ?_)
        replace hs₅ : Heap.SameBut e h₄ h₅ := hs₅
        replace he₅ : h₅.get? e = some { cls := .type "enumerate", dict := none, data := .fields #[rawInt a, .bool true, .ref it, rawInt ((i : Int) + 1), .none, old], slots := #[] } := he₅
        refine wpAny_pure ?_
        simp only [Bool.false_eq_true, if_false]
        exact wpAny_pure ⟨_, rfl, fin h₅ _ _ _ (.inr ⟨_, rfl⟩) he₅ hs₅⟩
      · refine wpAny_bind (wpAny_pure ?_)
        refine wpAny_pure ?_
        simp only [Bool.false_eq_true, if_false]
        exact wpAny_pure ⟨_, rfl, fin h₄ _ _ _ (.inr ⟨_, rfl⟩) he₄ same0⟩
end L2
set_option Elab.async false
set_option linter.all false
set_option maxRecDepth 100000
namespace L2
open PySem PySem.Spec PyProof.Rows
def Sx (S : List Addr) (H H' : Hp) : Prop := (∀ b o, b ∉ S → H b = some o → H' b = some o) ∧ ∀ b o, H' b = some o → H b = some o ∨ noDT o
def Nd (H : Hp) : Prop := ∀ b o, H b = some o → noDT o
theorem Sx.refl (S : List Addr) (H : Hp) : Sx S H H := ⟨fun _ _ _ e => e, fun _ _ e => .inl e⟩
theorem Sx.trans {S : List Addr} {H H1 H2 : Hp} (a : Sx S H H1) (b : Sx S H1 H2) : Sx S H H2 :=
  ⟨fun c o h e => b.1 c o h (a.1 c o h e), fun c o e => (b.2 c o e).elim (fun e => a.2 c o e) .inr⟩
theorem Sx.mono {S S' : List Addr} {H H' : Hp} (a : Sx S H H') (h : ∀ b ∈ S, b ∈ S') : Sx S' H H' := ⟨fun c o hc e => a.1 c o (fun z => hc (h c z)) e, a.2⟩
theorem Sx.nd {S : List Addr} {H H' : Hp} (a : Sx S H H') (n : Nd H) : Nd H' := fun b o e => (a.2 b o e).elim (fun e => n b o e) id
theorem Sx.sm {H H' : Hp} (a : Sx [] H H') : Sm H H' := fun b o e => a.1 b o (by simp) e
theorem Sx.new {S : List Addr} {H : Hp} {p : Addr} {o : HO} (h : H p = none) (n : noDT o) : Sx S H (upd H p o) :=
  ⟨fun b u _ q => by rw [upd_ne (ne_of_none q h)]; exact q, fun b u q => by
    by_cases e : b = p
    · subst e; rw [upd_same] at q; cases q; exact .inr n
    · rw [upd_ne e] at q; exact .inl q⟩
theorem Sx.set {S : List Addr} {H : Hp} {p : Addr} {o : HO} (h : p ∈ S) (n : noDT o) : Sx S H (upd H p o) :=
  ⟨fun b u hb q => by rw [upd_ne (fun (z : b = p) => hb (by rw [z]; exact h))]; exact q, fun b u q => by
    by_cases e : b = p
    · subst e; rw [upd_same] at q; cases q; exact .inr n
    · rw [upd_ne e] at q; exact .inl q⟩
theorem Sm.seqL {K : PySem.W.Frag} {H H' : Hp} {a : Addr} {xs : List V} (e : Sm H H') (h : SqL K H a xs) : SqL K H' a xs := by
  rcases h with (h | ⟨o, h⟩) | h
  · exact .inl (.inl (e _ _ h))
  · exact .inl (.inr ⟨o, e _ _ h⟩)
  · exact .inr h
theorem Inv.laidT {X : Cx} {pins : List (Addr × Obj)} {σ : St} {H : Hp} {s : Shared} {h' : Heap} {t' : Nat} {a : Addr} {o : HO} {ch : List Addr} (I : Inv X pins σ H s) (hch : ∀ b ∈ ch, FpOk X pins H b)
    (k : ∀ b u, b ∉ ch → s.heap.get? b = some u → h'.get? b = some u) (hp : s.heap.objs.size ≤ a) (new : ObjOk X.prog X.w (upd H a o) h' a o) : Inv X pins σ (upd H a o) { s with heap := h', toks := t' } := by
  have hn := I.hok.fresh hp
  have nch : ∀ b u, H b = some u → b ∉ ch := fun b u e z => by rw [(hch b z).1] at e; cases e
  have old : ∀ b u, s.heap.get? b = some u → b ≠ a := fun b u e => Nat.ne_of_lt (Nat.lt_of_lt_of_le (Heap.lt_size e) hp)
  refine I.step (g' := s.gens) (d' := s.drawn) (ch := ch) (fun b hb => ⟨(hch b hb).2.2.2.1, (hch b hb).2.1, (hch b hb).2.2.2.2.1, (hch b hb).2.2.2.2.2⟩) (fun b u _ _ hc e _ => k b u hc e) (fun b u _ _ hc e _ => ⟨u.slots, k b u hc e⟩)
    (fun b u _ e n => by rw [upd_ne (old b u e)]; exact n) (fun b u hc e => ⟨u, k b u hc e⟩) (fun b xs e => by rw [upd_ne (ne_of_none e hn)]; exact e) (fun b ob u e => by rw [upd_ne (ne_of_none e hn)]; exact e)
    (fun b ps e => ⟨#[], by rw [upd_ne (ne_of_none e hn), e]; simp⟩) (fun m hm => ?_) (fun b u e => ?_) I.bare
  · obtain ⟨oL, es, ep, ho, r⟩ := hm
    exact ⟨oL, es, ep, k _ _ (fun z => (hch _ z).2.1 rfl) ho, r⟩
  · by_cases hb : b = a
    · subst hb; rw [upd_same] at e; cases e; exact new
    · rw [upd_ne hb] at e
      refine (I.hok b u e).stay (fun c v hc q => k c v ?_ q) (fun c q => by rw [upd_ne (ne_of_none q hn)]; exact q) fun c xs q => by rw [upd_ne (ne_of_none q hn)]; exact q
      rcases hc with z | z
      · rw [z]; exact nch b u e
      · exact nch c _ z
theorem Inv.track {X : Cx} {pins : List (Addr × Obj)} {σ : St} {H : Hp} {s : Shared} {a : Addr} {o : HO} (I : Inv X pins σ H s) (f : FpOk X pins H a) (hy : X.s_0.heap.objs.size ≤ a) (new : ObjOk X.prog X.w (upd H a o) s.heap a o) : Inv X pins σ (upd H a o) s := by
  have hn := f.1
  have old : ∀ b u, X.s_0.heap.get? b = some u → b ≠ a := fun b u e => Nat.ne_of_lt (Nat.lt_of_lt_of_le (Heap.lt_size e) hy)
  refine ⟨I.ok, I.os, I.bare, ⟨I.base.keep, I.base.slot, fun b u e n hx => by rw [upd_ne (old b u e)]; exact I.base.free b u e n hx, I.base.there, fun b xs e => by rw [upd_ne (ne_of_none (I.base.tups b xs e) hn)]; exact I.base.tups b xs e,
    fun b ob u e => by rw [upd_ne (ne_of_none (I.base.frzs b ob u e) hn)]; exact I.base.frzs b ob u e, fun b ps e => ?_⟩, I.loc, I.cell, by rw [upd_ne (Ne.symm f.2.1)]; exact I.free, fun x c e => by rw [upd_ne (f.2.2.2.2.1 x c e)]; exact I.freeC x c e,
    fun p hp => ⟨(I.pin p hp).1, by rw [upd_ne (f.2.2.2.2.2 p hp)]; exact (I.pin p hp).2.1, (I.pin p hp).2.2⟩, fun b u e => ?_, I.len⟩
  · obtain ⟨m, q⟩ := I.base.tbls b ps e
    exact ⟨m, by rw [upd_ne (ne_of_none q hn)]; exact q⟩
  · by_cases hb : b = a
    · subst hb; rw [upd_same] at e; cases e; exact new
    · rw [upd_ne hb] at e
      exact (I.hok b u e).stay (fun c v _ q => q) (fun c q => by rw [upd_ne (ne_of_none q hn)]; exact q) fun c xs q => by rw [upd_ne (ne_of_none q hn)]; exact q
theorem enum_nolen : typeLookup (.type "enumerate") "__len__" = pure none := by rw [typeLookup_type, builtinLookup_eq_fast]; kernel_rfl
theorem enum_nohint : typeLookup (.type "enumerate") "__length_hint__" = pure none := by rw [typeLookup_type, builtinLookup_eq_fast]; kernel_rfl
theorem boot_list' : bootBuiltins "list" = some (.type "list") := by decide +kernel
theorem boot_enum' : bootBuiltins "enumerate" = some (.type "enumerate") := by decide +kernel
def EnSt (X : Cx) (pins : List (Addr × Obj)) (σ : St) (H1 : Hp) (xs : List V) (e it l S base : Addr) (i : Nat) (s : Shared) : Prop :=
  s.heap.objs.size = base + i ∧ EnumG s.heap e it i ∧ s.heap.IsListIter it l i ∧ ∃ Hc, Inv X pins σ Hc s ∧ Sx [] H1 Hc ∧ Hc S = none ∧ Hc e = none ∧ Hc it = none ∧ ∀ (j : Nat) x, j < i → xs[j]? = some x → Hc (base + j) = some (.tup [.int j, x])
def EnFin (X : Cx) (pins : List (Addr × Obj)) (σ : St) (H1 : Hp) (xs : List V) (S base : Addr) (s : Shared) : Prop :=
  ∃ Hc, Inv X pins σ Hc s ∧ Sx [] H1 Hc ∧ Hc S = none ∧ ∀ (j : Nat) x, xs[j]? = some x → Hc (base + j) = some (.tup [.int j, x])
theorem FpOk.at {X : Cx} {pins : List (Addr × Obj)} {H H' : Hp} {b : Addr} (f : FpOk X pins H b) (h : H' b = none) : FpOk X pins H' b := ⟨h, f.2⟩
theorem en_wk {X : Cx} {pins : List (Addr × Obj)} {σ : St} {H1 : Hp} {xs : List V} {e it l S base : Addr} {A : Around} (hd : A.handled = none) (fe : FpOk X pins H1 e) (fi : FpOk X pins H1 it) (fS : FpOk X pins H1 S) (hq : SqL X.K H1 l xs)
    (hei : e ≠ it) (heS : e ≠ S) (hiS : it ≠ S) (hb : e < base ∧ it < base ∧ S < base) :
    Wk X.prog X.w A e S xs.length (fun i v => v = .ref (base + i)) (EnSt X pins σ H1 xs e it l S base) (EnFin X pins σ H1 xs S base) where
  item := fun i s Q E hi hst hQ => by
    obtain ⟨hz, he, hit, Hc, I, sx, nS, ne, ni, tj⟩ := hst
    obtain ⟨its, rv, p, hzz⟩ := I.list (sx.sm.seqL hq)
    have hx : xs[i]? = some xs[i] := List.getElem?_eq_getElem hi
    obtain ⟨u, hu, ru⟩ := rv.get hx
    have hT : s.TypeIs (.ref e) "enumerate" := by obtain ⟨f0, f1, old, h, _⟩ := he; exact ⟨_, h, rfl⟩
    unfold pyNext
    refine wpAny_bind (wpAny_attempt (wpAny_callSpecial?_slot (name := Str.ofString "__next__") hT F.slot_enumerate_next
      (wpAny_call_entry F.slot_enumerate_next hT F.entry_enumerate_next (enum_next (x := u) he hit p.isList (by simpa using hu) hei fun h' he' hit' hT' hsz hk => wpAny_pure ?_) (F.args_enumerate_next_1 _))))
    have I' : Inv X pins σ (upd Hc s.heap.objs.size (.tup [.int i, xs[i]])) { s with heap := h', toks := s.toks + 1 } :=
      I.laidT (ch := [e, it]) (fun b hb => by
        rcases List.mem_cons.mp hb with z | z
        · rw [z]; exact fe.at ne
        · rw [List.mem_singleton.mp z]; exact fi.at ni) (fun b o hb q => hk b o (fun z => hb (by simp [z])) (fun z => hb (by simp [z])) q) (Nat.le_refl _)
        ⟨(by show 2 ≤ sizeLine; decide), [.int i s.toks, u], .cons ⟨_, rfl⟩ (.cons ru .nil), ⟨_, hT', rfl, _, rfl⟩⟩
    have hfr := I.hok.fresh (Nat.le_refl s.heap.objs.size)
    have lt : ∀ b : Addr, b < base → b ≠ s.heap.objs.size := fun b hb z => by
      rw [z, hz] at hb
      exact absurd hb (Nat.not_lt.mpr (Nat.le_add_right _ _))
    refine hQ _ _ (by rw [hz]) ⟨by show h'.objs.size = _; rw [hsz, hz]; rfl, he', hit', _, I', sx.trans (Sx.new hfr trivial), by rw [upd_ne (Ne.symm (Ne.symm (lt S hb.2.2)))]; exact nS, by rw [upd_ne (lt e hb.1)]; exact ne, by rw [upd_ne (lt it hb.2.1)]; exact ni, fun j x hj hxj => ?_⟩ fun o _ q => hk S o (Ne.symm heS) (Ne.symm hiS) q
    by_cases hji : j = i
    · subst hji
      rw [hz, upd_same]
      rw [hx] at hxj
      cases hxj
      rfl
    · rw [upd_ne (fun z => hji (by rw [hz] at z; exact Nat.add_left_cancel z))]
      exact tj j x (by omega) hxj
  done := fun s Q E hst hQ => by
    obtain ⟨hz, he, hit, Hc, I, sx, nS, ne, ni, tj⟩ := hst
    obtain ⟨its, rv, p, hzz⟩ := I.list (sx.sm.seqL hq)
    obtain ⟨f0, f1, old, hee, hf0⟩ := id he
    have hT : s.TypeIs (.ref e) "enumerate" := ⟨_, hee, rfl⟩
    have hl := rv.length
    unfold pyNext
    refine wpAny_bind (wpAny_attempt (wpAny_callSpecial?_slot (name := Str.ofString "__next__") hT F.slot_enumerate_next
      (wpAny_call_entry F.slot_enumerate_next hT F.entry_enumerate_next ?_ (F.args_enumerate_next_1 _))))
    show wpAny _ _ (field (.ref e) 2 >>= _) _ _ _
    refine wpAny_bind (wpAny_field hee rfl (x := .ref it) rfl ?_)
    refine wpAny_bind (wpAny_nextOf_list_end hd hit p.isList (by simp; omega) fun h' x he' hx' => ?_)
    obtain ⟨o, ho, hc⟩ := hx'
    refine wpAny_bind (wpAny_isInstance (T := "StopIteration") (b := true) ⟨o, ho, hc⟩ isSubtype_stop ?_)
    have f := fi.at ni
    refine wpAny_pure (hQ _ ⟨Hc, I.turned (t' := s.toks) (fun b o hb q => he' b o hb q) ni f.2.1 f.2.2.2.1 f.2.2.2.2.1 f.2.2.2.2.2, sx, nS, fun j x hx => tj j x (List.getElem?_eq_some_iff.mp hx).1 hx⟩ fun o _ q => he' S o (Ne.symm hiS) q)
  self := fun i s Q E hst h => by
    obtain ⟨hz, ⟨f0, f1, old, hee, hf0⟩, hit, _⟩ := hst
    have hT : s.TypeIs (.ref e) "enumerate" := ⟨_, hee, rfl⟩
    refine wpAny_pyIter_slot hT F.slot_enumerate_iter (wpAny_call_entry F.slot_enumerate_iter hT F.entry_enumerate_iter ?_ (F.args_enumerate_iter_1 _))
    show wpAny _ _ (ret (.ref e)) _ _ s
    exact wpAny_pure ⟨_, rfl, "enumerate", _, hT, F.slot_enumerate_next.lookup, h⟩
  own := fun i s h' t hst hsz k => by
    obtain ⟨hz, ⟨f0, f1, old, hee, hf0⟩, hit, Hc, I, sx, nS, ne, ni, tj⟩ := hst
    have f := fS.at nS
    exact ⟨hsz.trans hz, ⟨f0, f1, old, k _ _ heS hee, hf0⟩, hit.at fun o q => k _ _ hiS q, Hc, I.turned k nS f.2.1 f.2.2.2.1 f.2.2.2.2.1 f.2.2.2.2.2, sx, nS, ne, ni, tj⟩
def tListEnum (K : PySem.W.Frag) (te : TE) : TE := fun σ H Q => te σ H fun x H1 => ∃ a xs, x = .ref a ∧ SqL K H1 a xs ∧ xs.length ≤ sizeLine ∧
  ∀ (l : Addr) (ts : List Addr) (H' : Hp), Sx [] H1 H' → H1 l = none → ts.length = xs.length → H' l = some (.lst (ts.map V.ref)) → (∀ (j : Nat) x, xs[j]? = some x → ∃ t, ts[j]? = some t ∧ H' t = some (.tup [.int j, x])) → Q (.ref l) H'
theorem pe_listEnum {X : Cx} {e : Expr} {te : TE} {p p2 pos pos2 : Pos} (hc : X.calm = true) (hgl : Gl X "list") (hml : X.mg "list" = none) (hge : Gl X "enumerate") (hme : X.mg "enumerate" = none) (he : PE X e te)
    (hs : starEach [e] X.env = [(false, eval e X.env)] := by rfl) (hs2 : starEach [.Call (.Name "enumerate" p2) [e] [] pos2] X.env = [(false, eval (.Call (.Name "enumerate" p2) [e] [] pos2) X.env)] := by rfl) :
    PE X (.Call (.Name "list" p) [.Call (.Name "enumerate" p2) [e] [] pos2] [] pos) (tListEnum X.K te) := by
  intro pins s σ H Q I h
  refine wpAny_Call_Name_kw (ld_blt I hgl hml boot_list' ?_ (by decide) (by decide))
  refine PyProof.Rows.callWith_type1 ?_ hs2 rfl
  rw [hs2]
  refine Calls.spliced_cons ?_
  refine wpAny_Call_Name_kw (ld_blt I hge hme boot_enum' ?_ (by decide) (by decide))
  refine PyProof.Rows.callWith_type1 ?_ hs rfl
  rw [hs]
  refine Calls.spliced_cons (thn (he pins s σ H _ I h) fun u s1 ⟨x, H1, I1, r1, q1⟩ => Calls.spliced_nil ?_)
  obtain ⟨a, xs, rfl, hq, hlen, q⟩ := q1
  cases r1
  obtain ⟨its, rv, pl, hzz⟩ := I1.list hq
  refine call_enumerate_list pl.isList fun h2 hE hI hsz2 hk2 => ?_
  refine Calls.spliced_nil ?_
  have I2 : Inv X pins σ H1 { s1 with heap := h2 } := I1.kept (t' := s1.toks) hk2
  have fE := I1.fpOk (H' := H1) (b := s1.heap.objs.size + 1) (Nat.le_succ _) (I1.hok.fresh (Nat.le_succ _))
  have fI := I1.fpOk (H' := H1) (b := s1.heap.objs.size) (Nat.le_refl _) (I1.hok.fresh (Nat.le_refl _))
  have fS := I1.fpOk (H' := H1) (b := h2.objs.size) (by rw [hsz2]; exact Nat.le_add_right _ _) (I1.hok.fresh (by rw [hsz2]; exact Nat.le_add_right _ _))
  have W := en_wk (A := X.A.in1.in1) (l := a) (base := h2.objs.size + 1) (σ := σ) (I1.ok.hd hc) fE fI fS hq (Nat.succ_ne_self _) (by rw [hsz2]; exact Nat.ne_of_lt (Nat.lt_succ_self _)) (by rw [hsz2]; exact Nat.ne_of_lt (Nat.lt_add_of_pos_right (by decide)))
    ⟨by rw [hsz2]; exact Nat.lt_succ_of_lt (Nat.lt_succ_self _), by rw [hsz2]; exact Nat.lt_succ_of_le (Nat.le_add_right _ _), Nat.lt_succ_self _⟩
  refine call_list_wk (T := "enumerate") W hlen ⟨_, hE, rfl⟩ (by decide) (by decide) enum_nolen enum_nohint ?_ fun s' acc' c' hf hS' hacc => ?_
  · refine ⟨by show (h2.push _).objs.size = _; rw [Heap.size_push], ⟨_, _, _, Heap.get?_push_of_some _ hE, .inl rfl⟩, hI.at fun o e => Heap.get?_push_of_some _ e, H1, I2.kept (t' := s1.toks) fun b u e => Heap.get?_push_of_some _ e, Sx.refl _ _, fS.1, fE.1, fI.1, fun j x hj => absurd hj (Nat.not_lt_zero _)⟩
  · obtain ⟨Hc, I', sx, nS, tj⟩ := hf
    have hS' : s'.heap.get? h2.objs.size = some (lstObj acc' c') := hS'
    have eacc : acc'.toList = (List.range xs.length).map fun j => Value.ref (h2.objs.size + 1 + j) := by
      apply List.ext_getElem?
      intro j
      rw [List.getElem?_map]
      by_cases hj : j < xs.length
      · rw [List.getElem?_range hj]
        have hj' : j < acc'.size := by rw [hacc.1]; exact hj
        rw [Array.getElem?_toList, Array.getElem?_eq_getElem hj']
        exact congrArg some (hacc.2 j _ (Array.getElem?_eq_getElem hj'))
      · rw [List.getElem?_eq_none (by rw [Array.length_toList, hacc.1]; omega), List.getElem?_eq_none (by simp; omega)]
        rfl
    have ln : ((List.range xs.length).map fun j => h2.objs.size + 1 + j).length = xs.length := by simp
    have vals : ∀ ts : List Addr, Vals (ts.map V.ref) (ts.map Value.ref) := fun ts => by
      induction ts with
      | nil => exact .nil
      | cons t r ih => exact .cons rfl ih
    have J : Inv X pins σ (upd Hc h2.objs.size (.lst (((List.range xs.length).map fun j => h2.objs.size + 1 + j).map V.ref))) s' := by
      refine I'.track (fS.at nS) (Nat.le_trans I1.sz (by rw [hsz2]; exact Nat.le_add_right _ _)) ⟨by rw [List.length_map, ln]; exact hlen, acc'.toList, c', ?_, by rw [hS']⟩
      rw [eacc]
      have q := vals ((List.range xs.length).map fun j => h2.objs.size + 1 + j)
      have e2 : (List.range xs.length).map (fun j => Value.ref (h2.objs.size + 1 + j)) = ((List.range xs.length).map fun j => h2.objs.size + 1 + j).map Value.ref := by rw [List.map_map]; rfl
      rw [e2]
      exact q
    refine ⟨.ref h2.objs.size, _, J, rfl, q h2.objs.size ((List.range xs.length).map fun j => h2.objs.size + 1 + j) _ (sx.trans (Sx.new nS trivial)) fS.1 ln upd_same fun j x hx => ⟨h2.objs.size + 1 + j, ?_, ?_⟩⟩
    · have hj := (List.getElem?_eq_some_iff.mp hx).1
      rw [List.getElem?_map, List.getElem?_range hj]; rfl
    · rw [upd_ne (Nat.ne_of_gt (Nat.lt_of_lt_of_le (Nat.lt_succ_self _) (Nat.le_add_right _ _)))]
      exact tj j x hx
end L2
set_option Elab.async false
set_option linter.all false
set_option maxRecDepth 100000
namespace L2
open PySem PySem.Spec PyProof.Rows
theorem noFill_tuple_mul : fillsNumberSlot (.type "tuple") "mul" = pure false :=
  PySem.fillsNumberSlot_seq (id := "tuple.__mul__") (r := some (.builtin "tuple.__rmul__")) PySem.F.slot_tuple_mul.lookup (by decide +kernel) PySem.F.slot_tuple_rmul.lookup (by decide +kernel)
theorem repeat_tuple : seqRepeat? (.type "tuple") = pure (some (.builtin "tuple.__mul__")) := by
  unfold seqRepeat?
  rw [PySem.seqSlot_of (T := "tuple") (name := "__mul__") (id := "tuple.__mul__") PySem.F.slot_tuple_mul.lookup (by decide +kernel), PySem.seqSlot_of (T := "tuple") (name := "__rmul__") (id := "tuple.__rmul__") PySem.F.slot_tuple_rmul.lookup (by decide +kernel)]
  rfl
theorem int_rmul_tuple (a : Int) (t : Tok) (l : Addr) (items : Array Value) (n : Nat) (dc : Option Addr) (sl : Array (Option Value)) :
    Meets (Builtin.«int.__rmul__» ⟨[.int a t, .ref l], []⟩) (fun _ R s => s.heap.get? l = some { cls := .type "tuple", dict := dc, data := .seq items n, slots := sl } ∧ R (.ok (.ret Value.notImplemented)) s) :=
  .of_wp fun prog w A R s h => by obtain ⟨hp, g, d, tk, os⟩ := s; obtain ⟨hl, h⟩ := h; wp_walk; exact ⟨_, rfl, h⟩
theorem wpAny_of_ite_neg {α : Type} {M : Model} {A : Around} {c : Prop} [Decidable c] {t u : Sem α} {Q : α → Shared → Prop} {E : Value → Shared → Prop} {s : Shared} (h : ¬ c) (w : wpAny M A u Q E s) : wpAny M A (if c then t else u) Q E s := by rw [if_neg h]; exact w
theorem tuple_mul_int (l : Addr) (items : Array Value) (n : Nat) (dc : Option Addr) (sl : Array (Option Value)) (x : Int) (u : Tok) (h0 : ¬ (x < -(2 ^ 63) || x ≥ 2 ^ 63) = true) (h1 : ¬ (items.isEmpty || x == 1) = true) (h2 : ¬ (x ≤ 0 || items.isEmpty) = true)
    (h3 : ¬ (items.size * x > (2 ^ 63 - 1) / 8)) (h4 : ¬ (Builtin.Tuple.tupleTooMany (items.size * x)) = true) (h5 : ((List.replicate x.toNat items).foldl (· ++ ·) #[]).size ≤ sizeLine) :
    Meets (Builtin.«tuple.__mul__» ⟨[.ref l, .int x u], []⟩) (fun _ R s => s.heap.get? l = some { cls := .type "tuple", dict := dc, data := .seq items n, slots := sl } ∧
      R (.ok (.ret (Value.ref s.heap.objs.size))) { s with heap := s.heap.push { cls := .type "tuple", data := .seq ((List.replicate x.toNat items).foldl (· ++ ·) #[]) } }) :=
  .of_wp fun prog w A R s h => by
    obtain ⟨hp, g, d, tk, os⟩ := s; obtain ⟨hl, h⟩ := h
    wp_walk
    refine wpAny_of_ite_neg h0 ?_
    show wpAny _ _ (Builtin.Tuple.tupleItemsOf (.ref l) >>= _) _ _ _
    unfold Builtin.Tuple.tupleItemsOf
    refine wpAny_bind (wpAny_bind (wpAny_seqItems hl rfl (wpAny_pure ?_)))
    refine wpAny_of_ite_neg h1 ?_
    refine wpAny_of_ite_neg h2 ?_
    refine wpAny_of_ite_neg h3 ?_
    refine wpAny_of_ite_neg h4 ?_
    unfold Builtin.Tuple.tupleExact
    refine wpAny_bind (wpAny_newObj_type ?_ h5)
    exact wpAny_pure ⟨_, rfl, h⟩
def rRepT (K : PySem.W.Frag) : R2 := fun x y H Q => ∃ a xs k, x = .ref a ∧ y = .int k ∧ SqT K H a xs ∧ xs ≠ [] ∧ 2 ≤ k ∧ k < 2 ^ 20 ∧ xs.length * k.toNat ≤ sizeLine ∧
  ∀ p, H p = none → Q (.ref p) (upd H p (.tup (List.replicate k.toNat xs).flatten))
theorem op_repT {X : Cx} : OpR X (binaryOp .Mult) (rRepT X.K) := by
  intro pins s σ H x y v u Q I rx ry h
  obtain ⟨a, xs, k, rfl, rfl, hq, hne, hk2, hk3, hz, q⟩ := h
  cases rx
  obtain ⟨t, rfl⟩ := ry
  obtain ⟨its, rv, p, hzz⟩ := I.tuple hq
  obtain ⟨⟨cl, dc, dt, sl⟩, e, hc, n, hd⟩ := p
  replace hc : cl = .type "tuple" := hc
  replace hd : dt = .seq its.toArray n := hd
  subst hc hd
  have hl := rv.length
  have hne' : its ≠ [] := fun z => hne (by
    rw [z] at hl
    exact List.length_eq_zero_iff.mp hl)
  have hemp : its.toArray.isEmpty = false := by
    cases its with
    | nil => exact absurd rfl hne'
    | cons b r => rfl
  have hnew : List.foldl (fun x1 x2 => x1 ++ x2) #[] (List.replicate k.toNat its.toArray) = (List.replicate k.toNat its).flatten.toArray := by
    have := foldl_rep its k.toNat []
    rw [List.nil_append] at this
    exact this
  have lenN : (List.replicate k.toNat its).flatten.length ≤ sizeLine := by rw [len_rep, Nat.mul_comm, ← hl]; exact hz
  have kk : k = ((k.toNat : Nat) : Int) := by omega
  have hsz : ((its.toArray.size : Nat) : Int) * k ≤ (sizeLine : Nat) := by
    rw [List.size_toArray, ← hl, kk]
    exact_mod_cast hz
  have hcap : ¬ ((its.toArray.size : Nat) : Int) * k > (2 ^ 63 - 1) / 8 := by
    have h8 : ((sizeLine : Nat) : Int) ≤ (2 ^ 63 - 1) / 8 := by decide
    omega
  have hmany : ¬ (Builtin.Tuple.tupleTooMany (((its.toArray.size : Nat) : Int) * k)) = true := by
    unfold Builtin.Tuple.tupleTooMany
    intro z
    have := of_decide_eq_true z
    omega
  refine wpAny_binaryOp_repeat_ref (T := "tuple") (U := "int") (by decide) ⟨_, e, rfl⟩ (fun s' => typeIs_int s' k t) noFill_tuple_mul F.fills_int_mul F.slot_int_rmul repeat_tuple F.slot_int_index.lookup
    (call_meets F.slot_int_rmul (typeIs_int s k t) F.entry_int_rmul (F.args_int_rmul_2 _ _) (int_rmul_tuple k t a its.toArray n dc sl)
      ⟨e, rfl, ⟨_, e, rfl⟩, call_meets PySem.F.slot_tuple_mul ⟨_, e, rfl⟩ PySem.F.entry_tuple_mul (PySem.F.args_tuple_mul_2 _ _) (tuple_mul_int a its.toArray n dc sl k t ?_ ?_ ?_ hcap hmany (by rw [hnew]; simpa using lenN)) ⟨e, ?_⟩⟩)
  · intro z
    rcases Bool.or_eq_true_iff.mp z with z | z
    · have := of_decide_eq_true z; omega
    · have := of_decide_eq_true z; omega
  · rw [hemp]
    intro z
    have : k = 1 := by simpa using z
    omega
  · rw [hemp]
    intro z
    have : k ≤ 0 := by simpa using z
    omega
  · rw [hnew]
    have hf : H s.heap.objs.size = none := I.hok.fresh (Nat.le_refl _)
    refine ⟨.ref s.heap.objs.size, upd H s.heap.objs.size (.tup (List.replicate k.toNat xs).flatten), I.laid (t' := s.toks) (fun b u e => Heap.get?_push_of_some _ e) (Nat.le_refl _) ?_, rfl, q _ hf⟩
    exact ⟨by rw [len_rep, Nat.mul_comm]; exact hz, (List.replicate k.toNat its).flatten, rv.rep k.toNat, ⟨_, Heap.get?_push_size _ rfl, rfl, _, rfl⟩⟩
end L2
set_option Elab.async false
set_option linter.all false
set_option maxRecDepth 100000
namespace L2
open PySem PySem.Spec PyProof.Rows
example (K : PySem.W.Frag) : PySem.W.kitOne K (.type "int") (.type "bool") = some false := by rfl
example (K : PySem.W.Frag) : PySem.W.kitOne K (.type "int") (.type "int") = some true := by rfl
end L2
set_option Elab.async false
set_option linter.all false
set_option maxRecDepth 100000
namespace L2
open PySem PySem.Spec PyProof.Rows
theorem SqT.sx {K : PySem.W.Frag} {S : List Addr} {H H' : Hp} {a : Addr} {xs : List V} (e : Sx S H H') (hS : ∀ b ∈ S, ∃ ys, H b = some (.lst ys)) (h : SqT K H a xs) : SqT K H' a xs := by
  rcases h with (h | ⟨o, h⟩) | h
  · exact .inl (.inl (e.1 _ _ (fun z => by obtain ⟨ys, q⟩ := hS _ z; rw [h] at q; cases q) h))
  · exact .inl (.inr ⟨o, e.1 _ _ (fun z => by obtain ⟨ys, q⟩ := hS _ z; rw [h] at q; cases q) h⟩)
  · exact .inr h
section
variable {P : Program} {w : World} {K : PySem.W.Frag} {mg : Str → Option Value} {base : Heap}
theorem Fun.okC {x qual : Str} {st : Stmt} {f : Addr} {fd : FuncData} {N ps : List Str} {k : Nat} {sp : Sp} (F : Fun K x qual st f fd) (S : FnScope N ps (defScope st)) (len : ∀ vs H Q E, sp vs H Q E → vs.length = ps.length)
    (hbody : ∀ (cdv : Value) (A : Around) (outer : List Env) (s : Shared) (H : Hp) (vs : List V) (Q : VK) (E : XK), fd.code = cdv → Room k (A.deeper (envOfC qual (defScope st) s.heap.objs.size f cdv)) → sp vs H Q E →
      ∃ t, PSs (cxOf CX0 P w K mg base N qual (defScope st) f cdv A outer s H E).nox (defBody st) t ∧ t { nx := fun _ H' => Q .non H', rt := Q } (start N vs) H) : FnOk P w K mg base CX0 (k + 1) f fd ps sp := by
  obtain ⟨oc, od, kV, doc, pm, an, cdv, ct, osl, rfl, lk, hcd⟩ := F.ex
  refine fn_of lk hcd S len fun A outer s H vs Q E hr hsp => ?_
  obtain ⟨t, h, q⟩ := hbody cdv A outer s H vs Q E rfl hr hsp
  exact ⟨t, h.nox, q⟩
end
inductive Th (H : Hp) : V → Prop
  | non : Th H .non
  | bl (b : Bool) : Th H (.bl b)
  | int (i : Int) : Th H (.int i)
  | str (x : Str) : Th H (.str x)
  | lst {a : Addr} {xs : List V} (e : H a = some (.lst xs)) : Th H (.ref a)
  | tup {a : Addr} {xs : List V} (e : H a = some (.tup xs)) : Th H (.ref a)
  | dK {a : Addr} {kvs : List (Key × V)} (e : H a = some (.dK kvs)) : Th H (.ref a)
def vInt : V → Bool
  | .int _ => true
  | .bl _ => true
  | _ => false
def vBool : V → Bool
  | .bl _ => true
  | _ => false
def vStr : V → Bool
  | .str _ => true
  | _ => false
def vTup (H : Hp) : V → Bool
  | .ref a => (match H a with | some (.tup _) => true | _ => false)
  | _ => false
theorem vTup_lst {H : Hp} {a : Addr} {xs : List V} (e : H a = some (.lst xs)) : vTup H (.ref a) = false := by
  show (match H a with | some (.tup _) => true | _ => false) = false
  rw [e]
theorem vTup_tup {H : Hp} {a : Addr} {xs : List V} (e : H a = some (.tup xs)) : vTup H (.ref a) = true := by
  show (match H a with | some (.tup _) => true | _ => false) = true
  rw [e]
theorem vTup_dK {H : Hp} {a : Addr} {xs : List (Key × V)} (e : H a = some (.dK xs)) : vTup H (.ref a) = false := by
  show (match H a with | some (.tup _) => true | _ => false) = false
  rw [e]
theorem Th.ty {K : PySem.W.Frag} {H : Hp} {x : V} (h : Th H x) : ∃ t, TyOf K H x t ∧ PySem.W.kitOne K t (.type "int") = some (vInt x) ∧ PySem.W.kitOne K t (.type "bool") = some (vBool x) ∧ PySem.W.kitOne K t (.type "str") = some (vStr x) ∧ PySem.W.kitOne K t (.type "tuple") = some (vTup H x) := by
  cases h with
  | non => exact ⟨_, .non, rfl, rfl, rfl, rfl⟩
  | bl b => exact ⟨_, .bl b, rfl, rfl, rfl, rfl⟩
  | int i => exact ⟨_, .int i, rfl, rfl, rfl, rfl⟩
  | str x => exact ⟨_, .str x, rfl, rfl, rfl, rfl⟩
  | lst e => exact ⟨_, .lst e, rfl, rfl, rfl, by rw [vTup_lst e]; rfl⟩
  | tup e => exact ⟨_, .tup e, rfl, rfl, rfl, by rw [vTup_tup e]; rfl⟩
  | dK e => exact ⟨_, .dK e, rfl, rfl, rfl, by rw [vTup_dK e]; rfl⟩
theorem Th.sm {H H' : Hp} (e : Sm H H') {x : V} (h : Th H x) : Th H' x := by
  cases h with
  | non => exact .non
  | bl b => exact .bl b
  | int i => exact .int i
  | str x => exact .str x
  | lst q => exact .lst (e _ _ q)
  | tup q => exact .tup (e _ _ q)
  | dK q => exact .dK (e _ _ q)
def Kn (H : Hp) : Nat → V → Prop
  | 0, _ => True
  | n + 1, v => Th H v ∧ ∀ a xs, v = .ref a → H a = some (.tup xs) → ∀ x ∈ xs, Kn H n x
def Known (H : Hp) (v : V) : Prop := ∀ n, Kn H n v
theorem Known.th {H : Hp} {v : V} (h : Known H v) : Th H v := (h 1).1
theorem Known.item {H : Hp} {a : Addr} {xs : List V} (h : Known H (.ref a)) (e : H a = some (.tup xs)) {x : V} (hx : x ∈ xs) : Known H x := fun n => (h (n + 1)).2 a xs rfl e x hx
theorem Known.flat {H : Hp} {v : V} (t : Th H v) (h : ∀ a, v ≠ .ref a) : Known H v := fun n => by
  cases n with
  | zero => trivial
  | succ n => exact ⟨t, fun a xs e => absurd e (h a)⟩
theorem Known.tup {H : Hp} {a : Addr} {xs : List V} (e : H a = some (.tup xs)) (h : ∀ x ∈ xs, Known H x) : Known H (.ref a) := fun n => by
  cases n with
  | zero => trivial
  | succ n => exact ⟨.tup e, fun b ys z q x hx => by cases z; rw [e] at q; cases q; exact h x hx n⟩
theorem Known.other {H : Hp} {a : Addr} (t : Th H (.ref a)) (h : ∀ xs, H a ≠ some (.tup xs)) : Known H (.ref a) := fun n => by
  cases n with
  | zero => trivial
  | succ n => exact ⟨t, fun b ys z q => by cases z; exact absurd q (h ys)⟩
theorem Known.int {H : Hp} (i : Int) : Known H (.int i) := .flat (.int i) fun a z => nomatch z
theorem Known.str {H : Hp} (x : Str) : Known H (.str x) := .flat (.str x) fun a z => nomatch z
theorem Known.sm {H H' : Hp} (e : Sm H H') : ∀ (n : Nat) {v : V}, Known H v → Kn H' n v
  | 0, _, _ => trivial
  | n + 1, v, h => ⟨h.th.sm e, fun a xs z q x hx => by
    subst z
    have t := h.th
    have e2 : H a = some (.tup xs) := by
      cases t with
      | lst k => rw [e _ _ k] at q; cases q
      | tup k => rw [e _ _ k] at q; cases q; exact k
      | dK k => rw [e _ _ k] at q; cases q
    exact Known.sm e n (h.item e2 hx)⟩
end L2
set_option Elab.async false
set_option linter.all false
set_option maxRecDepth 100000
namespace L2
open PySem PySem.Spec PyProof.Rows
abbrev Ev := Int × Int
def PatH (H : Hp) : Nat → V → Nat → List Ev → Prop
  | 0, _, _, _ => False
  | n + 1, v, z, ev => ∃ a, v = .ref a ∧
    ((∃ p w : Int, H a = some (.tup [.str "way", .int p, .int w]) ∧ 0 ≤ p ∧ p ≤ 999 ∧ 0 ≤ w ∧ w ≤ 1 ∧ ev = [(p, w)] ∧ z = 1) ∨
     (∃ (k : Int) (v' : V) (z' : Nat) (ev' : List Ev), H a = some (.tup [.str "times", .int k, v']) ∧ 0 ≤ k ∧ k ≤ 1000000000000000000 ∧ PatH H n v' z' ev' ∧ ev = (List.replicate k.toNat ev').flatten ∧ z = z' + 1) ∨
     (∃ (b : Addr) (vs : List V) (es : List (Nat × List Ev)), H a = some (.tup [.str "row", .ref b]) ∧ H b = some (.tup vs) ∧ Paired (fun v (q : Nat × List Ev) => PatH H n v q.1 q.2) vs es ∧ ev = (es.map (·.2)).flatten ∧ z = (es.map (·.1)).sum + 1))
theorem PatH.mono {H H' : Hp} (e : ∀ a xs, H a = some (.tup xs) → H' a = some (.tup xs)) : ∀ {n m : Nat} {v : V} {z : Nat} {ev : List Ev}, n ≤ m → PatH H n v z ev → PatH H' m v z ev
  | 0, _, _, _, _, _, h => h.elim
  | n + 1, 0, _, _, _, hm, _ => absurd hm (Nat.not_succ_le_zero _)
  | n + 1, m + 1, v, z, ev, hm, h => by
    have hm : n ≤ m := Nat.le_of_succ_le_succ hm
    obtain ⟨a, rfl, h | h | h⟩ := h
    · obtain ⟨p, w, h, r⟩ := h
      exact ⟨a, rfl, .inl ⟨p, w, e _ _ h, r⟩⟩
    · obtain ⟨k, v', z', ev', h, h0, h1, h2, r⟩ := h
      exact ⟨a, rfl, .inr (.inl ⟨k, v', z', ev', e _ _ h, h0, h1, PatH.mono e hm h2, r⟩)⟩
    · obtain ⟨b, vs, es, h, hb, hp, r⟩ := h
      exact ⟨a, rfl, .inr (.inr ⟨b, vs, es, e _ _ h, e _ _ hb, Paired.imp' (fun v q h => PatH.mono e hm h) hp, r⟩)⟩
theorem tup_sx {S : List Addr} {H H' : Hp} (e : Sx S H H') (hS : ∀ b ∈ S, ∃ ys, H b = some (.lst ys)) : ∀ a xs, H a = some (.tup xs) → H' a = some (.tup xs) := fun a xs h =>
  e.1 _ _ (fun z => by obtain ⟨ys, q⟩ := hS _ z; rw [h] at q; cases q) h
theorem PatH.sx {S : List Addr} {H H' : Hp} (e : Sx S H H') (hS : ∀ b ∈ S, ∃ ys, H b = some (.lst ys)) {n m : Nat} {v : V} {z : Nat} {ev : List Ev} (hm : n ≤ m) (h : PatH H n v z ev) : PatH H' m v z ev :=
  PatH.mono (tup_sx e hS) hm h
theorem paired_mem {α β : Type} {R : α → β → Prop} : ∀ {xs : List α} {ys : List β}, Paired R xs ys → ∀ x ∈ xs, ∃ y, R x y
  | _, _, .nil, x, hx => nomatch hx
  | _, _, .cons r t, x, hx => by
    rcases List.mem_cons.mp hx with e | hx
    · rw [e]; exact ⟨_, r⟩
    · exact paired_mem t x hx
theorem PatH.known {H : Hp} : ∀ {n : Nat} {v : V} {z : Nat} {ev : List Ev}, PatH H n v z ev → Known H v
  | 0, _, _, _, h => h.elim
  | n + 1, v, z, ev, h => by
    obtain ⟨a, rfl, h | h | h⟩ := h
    · obtain ⟨p, w, h, _⟩ := h
      refine .tup h fun x hx => ?_
      simp only [List.mem_cons, List.not_mem_nil, or_false] at hx
      rcases hx with e | e | e <;> rw [e]
      · exact .str _
      · exact .int _
      · exact .int _
    · obtain ⟨k, v', z', ev', h, _, _, hp, _⟩ := h
      refine .tup h fun x hx => ?_
      simp only [List.mem_cons, List.not_mem_nil, or_false] at hx
      rcases hx with e | e | e <;> rw [e]
      · exact .str _
      · exact .int _
      · exact PatH.known hp
    · obtain ⟨b, vs, es, h, hb, hp, _⟩ := h
      refine .tup h fun x hx => ?_
      simp only [List.mem_cons, List.not_mem_nil, or_false] at hx
      rcases hx with e | e <;> rw [e]
      · exact .str _
      · refine .tup hb fun y hy => ?_
        obtain ⟨q, hq⟩ := paired_mem hp y hy
        exact PatH.known hq
theorem PatH.pos {H : Hp} : ∀ {n : Nat} {v : V} {z : Nat} {ev : List Ev}, PatH H n v z ev → 1 ≤ z
  | 0, _, _, _, h => h.elim
  | n + 1, v, z, ev, h => by
    obtain ⟨a, rfl, h | h | h⟩ := h
    · obtain ⟨_, _, _, _, _, _, _, _, e⟩ := h; omega
    · obtain ⟨_, _, _, _, _, _, _, _, _, e⟩ := h; omega
    · obtain ⟨_, _, _, _, _, _, _, e⟩ := h; omega
end L2
set_option Elab.async false
set_option linter.all false
set_option maxRecDepth 100000
namespace L2
open PySem PySem.Spec PyProof.Rows
end L2
set_option Elab.async false
set_option linter.all false
set_option maxRecDepth 100000
namespace L2
open PySem PySem.Spec PyProof.Rows
def EvAt (H : Hp) (x : V) (e : Ev) : Prop := ∃ b, x = .ref b ∧ H b = some (.tup [.int e.1, .int e.2])
theorem EvAt.mono {H H' : Hp} {x : V} {e : Ev} (h : ∀ a xs, H a = some (.tup xs) → H' a = some (.tup xs)) (q : EvAt H x e) : EvAt H' x e := let ⟨b, r, k⟩ := q; ⟨b, r, h _ _ k⟩
abbrev EvsAt (H : Hp) (us : List V) (ev : List Ev) : Prop := Paired (EvAt H) us ev
theorem EvsAt.mono {H H' : Hp} {us : List V} {ev : List Ev} (h : ∀ a xs, H a = some (.tup xs) → H' a = some (.tup xs)) (q : EvsAt H us ev) : EvsAt H' us ev := Paired.imp' (fun x e k => k.mono h) q
def evD (e : Ev) : PyData := .tuple [.int e.1, .int e.2]
def PMk (σ : St) (H : Hp) (te : TE) (n : Nat) (ev : List Ev) : Prop := ∀ (H0 : Hp) (Q : VK), Sx [] H H0 → (∀ v z H1, Sx [] H0 H1 → PatH H1 n v z ev → Q v H1) → te σ H0 Q
theorem PMk.of {σ : St} {H : Hp} {te : TE} {n : Nat} {ev ev' : List Ev} (h : PMk σ H te n ev) (e : ev = ev') : PMk σ H te n ev' := e ▸ h
theorem PMk.sx {σ : St} {H H' : Hp} {te : TE} {n : Nat} {ev : List Ev} (h : PMk σ H te n ev) (e : Sx [] H H') : PMk σ H' te n ev := fun H0 Q sx q => h H0 Q (e.trans sx) q
def LikeAt (H : Hp) (x : V) : Prop := ∃ b v v' z z' ev, x = .ref b ∧ H b = some (.tup [v, v']) ∧ PatH H 20 v z ev ∧ PatH H 20 v' z' ev
theorem LikeAt.mono {H H' : Hp} {x : V} (h : ∀ a xs, H a = some (.tup xs) → H' a = some (.tup xs)) (q : LikeAt H x) : LikeAt H' x := let ⟨b, v, v', z, z', ev, r, k, p, p'⟩ := q; ⟨b, v, v', z, z', ev, r, h _ _ k, p.mono h (Nat.le_refl _), p'.mono h (Nat.le_refl _)⟩
end L2
set_option Elab.async false
set_option linter.all false
set_option maxRecDepth 100000
namespace L2
open PySem PySem.Spec PyProof.Rows
end L2
set_option Elab.async false
set_option linter.all false
set_option maxRecDepth 100000
namespace L2
open PySem PySem.Spec PyProof.Rows
section
variable {X : Cx}
theorem op_isnotB : OpR X (compareOp .IsNot) (fun x y H Q => ∃ a b, x = .bl a ∧ y = .bl b ∧ Q (.bl (!(a == b))) H) := by
  intro pins s σ H x y v u Q I rx ry h
  obtain ⟨a, b, rfl, rfl, q⟩ := h
  cases rx
  cases ry
  show wpAny _ _ (pure (Value.bool (!(Value.bool a == Value.bool b)))) _ _ s
  exact wpAny_pure (fin_bl I q (by cases a <;> cases b <;> decide))
def rCatA (K : PySem.W.Frag) : R2 := fun x y H Q => ∃ a b xs ys, x = .ref a ∧ y = .ref b ∧ SqT K H a xs ∧ SqT K H b ys ∧ xs.length + ys.length ≤ sizeLine ∧
  (xs = [] → Q (.ref b) H) ∧ (xs ≠ [] → ys = [] → Q (.ref a) H) ∧ (xs ≠ [] → ys ≠ [] → ∀ p, H p = none → Q (.ref p) (upd H p (.tup (xs ++ ys))))
theorem op_catA : OpR X (binaryOp .Add) (rCatA X.K) := by
  intro pins s σ H x y v u Q I rx ry h
  obtain ⟨a, b, xs, ys, rfl, rfl, ha, hb, hz, q0, q1, q2⟩ := h
  by_cases hx : xs = []
  · cases rx
    cases ry
    obtain ⟨its, r1, p1, _⟩ := I.tuple ha
    obtain ⟨its2, r2, p2, _⟩ := I.tuple hb
    have hi : its = [] := r1.nil_iff.mpr hx
    obtain ⟨⟨cls, dd, data, sl⟩, ho, hc, n, hd⟩ := id p1
    obtain ⟨⟨cls2, dd2, data2, sl2⟩, ho2, hc2, n2, hd2⟩ := id p2
    simp only at hc hd hc2 hd2
    subst hc hd hc2 hd2
    exact concat_meets ⟨_, ho, rfl⟩ ⟨_, ho2, rfl⟩ noFill_tuple_add seq_tuple_add PySem.F.slot_tuple_add PySem.F.entry_tuple_add (PySem.F.args_tuple_add_2 _ _)
      (tuple_addW0 a b its.toArray its2.toArray n n2 dd dd2 sl sl2 (by simp [hi])) ⟨ho, ho2, ⟨.ref b, H, I, rfl, q0 hx⟩⟩
  · exact op_catT pins s σ H _ _ v u Q I rx ry ⟨a, b, xs, ys, rfl, rfl, ha, hb, hx, hz, q1 hx, q2 hx⟩
end
end L2
set_option Elab.async false
set_option linter.all false
set_option maxRecDepth 100000
namespace L2
open PySem PySem.Spec PyProof.Rows
structure Kp (H H' : Hp) : Prop where
  tup : ∀ a xs, H a = some (.tup xs) → H' a = some (.tup xs)
  lst : ∀ a xs, H a = some (.lst xs) → ∃ ys, H' a = some (.lst ys)
  dK : ∀ a xs, H a = some (.dK xs) → ∃ ys, H' a = some (.dK ys)
theorem Th.kp {H H' : Hp} (e : Kp H H') {x : V} (h : Th H x) : Th H' x := by
  cases h with
  | non => exact .non
  | bl b => exact .bl b
  | int i => exact .int i
  | str x => exact .str x
  | lst q => obtain ⟨_, h⟩ := e.lst _ _ q; exact .lst h
  | tup q => exact .tup (e.tup _ _ q)
  | dK q => obtain ⟨_, h⟩ := e.dK _ _ q; exact .dK h
theorem Known.kpn {H H' : Hp} (e : Kp H H') : ∀ (n : Nat) {v : V}, Known H v → Kn H' n v
  | 0, _, _ => trivial
  | n + 1, v, h => ⟨h.th.kp e, fun a xs z q x hx => by
    subst z
    have t := h.th
    have e2 : H a = some (.tup xs) := by
      cases t with
      | lst k => obtain ⟨_, k⟩ := e.lst _ _ k; rw [k] at q; cases q
      | tup k => rw [e.tup _ _ k] at q; cases q; exact k
      | dK k => obtain ⟨_, k⟩ := e.dK _ _ k; rw [k] at q; cases q
    exact Known.kpn e n (h.item e2 hx)⟩
theorem Known.kp {H H' : Hp} (e : Kp H H') {v : V} (h : Known H v) : Known H' v := fun n => Known.kpn e n h
theorem Known.non {H : Hp} : Known H .non := .flat .non fun a z => nomatch z
theorem Known.bl {H : Hp} (b : Bool) : Known H (.bl b) := .flat (.bl b) fun a z => nomatch z
theorem dp_allP {K : PySem.W.Frag} {H : Hp} {α : Type} {R : V → α → Prop} {m : Nat} (hR : ∀ v q, R v q → ∃ d, Dp K H v d ∧ d.canLay0 = true ∧ d.depth ≤ m) : ∀ {vs : List V} {qs : List α}, Paired R vs qs → ∃ ds, DpAll K H vs ds ∧ PyData.canLayAll0 ds = true ∧ PyData.depthAll ds ≤ m ∧ ds.length = vs.length
  | _, _, .nil => ⟨[], .nil, rfl, Nat.zero_le _, rfl⟩
  | _, _, .cons r t => by
    obtain ⟨d, h1, h2, h3⟩ := hR _ _ r
    obtain ⟨ds, k1, k2, k3, k4⟩ := dp_allP hR t
    refine ⟨d :: ds, .cons h1 k1, ?_, ?_, by rw [List.length_cons, List.length_cons, k4]⟩
    · show (d.canLay0 && PyData.canLayAll0 ds) = true
      rw [h2, k2]; rfl
    · simp only [PyData.depthAll]
      omega
theorem PatH.dp {K : PySem.W.Frag} {H : Hp} : ∀ {n : Nat} {v : V} {z : Nat} {ev : List Ev}, PatH H n v z ev → ∃ d, Dp K H v d ∧ d.canLay0 = true ∧ d.depth ≤ 2 * n
  | 0, _, _, _, h => h.elim
  | n + 1, v, z, ev, h => by
    obtain ⟨a, rfl, h | h | h⟩ := h
    · obtain ⟨p, w, h, _⟩ := h
      refine ⟨.tuple [.str "way", .int p, .int w], .tup (SqT.of h) (.cons (.str _) (.cons (.int _) (.cons (.int _) .nil))), ?_, ?_⟩
      · show (PyData.canLay0 (.str "way") && true) = true
        decide +kernel
      · simp only [PyData.depth, PyData.depthAll]
        omega
    · obtain ⟨k, v', z', ev', h, _, _, hp, _⟩ := h
      obtain ⟨d, h1, h2, h3⟩ := PatH.dp hp
      refine ⟨.tuple [.str "times", .int k, d], .tup (SqT.of h) (.cons (.str _) (.cons (.int _) (.cons h1 .nil))), ?_, ?_⟩
      · show (PyData.canLay0 (.str "times") && (true && (d.canLay0 && true))) = true
        rw [h2]
        decide +kernel
      · simp only [PyData.depth, PyData.depthAll]
        omega
    · obtain ⟨b, vs, cs, h, hb, hp, _⟩ := h
      obtain ⟨ds, k1, k2, k3, k4⟩ := dp_allP (m := 2 * n) (fun v q h => PatH.dp h) hp
      refine ⟨.tuple [.str "row", .tuple ds], .tup (SqT.of h) (.cons (.str _) (.cons (.tup (SqT.of hb) k1) .nil)), ?_, ?_⟩
      · show (PyData.canLay0 (.str "row") && (PyData.canLayAll0 ds && true)) = true
        rw [k2]
        decide +kernel
      · simp only [PyData.depth, PyData.depthAll]
        omega
end L2
set_option Elab.async false
set_option linter.all false
namespace L2
open PySem PySem.Spec PyProof.Rows
section
variable {env : Env} {es : List Expr}
theorem st_con {c : Const} {k} {p : Pos} : starEach (.Constant c k p :: es) env = (false, eval (.Constant c k p) env) :: starEach es env := rfl
theorem st_nam {x : Str} {p : Pos} : starEach (.Name x p :: es) env = (false, eval (.Name x p) env) :: starEach es env := rfl
theorem st_tup {a : List Expr} {b} {p : Pos} : starEach (.Tuple a b p :: es) env = (false, eval (.Tuple a b p) env) :: starEach es env := rfl
theorem st_lst {a : List Expr} {p : Pos} : starEach (.List a p :: es) env = (false, eval (.List a p) env) :: starEach es env := rfl
theorem st_bin {a b} {o} {p : Pos} : starEach (.BinOp a o b p :: es) env = (false, eval (.BinOp a o b p) env) :: starEach es env := rfl
theorem st_cal {a b c} {p : Pos} : starEach (.Call a b c p :: es) env = (false, eval (.Call a b c p) env) :: starEach es env := rfl
theorem st_sub {a b} {p : Pos} : starEach (.Subscript a b p :: es) env = (false, eval (.Subscript a b p) env) :: starEach es env := rfl
theorem st_cmp {a b c} {p : Pos} : starEach (.Compare a b c p :: es) env = (false, eval (.Compare a b c p) env) :: starEach es env := rfl
end
end L2
set_option Elab.async false
set_option linter.all false
set_option maxRecDepth 100000
namespace L2
open PySem PySem.Spec PyProof.Rows
def codeO (c : Addr) : HO := .ext fun h => ∃ q, h.CodeRec (.ref c) q
def exO (a : Addr) (o : Obj) : HO := .ext fun h => h.get? a = some o
def tabC (P : Addr) (cs : List Addr) : HO := .ext fun h => ∃ ps, h.get? P = some (PySem.W.tabObj ps) ∧ TriplesOk ps.toList ∧ ∀ pos v, codeAmong pos ps.toList = some v → ∃ c ∈ cs, v = .ref c
section
variable {Pr : Program} {w : World} {H : Hp} {h : Heap} {a c P : Addr} {o : Obj}
end
structure Txt where
  name : Str
  params : Arguments
  body : List Stmt
  scope : Scope
def CloObj (x : Txt) (clos : List (Str × Addr)) (c : Addr) (o : Obj) : Prop :=
  ∃ qual doc pm ctv, o = { cls := .type "function", data := .func (PySem.W.fnX x.name qual x.params x.body x.scope clos .none .none doc pm none (.ref c) ctv) }
section
variable {X : Cx} {i : Nat} {name : Str} {params : Arguments} {body : List Stmt} {scope : Scope} {pos : Pos} {c P : Addr}
end
end L2
set_option Elab.async false
set_option linter.all false
set_option maxRecDepth 100000
namespace L2
open PySem PySem.Spec PyProof.Rows
abbrev Cells := List (Addr × Obj)
section
variable {Pr : Program} {w : World} {H H' : Hp} {h h' : Heap} {cs : Cells} {b : Addr} {o : Obj}
end
section
variable {X : Cx} {pins : List (Addr × Obj)} {σ : St} {H : Hp} {s : Shared}
end
section
variable {X : Cx} {k : Nat} {f : Addr} {fd : FuncData} {ps : List Str} {sp : Sp} {x : Str} {p pos : Pos} {e : Expr} {es : List Expr} {t : TA} {xs : List (Nat × Str)}
end
end L2
set_option Elab.async false
set_option linter.all false
set_option maxRecDepth 100000
namespace L2
open PySem PySem.Spec PyProof.Rows
structure CloScope (p : Str) (caps : List Str) (scope : Scope) : Prop where
  kind : scope.kind = .function
  co : scope.isCoroutine = false
  gen : scope.isGenerator = false
  nd : (p :: caps).Nodup
  par : scope.names.lookup p = some .local
  free : ∀ x ∈ caps, scope.names.lookup x = some .free
  nocell : ∀ y ∈ scope.names, y.2 ≠ .cell
  all : ∀ y ∈ scope.names, y.2 = .free → y.1 ∈ caps
def CapF (cl : List (Str × Addr)) (x : Str) (q : (Addr × Obj) × V) : Prop := cl.lookup x = some q.1.1 ∧ ∃ u, q.1.2.data = .cell (some u) ∧ RelV q.2 u
section
variable {P : Program} {w : World} {K : PySem.W.Frag} {mg : Str → Option Value} {base : Heap} {p q : Str} {caps : List Str} {scope : Scope} {f : Addr} {cd : Value} {cl : List (Str × Addr)} {A : Around} {outer : List Env} {s : Shared} {H : Hp} {h1 : Heap} {t1 : Nat} {v : V} {u : Value} {qs : List ((Addr × Obj) × V)}
end
end L2
set_option Elab.async false
set_option linter.all false
set_option maxRecDepth 100000
namespace L2
open PySem PySem.Spec PyProof.Rows
structure CloK (H : Hp) (f : Addr) (x : Txt) (caps : List Str) (clos : List (Str × Addr)) (c : Addr) (o : Obj) (qs : List ((Addr × Obj) × V)) : Prop where
  fn : H f = some (exO f o)
  ob : CloObj x clos c o
  cd : H c = some (codeO c)
  cap : Paired (CapF clos) caps qs
  dom : ∀ y c, clos.lookup y = some c → y ∈ caps
  nd : (qs.map (·.1.1)).Nodup
  tr : ∀ z ∈ qs, H z.1.1 = some (exO z.1.1 z.1.2)
section
variable {X : Cx} {i : Nat} {x : Str} {p pos : Pos} {e : Expr} {t : TA}
end
end L2
set_option Elab.async false
set_option linter.all false
set_option maxRecDepth 100000
namespace L2
open PySem PySem.Spec PyProof.Rows
end L2
set_option Elab.async false
set_option linter.all false
set_option maxRecDepth 100000
namespace L2
open PySem PySem.Spec PyProof.Rows
inductive Tk where
  | leaf (k : Key) | tup (l : List Tk)
mutual
def Tk.beq : Tk → Tk → Bool
  | .leaf a, .leaf b => decide (a = b)
  | .tup a, .tup b => Tk.beqs a b
  | _, _ => false
def Tk.beqs : List Tk → List Tk → Bool
  | [], [] => true
  | a :: as, b :: bs => Tk.beq a b && Tk.beqs as bs
  | _, _ => false
end
mutual
theorem Tk.beq_eq : ∀ (a b : Tk), Tk.beq a b = true → a = b
  | .leaf a, b, h => by cases b <;> simp [Tk.beq] at h; rw [h]
  | .tup a, b, h => by
    cases b <;> simp only [Tk.beq, Bool.false_eq_true] at h
    rw [Tk.beqs_eq a _ h]
theorem Tk.beqs_eq : ∀ (a b : List Tk), Tk.beqs a b = true → a = b
  | [], b, h => by cases b <;> first | rfl | (simp [Tk.beqs] at h)
  | a :: as, b, h => by
    cases b with
    | nil => simp [Tk.beqs] at h
    | cons b bs =>
      simp only [Tk.beqs, Bool.and_eq_true] at h
      rw [Tk.beq_eq a b h.1, Tk.beqs_eq as bs h.2]
end
mutual
theorem Tk.beq_rfl : ∀ (a : Tk), Tk.beq a a = true
  | .leaf a => by simp [Tk.beq]
  | .tup a => by simp only [Tk.beq]; exact Tk.beqs_rfl a
theorem Tk.beqs_rfl : ∀ (a : List Tk), Tk.beqs a a = true
  | [] => rfl
  | a :: as => by simp only [Tk.beqs, Bool.and_eq_true]; exact ⟨Tk.beq_rfl a, Tk.beqs_rfl as⟩
end
instance : DecidableEq Tk := fun a b => if h : Tk.beq a b = true then .isTrue (Tk.beq_eq a b h) else .isFalse (fun e => h (by rw [e]; exact Tk.beq_rfl b))
mutual
/-- how a key stands on the heap -/
def TkV (h : Heap) : Tk → Value → Prop
  | .leaf k, v => keyIs k v = true
  | .tup l, v => ∃ a o items n, v = .ref a ∧ h.get? a = some o ∧ o.cls = .type "tuple" ∧ o.data = .seq items n ∧ TkVs h l items.toList
def TkVs (h : Heap) : List Tk → List Value → Prop
  | [], vs => vs = []
  | k :: l, vs => ∃ v r, vs = v :: r ∧ TkV h k v ∧ TkVs h l r
end
mutual
def tkH (w : World) : Tk → Int
  | .leaf k => keyH w k
  | .tup l => reduceHash (Builtin.Tuple.tupleHashOf (tkHs w l))
def tkHs (w : World) : List Tk → List Int
  | [] => []
  | k :: l => tkH w k :: tkHs w l
end
mutual
def tkD : Tk → Nat
  | .leaf _ => 1
  | .tup l => tkDs l + 1
def tkDs : List Tk → Nat
  | [] => 0
  | k :: l => tkD k + tkDs l
end
mutual
def tkN : Tk → Nat
  | .leaf _ => 0
  | .tup l => tkNs l + 1
def tkNs : List Tk → Nat
  | [] => 0
  | k :: l => max (tkN k) (tkNs l)
end
mutual
/-- the form of a key: where its tuples are -/
def tkS : Tk → Tk
  | .leaf _ => .leaf (.inl 0)
  | .tup l => .tup (tkSs l)
def tkSs : List Tk → List Tk
  | [] => []
  | k :: l => tkS k :: tkSs l
end
theorem key_inj {v : Value} {a b : Key} (ha : keyIs a v = true) (hb : keyIs b v = true) : a = b := by
  rcases keyIs_shape ha with ⟨i, t, rfl, rfl⟩ | ⟨x, t, rfl, rfl⟩
  · rcases keyIs_shape hb with ⟨j, u, rfl, e⟩ | ⟨y, u, rfl, e⟩
    · injection e with e1 _; rw [e1]
    · exact nomatch e
  · rcases keyIs_shape hb with ⟨j, u, rfl, e⟩ | ⟨y, u, rfl, e⟩
    · exact nomatch e
    · injection e with e1 _; rw [e1]
section
variable {prog : Program} {w : World}
mutual
theorem TkV.inj {h : Heap} : ∀ {x y : Tk} {v : Value}, tkS x = tkS y → TkV h x v → TkV h y v → x = y
  | .leaf a, .leaf b, v, _, hx, hy => by rw [key_inj hx hy]
  | .leaf a, .tup l, v, e, _, _ => by simp [tkS] at e
  | .tup l, .leaf b, v, e, _, _ => by simp [tkS] at e
  | .tup l, .tup m, v, e, hx, hy => by
    obtain ⟨a, o, its, n, e1, h1, _, d1, r1⟩ := hx
    obtain ⟨b, o2, its2, n2, e2, h2, _, d2, r2⟩ := hy
    rw [e1] at e2; cases e2
    rw [h1] at h2; cases h2
    rw [d1] at d2; cases d2
    simp only [tkS, Tk.tup.injEq] at e
    rw [TkVs.inj e r1 r2]
theorem TkVs.inj {h : Heap} : ∀ {x y : List Tk} {vs : List Value}, tkSs x = tkSs y → TkVs h x vs → TkVs h y vs → x = y
  | [], [], _, _, _, _ => rfl
  | [], k :: l, _, e, _, _ => by simp [tkSs] at e
  | k :: l, [], _, e, _, _ => by simp [tkSs] at e
  | k :: l, k2 :: l2, vs, e, hx, hy => by
    obtain ⟨v, r, e1, a1, b1⟩ := hx
    obtain ⟨v2, r2, e2, a2, b2⟩ := hy
    rw [e1] at e2; cases e2
    simp only [tkSs, List.cons.injEq] at e
    rw [TkV.inj e.1 a1 a2, TkVs.inj e.2 b1 b2]
end
mutual
theorem TkV.keeps {h h' : Heap} {d : Addr} {o : Obj} {es ep} (ho : h.get? d = some o) (hd : o.data = .dict es ep) (hs : Heap.SameBut d h h') : ∀ {x : Tk} {v : Value}, TkV h x v → TkV h' x v
  | .leaf _, _, q => q
  | .tup l, _, ⟨a, ob, its, n, e1, h1, c1, d1, r1⟩ => by
    have ne : a ≠ d := fun z => by
      rw [z, ho] at h1; cases h1
      rw [hd] at d1; cases d1
    exact ⟨a, ob, its, n, e1, (hs.2 a ne).trans h1, c1, d1, TkVs.keeps ho hd hs r1⟩
theorem TkVs.keeps {h h' : Heap} {d : Addr} {o : Obj} {es ep} (ho : h.get? d = some o) (hd : o.data = .dict es ep) (hs : Heap.SameBut d h h') : ∀ {x : List Tk} {vs : List Value}, TkVs h x vs → TkVs h' x vs
  | [], _, q => q
  | k :: l, _, ⟨v, r, e1, a1, b1⟩ => ⟨v, r, e1, TkV.keeps ho hd hs a1, TkVs.keeps ho hd hs b1⟩
end
theorem TkVs.length {h : Heap} : ∀ {x : List Tk} {vs : List Value}, TkVs h x vs → x.length = vs.length
  | [], _, q => by rw [show _ = [] from q]; rfl
  | k :: l, _, ⟨v, r, e1, a1, b1⟩ => by rw [e1, List.length_cons, List.length_cons, TkVs.length b1]
theorem tkSs_len : ∀ {x : List Tk}, (tkSs x).length = x.length
  | [] => rfl
  | k :: l => by simp only [tkSs, List.length_cons, tkSs_len]
theorem TkVs.split {h : Heap} : ∀ {x : List Tk} {v : Value} {r : List Value}, TkVs h x (v :: r) → ∃ k l, x = k :: l ∧ TkV h k v ∧ TkVs h l r
  | [], _, _, q => nomatch (show _ :: _ = [] from q)
  | k :: l, _, _, ⟨v, r, e1, a1, b1⟩ => by cases e1; exact ⟨k, l, rfl, a1, b1⟩
theorem tk_rows {A : Around} {E : Value → Shared → Prop} (l0 : List Tk) (hl : ∀ k ∈ l0, ∀ (A : Around) (E : Value → Shared → Prop) (s : Shared) (v : Value) (Q : Int → Shared → Prop), A.units + 2 * tkN k < cLine → TkV s.heap k v → Q (tkH w k) { s with toks := s.toks + tkD k } → wpAny (model prog w) A (pyHash v) Q E s)
    (hu : A.units + 2 * tkNs l0 < cLine) {items : Array Value} {s : Shared} {Q : Array Int → Shared → Prop} (hv : TkVs s.heap l0 items.toList) (h : ∀ b : Array Int, b.toList = tkHs w l0 → Q b { s with toks := s.toks + tkDs l0 }) :
    wpAny (model prog w) A (forIn items #[] fun x (b : Array Int) => do let i ← pyHash x; pure (ForInStep.yield (b.push i))) Q E s := by
  rw [← Array.forIn_toList]
  refine wpAny_forIn_list _ (fun rest (b : Array Int) s' => ∃ done left, l0 = done ++ left ∧ TkVs s.heap left rest ∧ b.toList = tkHs w done ∧ s' = { s with toks := s.toks + tkDs done }) _ ?_ ?_ _ _ ⟨[], l0, rfl, hv, rfl, rfl⟩
  · rintro x rest b s' ⟨done, left, e, hl', hb, rfl⟩
    obtain ⟨k, l, rfl, hk, hr⟩ := hl'.split
    have key : ∀ a : List Tk, (∀ k l, tkHs w (a ++ (k :: l)) = tkHs w a ++ tkH w k :: tkHs w l) ∧ (∀ k l, tkDs (a ++ (k :: l)) = tkDs a + tkD k + tkDs l) ∧ ∀ k l, tkN k ≤ tkNs (a ++ (k :: l)) := fun a => by
      induction a with
      | nil => exact ⟨fun k l => by simp [tkHs], fun k l => by simp [tkDs], fun k l => by simp only [List.nil_append, tkNs]; omega⟩
      | cons z a ih =>
        refine ⟨fun k l => ?_, fun k l => ?_, fun k l => ?_⟩
        · simp [tkHs, ih.1]
        · simp only [List.cons_append, tkDs, ih.2.1]; omega
        · have := ih.2.2 k l
          simp only [List.cons_append, tkNs]; omega
    have hN := (key done).2.2 k l
    rw [← e] at hN
    refine wpAny_bind (hl k (by rw [e]; simp) A E _ x _ (by omega) hk ?_)
    refine wpAny_pure ⟨done ++ [k], l, by rw [e]; simp, hr, ?_, ?_⟩
    · rw [Array.toList_push, hb, (key done).1 k []]; rfl
    · have := (key done).2.1 k []
      rw [this]
      simp [tkDs, Nat.add_assoc]
  · rintro b s' ⟨done, left, e, hl', hb, rfl⟩
    have : left = [] := by
      cases left with
      | nil => rfl
      | cons k l => obtain ⟨_, _, z, _⟩ := hl'; cases z
    subst this
    rw [List.append_nil] at e
    subst e
    exact h b hb
end
end L2
set_option Elab.async false
set_option linter.all false
set_option maxRecDepth 100000
namespace L2
open PySem PySem.Spec PyProof.Rows
section
variable {prog : Program} {w : World}
theorem TkV.tupIs {l : List Tk} {v : Value} {s : Shared} (h : TkV s.heap (.tup l) v) : ∃ a o items n, v = .ref a ∧ s.TypeIs (.ref a) "tuple" ∧ s.heap.get? a = some o ∧ o.data = .seq items n ∧ TkVs s.heap l items.toList :=
  let ⟨a, o, items, n, e, h1, c1, d1, r1⟩ := h
  ⟨a, o, items, n, e, ⟨o, h1, c1⟩, h1, d1, r1⟩
mutual
theorem tk_hash : ∀ (k : Tk) (A : Around) (E : Value → Shared → Prop) (s : Shared) (v : Value) (Q : Int → Shared → Prop), A.units + 2 * tkN k < cLine → TkV s.heap k v → Q (tkH w k) { s with toks := s.toks + tkD k } → wpAny (model prog w) A (pyHash v) Q E s
  | .leaf k, A, E, s, v, Q, hu, hk, h => (mixKind prog w).pyHash hk h
  | .tup l, A, E, s, v, Q, hu, hk, h => by
    obtain ⟨a, o, items, n, rfl, hT, ho, hd, hi⟩ := hk.tupIs
    simp only [tkN] at hu
    unfold pyHash
    first | unfold pyHashByItsType | skip
    first | refine wpAny_bind (wpAny_cRoomFor_or (.inr (by omega)) ?_) | skip
    refine wpAny_bind (wpAny_specialOf hT F.slot_tuple_hash.lookup ?_)
    have nn : ¬ (some (Value.builtin "tuple.__hash__") == some Value.none) = true := by rw [beq_builtin_none]; exact Bool.false_ne_true
    dsimp only
    rw [if_neg nn]
    refine wpAny_bind (wpAny_specialOf hT F.slot_tuple_hash.lookup ?_)
    refine wpAny_bind (wpAny_callSpecialIfBoundUnlessNone?_slot hT F.slot_tuple_hash (wpAny_call_entry F.slot_tuple_hash hT F.entry_tuple_hash ?_ (F.args_tuple_hash_1 _)))
    show wpAny _ _ (Builtin.Tuple.tupleItemsOf (.ref a) >>= _) _ _ s
    refine wpAny_bind (wpAny_tupleItemsOf ho hd ?_)
    refine wpAny_bind (tk_rows l (tk_hashs l) (by show A.units + 1 + 2 * tkNs l < cLine; omega) hi fun b hb => ?_)
    show wpAny _ _ (retInt (Builtin.Tuple.tupleHashOf b.toList)) _ _ _
    rw [hb]
    refine wpAny_ret_mkInt ?_
    have key : wpAny (model prog w) A (pure (reduceHash (Builtin.Tuple.tupleHashOf (tkHs w l)))) Q E { s with toks := s.toks + tkDs l + 1 } := wpAny_pure (by simpa [tkH, tkD, Nat.add_assoc] using h)
    by_cases hr : (decide (-(2 : Int) ^ 63 ≤ Builtin.Tuple.tupleHashOf (tkHs w l)) && decide (Builtin.Tuple.tupleHashOf (tkHs w l) < 2 ^ 63)) = true
    · show wpAny _ _ (if _ then _ else _) Q E _
      rw [if_pos hr]
      unfold reduceHash at key
      rw [if_pos hr] at key
      exact key
    · show wpAny _ _ (if _ then _ else _) Q E _
      rw [if_neg hr]
      unfold reduceHash at key
      rw [if_neg hr] at key
      exact wpAny_bind (wpAny_rule key)
theorem tk_hashs : ∀ (l : List Tk), ∀ k ∈ l, ∀ (A : Around) (E : Value → Shared → Prop) (s : Shared) (v : Value) (Q : Int → Shared → Prop), A.units + 2 * tkN k < cLine → TkV s.heap k v → Q (tkH w k) { s with toks := s.toks + tkD k } → wpAny (model prog w) A (pyHash v) Q E s
  | [], k, hk => nomatch hk
  | k0 :: l, k, hk => by
    rcases List.mem_cons.mp hk with e | hk
    · rw [e]; exact tk_hash k0
    · exact tk_hashs l k hk
end
end
end L2
set_option Elab.async false
set_option linter.all false
set_option maxRecDepth 100000
namespace L2
open PySem PySem.Spec PyProof.Rows
section
variable {prog : Program} {w : World}
theorem tkNs_le : ∀ (a : List Tk) {k : Tk} {l : List Tk}, tkN k ≤ tkNs (a ++ (k :: l))
  | [], k, l => by simp only [List.nil_append, tkNs]; omega
  | z :: a, k, l => by
    have := tkNs_le a (k := k) (l := l)
    simp only [List.cons_append, tkNs]; omega
theorem tk_rows_eq {A : Around} {E : Value → Shared → Prop} {Q : Option Fin × Unit → Shared → Prop} (x0 y0 : List Tk) (hl : ∀ k ∈ x0, ∀ (y : Tk) (A : Around) (E : Value → Shared → Prop) (s : Shared) (u v : Value) (Q : Bool → Shared → Prop), tkS k = tkS y → A.units + 2 * tkN k < cLine → TkV s.heap k u → TkV s.heap y v → Q (decide (k = y)) s → wpAny (model prog w) A (eqBool u v) Q E s)
    (hs : tkSs x0 = tkSs y0) (hu : A.units + 2 * tkNs x0 < cLine) {xs ys : Array Value} {s : Shared} (hx : TkVs s.heap x0 xs.toList) (hy : TkVs s.heap y0 ys.toList) (h1 : x0 = y0 → Q (none, ()) s) (h2 : x0 ≠ y0 → Q (some (.done (.ret (.bool false))), ()) s) :
    wpAny (model prog w) A (forIn (xs.toList.zip ys.toList) ((none, ()) : Option Fin × Unit) fun z r => do
        let b ← eqBool z.1 z.2
        if (!b) = true then do
          let f ← ret (.bool false)
          pure (ForInStep.done (some f, ()))
        else pure (ForInStep.yield (none, ()))) Q E s := by
  have lx := hx.length
  have ly := hy.length
  have ls : x0.length = y0.length := by rw [← tkSs_len (x := x0), hs, tkSs_len]
  refine wpAny_forIn_list _ (fun rest (r : Option Fin × Unit) s' => s' = s ∧ r.1 = none ∧ ∃ done xl yl us vs, x0 = done ++ xl ∧ y0 = done ++ yl ∧ tkSs xl = tkSs yl ∧ TkVs s.heap xl us ∧ TkVs s.heap yl vs ∧ rest = us.zip vs) _ ?_ ?_ _ _ ⟨rfl, rfl, [], x0, y0, _, _, rfl, rfl, hs, hx, hy, rfl⟩
  · rintro z rest r s' ⟨rfl, hr, done, xl, yl, us, vs, ex, ey, es, hxl, hyl, ez⟩
    cases us with
    | nil => simp at ez
    | cons u us =>
      cases vs with
      | nil => simp at ez
      | cons v vs =>
        rw [List.zip_cons_cons] at ez
        cases ez
        obtain ⟨k, xl, rfl, hk, hxl'⟩ := hxl.split
        obtain ⟨k2, yl, rfl, hk2, hyl'⟩ := hyl.split
        simp only [tkSs, List.cons.injEq] at es
        have hN : tkN k ≤ tkNs x0 := by rw [ex]; exact tkNs_le done
        refine wpAny_bind (hl k (by rw [ex]; simp) k2 A E _ u v _ es.1 (by omega) hk hk2 ?_)
        by_cases e : k = k2
        · subst e
          rw [decide_eq_true rfl]
          simp only [Bool.not_true, Bool.false_eq_true, if_false]
          exact wpAny_pure ⟨rfl, rfl, done ++ [k], xl, yl, us, vs, by rw [ex]; simp, by rw [ey]; simp, es.2, hxl', hyl', rfl⟩
        · rw [decide_eq_false e]
          simp only [Bool.not_false, if_true]
          have hf : x0 ≠ y0 := by
            rw [ex, ey]
            simp [e]
          exact wpAny_bind (wpAny_pure (wpAny_pure (h2 hf)))
  · rintro ⟨r1, r2⟩ s' ⟨rfl, hr, done, xl, yl, us, vs, ex, ey, es, hxl, hyl, ez⟩
    simp only at hr
    subst hr
    have l1 := hxl.length
    have l2 := hyl.length
    have l3 : xl.length = yl.length := by rw [← tkSs_len (x := xl), es, tkSs_len]
    have : us = [] := by
      cases us with
      | nil => rfl
      | cons u us =>
        cases vs with
        | nil =>
          rw [List.length_cons] at l1
          rw [List.length_nil] at l2
          omega
        | cons v vs => simp at ez
    subst this
    have e1 : xl = [] := by simpa using l1
    subst e1
    have e2 : yl = [] := by
      cases yl with
      | nil => rfl
      | cons _ _ => simp at l3
    subst e2
    exact h1 (by rw [ex, ey])
mutual
theorem tk_eq : ∀ (x y : Tk) (A : Around) (E : Value → Shared → Prop) (s : Shared) (u v : Value) (Q : Bool → Shared → Prop), tkS x = tkS y → A.units + 2 * tkN x < cLine → TkV s.heap x u → TkV s.heap y v → Q (decide (x = y)) s → wpAny (model prog w) A (eqBool u v) Q E s
  | .leaf k, .leaf k2, A, E, s, u, v, Q, hs, hu, hx, hy, h => (mixKind prog w).eqBool hx hy (by
      have : decide (Tk.leaf k = Tk.leaf k2) = decide (k = k2) := by simp
      rw [this] at h; exact h)
  | .leaf k, .tup l, A, E, s, u, v, Q, hs, hu, hx, hy, h => by simp [tkS] at hs
  | .tup l, .leaf k, A, E, s, u, v, Q, hs, hu, hx, hy, h => by simp [tkS] at hs
  | .tup l, .tup m, A, E, s, u, v, Q, hs, hu, hx, hy, h => by
    obtain ⟨a, o, xs, n, rfl, hT, ho, hd, hi⟩ := hx.tupIs
    obtain ⟨b, o2, ys, n2, rfl, hT2, ho2, hd2, hi2⟩ := hy.tupIs
    simp only [tkN] at hu
    simp only [tkS, Tk.tup.injEq] at hs
    unfold eqBool
    try with_reducible refine wpAny_holding ?_
    show wpAny _ _ (if (Value.ref a == Value.ref b) = true then _ else _) Q E s
    by_cases hab : (Value.ref a == Value.ref b) = true
    · rw [if_pos hab]
      have e : a = b := by have := eq_of_beq hab; injection this
      subst e
      rw [ho] at ho2; cases ho2
      rw [hd] at hd2; cases hd2
      rw [TkVs.inj hs hi hi2] at h
      exact wpAny_bind (wpAny_rule (wpAny_pure (by simpa using h)))
    · rw [if_neg hab]
      have hl : decide (Tk.tup l = Tk.tup m) = decide (l = m) := by simp
      rw [hl] at h
      refine wpAny_bind (wpAny_richCompare_same_room (op := .Eq) hT hT2 F.slot_tuple_eq (wpAny_call_entry F.slot_tuple_eq hT F.entry_tuple_eq ?_ (F.args_tuple_eq_2 _ _)) (by omega))
      show wpAny _ _ (isInstance (.ref b) (.type "tuple") >>= _) _ _ s
      refine wpAny_bind (wpAny_isInstance hT2 isSubtype_tuple_tuple ?_)
      simp only [Bool.not_true, Bool.false_eq_true, if_false]
      refine wpAny_bind (wpAny_tupleItemsOf ho hd ?_)
      refine wpAny_bind (wpAny_tupleItemsOf ho2 hd2 ?_)
      refine wpAny_bind (tk_rows_eq (w := w) (A := A.in1) (E := E) l m (tk_eqs l) hs (by show A.units + 1 + 2 * tkNs l < cLine; omega) hi hi2 (fun e => ?_) fun e => ?_)
      · have hsz : (xs.size == ys.size) = true := by
          rw [← Array.length_toList, ← Array.length_toList, ← hi.length, ← hi2.length, e]; simp
        show wpAny _ _ (ret (.bool (xs.size == ys.size))) _ _ _
        rw [hsz]
        rw [decide_eq_true e] at h
        exact wpAny_pure ⟨_, rfl, (fun e => nomatch e), wpAny_truthy_bool h⟩
      · rw [decide_eq_false e] at h
        exact wpAny_pure ⟨_, rfl, (fun e => nomatch e), wpAny_truthy_bool h⟩
theorem tk_eqs : ∀ (l : List Tk), ∀ k ∈ l, ∀ (y : Tk) (A : Around) (E : Value → Shared → Prop) (s : Shared) (u v : Value) (Q : Bool → Shared → Prop), tkS k = tkS y → A.units + 2 * tkN k < cLine → TkV s.heap k u → TkV s.heap y v → Q (decide (k = y)) s → wpAny (model prog w) A (eqBool u v) Q E s
  | [], k, hk => nomatch hk
  | k0 :: l, k, hk => by
    rcases List.mem_cons.mp hk with e | hk
    · rw [e]; exact tk_eq k0
    · exact tk_eqs l k hk
end
mutual
theorem tk_quiet : ∀ (k : Tk) (n : Nat) (A : Around) (E : Value → Shared → Prop) (s : Shared) (v : Value) (Q : Bool → Shared → Prop), tkN k ≤ n → TkV s.heap k v → Q true s → wpAny (model prog w) A (eqIsQuiet n v) Q E s
  | .leaf k, n, A, E, s, v, Q, hn, hk, h => by
    rw [eqIsQuiet_byValue n ((mixKind prog w).byValue k v hk)]
    exact wpAny_pure h
  | .tup l, 0, A, E, s, v, Q, hn, hk, h => by simp [tkN] at hn
  | .tup l, n + 1, A, E, s, v, Q, hn, hk, h => by
    obtain ⟨a, o, items, c, rfl, hT, ho, hd, hi⟩ := hk.tupIs
    simp only [tkN] at hn
    unfold eqIsQuiet
    refine wpAny_bind (wpAny_specialOf hT F.slot_tuple_eq.lookup ?_)
    show wpAny _ _ (isInstance (.ref a) (.type "tuple") >>= _) _ _ s
    refine wpAny_bind (wpAny_isInstance hT isSubtype_tuple_tuple ?_)
    simp only [Bool.not_true, Bool.false_eq_true, if_false]
    refine wpAny_bind (wpAny_seqItems ho hd ?_)
    refine wpAny_bind ?_
    show wpAny _ _ (forIn items _ _) _ _ s
    rw [← Array.forIn_toList]
    refine wpAny_forIn_list _ (fun rest r s' => r.1 = none ∧ s' = s ∧ ∃ left, (∀ k ∈ left, k ∈ l) ∧ TkVs s.heap left rest) _ ?_ ?_ _ _ ⟨rfl, rfl, l, fun _ h => h, hi⟩
    · rintro v rest r s' ⟨hr, rfl, left, hm, hl⟩
      obtain ⟨k, left, rfl, hk, hl'⟩ := hl.split
      have hN : tkN k ≤ tkNs l := by
        obtain ⟨u, w', e⟩ := List.append_of_mem (hm k (by simp))
        rw [e]; exact tkNs_le u
      refine wpAny_bind (tk_quiets l k (hm k (by simp)) n A E _ v _ (by omega) hk ?_)
      simp only [Bool.not_true, Bool.false_eq_true, if_false]
      exact wpAny_pure ⟨rfl, rfl, left, fun z hz => hm z (List.mem_cons_of_mem _ hz), hl'⟩
    · rintro ⟨r1, r2⟩ s' ⟨hr, rfl, _⟩
      simp only at hr
      subst hr
      exact wpAny_pure h
theorem tk_quiets : ∀ (l : List Tk), ∀ k ∈ l, ∀ (n : Nat) (A : Around) (E : Value → Shared → Prop) (s : Shared) (v : Value) (Q : Bool → Shared → Prop), tkN k ≤ n → TkV s.heap k v → Q true s → wpAny (model prog w) A (eqIsQuiet n v) Q E s
  | [], k, hk => nomatch hk
  | k0 :: l, k, hk => by
    rcases List.mem_cons.mp hk with e | hk
    · rw [e]; exact tk_quiet k0
    · exact tk_quiets l k hk
end
def treeKind (prog : Program) (w : World) (sh : Tk) : PySem.HeapKind prog w Tk where
  is := fun h k a => tkS k = sh ∧ tkN k ≤ 8 ∧ TkV h k (.ref a)
  hash := tkH w
  draws := tkD
  room := fun A => A.units + 20 < cLine
  inj := fun hx hy => TkV.inj (hx.1.trans hy.1.symm) hx.2.2 hy.2.2
  keeps := fun x ho hd hs => ⟨x.1, x.2.1, TkV.keeps ho hd hs x.2.2⟩
  pyHash := fun hu hk h => tk_hash _ _ _ _ _ _ (by have := hk.2.1; omega) hk.2.2 h
  eqBool := fun hu hx hy h => tk_eq _ _ _ _ _ _ _ _ (hx.1.trans hy.1.symm) (by have := hx.2.1; omega) hx.2.2 hy.2.2 h
  quiet := fun hk h => tk_quiet _ _ _ _ _ _ _ hk.2.1 hk.2.2 h
end
end L2
set_option Elab.async false
set_option linter.all false
set_option maxRecDepth 100000
namespace L2
open PySem PySem.Spec PyProof.Rows
abbrev TEs := List (Tk × Addr × V)
abbrev TVs := List (Tk × Addr × Value)
abbrev TRel : TEs → TVs → Prop := Paired fun e x => e.1 = x.1 ∧ e.2.1 = x.2.1 ∧ RelV e.2.2 x.2.2
def trO (w : World) (a : Addr) (es : TEs) : HO := .ext fun h => (a == sysModules) = false ∧ ∃ o ess ep vals, h.get? a = some o ∧ o.ExactDict ∧ o.data = .dict ess ep ∧ ess.toList = vals.map (fun x => (⟨tkH w x.1, .ref x.2.1, x.2.2⟩ : DictEntry)) ∧ TRel es vals
mutual
def TkT (K : PySem.W.Frag) (H : Hp) : Tk → V → Prop
  | .leaf k, v => v = kV k
  | .tup l, v => ∃ a vs, v = .ref a ∧ SqT K H a vs ∧ TkTs K H l vs
def TkTs (K : PySem.W.Frag) (H : Hp) : List Tk → List V → Prop
  | [], vs => vs = []
  | k :: l, vs => ∃ v r, vs = v :: r ∧ TkT K H k v ∧ TkTs K H l r
end
structure KeyT (K : PySem.W.Frag) (H : Hp) (sh k : Tk) (b : Addr) : Prop where
  sh : tkS k = sh
  dp : tkN k ≤ 8
  at_ : TkT K H k (.ref b)
structure TrAt (K : PySem.W.Frag) (w : World) (H : Hp) (a : Addr) (sh : Tk) (es : TEs) : Prop where
  ob : H a = some (trO w a es)
  nd : (es.map (·.1)).Nodup
  ks : ∀ e ∈ es, KeyT K H sh e.1 e.2.1
  ln : es.length ≤ sizeLine
mutual
theorem TkT.tup {K : PySem.W.Frag} {H H' : Hp} (t : ∀ a vs, SqT K H a vs → SqT K H' a vs) : ∀ {k : Tk} {v : V}, TkT K H k v → TkT K H' k v
  | .leaf k, v, h => h
  | .tup l, v, ⟨a, vs, e, q, r⟩ => ⟨a, vs, e, t a vs q, TkTs.tup t r⟩
theorem TkTs.tup {K : PySem.W.Frag} {H H' : Hp} (t : ∀ a vs, SqT K H a vs → SqT K H' a vs) : ∀ {l : List Tk} {vs : List V}, TkTs K H l vs → TkTs K H' l vs
  | [], vs, h => h
  | k :: l, vs, ⟨v, r, e, h1, h2⟩ => ⟨v, r, e, TkT.tup t h1, TkTs.tup t h2⟩
end
theorem KeyT.tup {K : PySem.W.Frag} {H H' : Hp} {sh k : Tk} {b : Addr} (t : ∀ a vs, SqT K H a vs → SqT K H' a vs) (h : KeyT K H sh k b) : KeyT K H' sh k b := ⟨h.sh, h.dp, h.at_.tup t⟩
theorem TrAt.tup {K : PySem.W.Frag} {w : World} {H H' : Hp} {a : Addr} {sh : Tk} {es : TEs} (h : TrAt K w H a sh es) (t : ∀ a vs, SqT K H a vs → SqT K H' a vs) (e : H' a = some (trO w a es)) : TrAt K w H' a sh es := ⟨e, h.nd, fun e he => (h.ks e he).tup t, h.ln⟩
def trV (es : TEs) (k : Tk) : Option V := (es.find? fun e => decide (e.1 = k)).map (·.2.2)
def trPut (es : TEs) (k : Tk) (b : Addr) (v : V) : TEs := if es.any (fun e => decide (e.1 = k)) = true then es.map (fun e => if e.1 = k then (e.1, e.2.1, v) else e) else es ++ [(k, b, v)]
theorem TRel.val {k : Tk} : ∀ {es : TEs} {vals : TVs}, TRel es vals → RelO (trV es k) ((atKey vals k).map (·.2))
  | [], _, .nil => True.intro
  | e :: es, x :: vals, .cons ⟨h1, h2, h3⟩ t => by
    have ih := TRel.val (k := k) t
    unfold trV atKey at ih ⊢
    rw [List.find?_cons, List.find?_cons, h1]
    by_cases q : x.1 = k
    · simp only [q, decide_true, Option.map_some]
      exact h3
    · simp only [q, decide_false]
      exact ih
theorem TRel.keys : ∀ {es : TEs} {vals : TVs}, TRel es vals → vals.map (·.1) = es.map (·.1)
  | [], _, .nil => rfl
  | e :: es, x :: vals, .cons ⟨h1, h2, h3⟩ t => by rw [List.map_cons, List.map_cons, TRel.keys t, h1]
theorem TRel.len {es : TEs} {vals : TVs} (h : TRel es vals) : vals.length = es.length := by
  have := congrArg List.length h.keys
  simpa using this
theorem TRel.mem : ∀ {es : TEs} {vals : TVs}, TRel es vals → ∀ x ∈ vals, ∃ e ∈ es, e.1 = x.1 ∧ e.2.1 = x.2.1
  | [], _, .nil, x, h => nomatch h
  | e :: es, y :: vals, .cons ⟨h1, h2, h3⟩ t, x, h => by
    rcases List.mem_cons.mp h with rfl | h
    · exact ⟨e, by simp, h1, h2⟩
    · obtain ⟨e', he, z⟩ := TRel.mem t x h
      exact ⟨e', List.mem_cons_of_mem _ he, z⟩
theorem TRel.any {k : Tk} : ∀ {es : TEs} {vals : TVs}, TRel es vals → es.any (fun e => decide (e.1 = k)) = (atKey vals k).isSome
  | [], _, .nil => rfl
  | e :: es, x :: vals, .cons ⟨h1, _, _⟩ t => by
    have ih := TRel.any (k := k) t
    unfold atKey at ih ⊢
    rw [List.any_cons, List.find?_cons, ih, h1]
    split <;> rename_i q <;> simp [q]
theorem TRel.mapP {k : Tk} {v : V} {u : Value} (r : RelV v u) : ∀ {es : TEs} {vals : TVs}, TRel es vals → TRel (es.map (fun e => if e.1 = k then (e.1, e.2.1, v) else e)) (vals.map (putAt k u))
  | [], _, .nil => .nil
  | e :: es, x :: vals, .cons ⟨h1, h2, h3⟩ t => by
    refine .cons ?_ (TRel.mapP r t)
    unfold putAt
    show (if e.1 = k then (e.1, e.2.1, v) else e).1 = _ ∧ (if e.1 = k then (e.1, e.2.1, v) else e).2.1 = _ ∧ RelV (if e.1 = k then (e.1, e.2.1, v) else e).2.2 _
    rw [h1]
    split
    · exact ⟨rfl, h2, r⟩
    · exact ⟨h1, h2, h3⟩
theorem TRel.appP {k : Tk} {b : Addr} {v : V} {u : Value} (r : RelV v u) : ∀ {es : TEs} {vals : TVs}, TRel es vals → TRel (es ++ [(k, b, v)]) (vals ++ [(k, b, u)])
  | [], _, .nil => .cons ⟨rfl, rfl, r⟩ .nil
  | e :: es, x :: vals, .cons h t => .cons h (TRel.appP r t)
theorem TRel.put {es : TEs} {vals : TVs} {k : Tk} {b : Addr} {v : V} {u : Value} (t : TRel es vals) (r : RelV v u) : TRel (trPut es k b v) (storedH vals k b u) := by
  unfold trPut storedH
  rw [t.any]
  split
  · exact t.mapP r
  · exact t.appP r
section
variable {X : Cx} {pins : List (Addr × Obj)} {σ : St} {H : Hp} {s : Shared}
mutual
theorem TkT.here (I : Inv X pins σ H s) : ∀ {k : Tk} {v : V} {u : Value}, TkT X.K H k v → RelV v u → TkV s.heap k u
  | .leaf k, v, u, h, r => by
    rw [show v = kV k from h] at r
    exact kV_is (P := X.prog) (w := X.w) r
  | .tup l, v, u, ⟨a, vs, e, q, t⟩, r => by
    subst e
    cases (show u = Value.ref a from r)
    obtain ⟨its, rv, ⟨o, h1, h2, n, h3⟩, _⟩ := I.tuple q
    exact ⟨a, o, its.toArray, n, rfl, h1, h2, h3, by simpa using TkTs.here I t rv⟩
theorem TkTs.here (I : Inv X pins σ H s) : ∀ {l : List Tk} {vs : List V} {us : List Value}, TkTs X.K H l vs → Vals vs us → TkVs s.heap l us
  | [], vs, us, h, r => by
    rw [show vs = [] from h] at r
    cases r; rfl
  | k :: l, vs, us, ⟨v, t, e, h1, h2⟩, r => by
    subst e
    cases r with
    | cons r1 r2 => exact ⟨_, _, rfl, TkT.here I h1 r1, TkTs.here I h2 r2⟩
end
theorem KeyT.is (I : Inv X pins σ H s) {sh k : Tk} {b : Addr} (h : KeyT X.K H sh k b) : (treeKind X.prog X.w sh).is s.heap k b := ⟨h.sh, h.dp, TkT.here I h.at_ rfl⟩
theorem TrAt.dict (I : Inv X pins σ H s) {a : Addr} {sh : Tk} {es : TEs} (h : TrAt X.K X.w H a sh es) : (a == sysModules) = false ∧ ∃ vals, TRel es vals ∧ s.heap.DictOfH (treeKind X.prog X.w sh) a vals := by
  obtain ⟨⟨hd, o, ess, ep, vals, h1, h2, h3, h4, h5⟩, _, _⟩ := I.hok a _ h.ob
  refine ⟨hd, vals, h5, o, ess, ep, h1, h2, h3, h4, fun x hx => ?_, by rw [h5.keys]; exact h.nd⟩
  obtain ⟨e, he, e1, e2⟩ := h5.mem x hx
  have := (h.ks e he).is I
  rw [e1, e2] at this
  exact this
variable {A : Around} {E : Value → Shared → Prop} {a b : Addr} {sh k : Tk} {es : TEs} {u r : Value} {v : V}
end
end L2
set_option Elab.async false
set_option linter.all false
set_option maxRecDepth 100000
namespace L2
open PySem PySem.Spec PyProof.Rows
def Rise (xs : Array Nat) : Prop := xs.toList.Pairwise (· < ·)
theorem getD_lt {xs : Array Nat} {i : Nat} (h : i < xs.size) : xs.getD i 0 = xs.toList[i]'(by simpa using h) := by simp [Array.getD, h]
theorem Rise.lt {xs : Array Nat} (h : Rise xs) {i j : Nat} (hij : i < j) (hj : j < xs.size) : xs.getD i 0 < xs.getD j 0 := by
  rw [getD_lt (Nat.lt_trans hij hj), getD_lt hj]
  exact List.pairwise_iff_getElem.mp h i j _ _ hij
theorem below_go {xs : Array Nat} (h : Rise xs) (j : Nat) : ∀ (fuel lo hi : Nat), hi ≤ xs.size → lo ≤ hi → hi - lo ≤ fuel → (∀ i, i < lo → xs.getD i 0 < j) → (∀ i, hi ≤ i → i < xs.size → j ≤ xs.getD i 0) →
    SetTable.below.go xs j fuel lo hi ≤ xs.size ∧ (∀ i, i < SetTable.below.go xs j fuel lo hi → xs.getD i 0 < j) ∧ ∀ i, SetTable.below.go xs j fuel lo hi ≤ i → i < xs.size → j ≤ xs.getD i 0
  | 0, lo, hi, h1, h2, h3, h4, h5 => by
    have e : lo = hi := by omega
    subst e
    exact ⟨h1, h4, h5⟩
  | fuel + 1, lo, hi, h1, h2, h3, h4, h5 => by
    unfold SetTable.below.go
    by_cases q : lo < hi
    · rw [if_pos q]
      dsimp only
      have em : xs.getD ((lo + hi) / 2) j = xs.getD ((lo + hi) / 2) 0 := by
        have : (lo + hi) / 2 < xs.size := by omega
        simp [Array.getD, this]
      rw [em]
      by_cases z : xs.getD ((lo + hi) / 2) 0 < j
      · rw [if_pos z]
        refine below_go h j fuel _ hi h1 (by omega) (by omega) (fun i hi' => ?_) h5
        by_cases y : i = (lo + hi) / 2
        · rw [y]; exact z
        · exact Nat.lt_trans (h.lt (show i < (lo + hi) / 2 by omega) (by omega)) z
      · rw [if_neg z]
        refine below_go h j fuel lo _ (by omega) (by omega) (by omega) h4 (fun i hi' hs => ?_)
        by_cases y : i = (lo + hi) / 2
        · rw [y]; omega
        · have := h.lt (show (lo + hi) / 2 < i by omega) hs
          omega
    · rw [if_neg q]
      have e : lo = hi := by omega
      subst e
      exact ⟨h1, h4, h5⟩
theorem below_ok {xs : Array Nat} (h : Rise xs) (j : Nat) : SetTable.below xs j ≤ xs.size ∧ (∀ i, i < SetTable.below xs j → xs.getD i 0 < j) ∧ ∀ i, SetTable.below xs j ≤ i → i < xs.size → j ≤ xs.getD i 0 :=
  below_go h j _ _ _ (Nat.le_refl _) (Nat.zero_le _) (by omega) (fun i hi => absurd hi (Nat.not_lt_zero _)) (fun i h1 h2 => absurd h2 (by omega))
def NotLive (t : SetTable) (j : Nat) : Prop := t.place[SetTable.below t.place j]? ≠ some j
theorem Rise.put {t : SetTable} {j : Nat} (h : Rise t.place) (n : NotLive t j) : Rise (t.put j).1.place := by
  obtain ⟨h1, h2, h3⟩ := below_ok h j
  show Rise (SetTable.insertAt t.place (SetTable.below t.place j) j)
  unfold Rise at h ⊢
  rw [SetTable.toList_insertAt]
  rw [List.pairwise_append]
  refine ⟨h.sublist (List.take_sublist _ _), ?_, fun a ha b hb => ?_⟩
  · rw [List.pairwise_cons]
    refine ⟨fun a ha => ?_, h.sublist (List.drop_sublist _ _)⟩
    obtain ⟨i, hi, rfl⟩ := List.getElem_of_mem ha
    rw [List.getElem_drop]
    have hs : SetTable.below t.place j + i < t.place.size := by
      simp only [List.length_drop, Array.length_toList] at hi; omega
    have := h3 _ (Nat.le_add_right _ i) hs
    rw [getD_lt hs] at this
    rcases Nat.lt_or_eq_of_le this with z | z
    · exact z
    · exfalso
      cases i with
      | zero =>
        refine n ?_
        rw [Array.getElem?_eq_getElem (by simpa using hs)]
        simp only [Nat.add_zero, Array.getElem_toList] at z
        rw [← z]
      | succ i =>
        have hb : SetTable.below t.place j < t.place.size := by omega
        have y := h3 _ (Nat.le_refl _) hb
        have x := Rise.lt (xs := t.place) h (show SetTable.below t.place j < SetTable.below t.place j + (i + 1) by omega) hs
        rw [getD_lt hs, ← z] at x
        omega
  · obtain ⟨i, hi, rfl⟩ := List.getElem_of_mem ha
    have hi' : i < SetTable.below t.place j ∧ i < t.place.size := by
      simp only [List.length_take, Array.length_toList] at hi; omega
    have lt : (t.place.toList.take (SetTable.below t.place j))[i] < j := by
      rw [List.getElem_take]
      have := h2 i hi'.1
      rwa [getD_lt hi'.2] at this
    rcases List.mem_cons.mp hb with rfl | hb
    · exact lt
    · obtain ⟨k, hk, rfl⟩ := List.getElem_of_mem hb
      rw [List.getElem_drop]
      have hs : SetTable.below t.place j + k < t.place.size := by
        simp only [List.length_drop, Array.length_toList] at hk; omega
      have := h3 _ (Nat.le_add_right _ k) hs
      rw [getD_lt hs] at this
      omega
structure KeptT (t t' : SetTable) : Prop where
  ri : Rise t'.place
  led : t'.led = t.led
end L2
set_option Elab.async false
set_option linter.all false
set_option maxRecDepth 100000
namespace L2
open PySem PySem.Spec PyProof.Rows
def byText (w : World) : Bool := w.params.followText "set-order"
def SetG (w : World) (h : Heap) (a : Addr) (es : Array (Int × Value)) : Prop :=
  ∃ o ep t, h.get? a = some o ∧ o.ExactSet ∧ o.data = .set es ep t ∧ es.size < scanBound ∧ t.fits es.size = true ∧ Rise t.place ∧ t.led = !byText w
abbrev EsI (P : Program) (w : World) : List (Int × Value) → List Int → Prop := Paired fun e k => e.1 = (intKind P w).hash k ∧ ∃ t, e.2 = .int k t
section
variable {P : Program} {w : World}
theorem EsI.app {e : Int × Value} {k : Int} (he : e.1 = (intKind P w).hash k ∧ ∃ t, e.2 = .int k t) : ∀ {es : List (Int × Value)} {ks : List Int}, EsI P w es ks → EsI P w (es ++ [e]) (ks ++ [k])
  | [], _, .nil => .cons he .nil
  | e' :: es, k' :: ks, .cons h r => .cons h (EsI.app he r)
theorem EsI.len : ∀ {es : List (Int × Value)} {ks : List Int}, EsI P w es ks → es.length = ks.length
  | [], _, .nil => rfl
  | _ :: es, _ :: ks, .cons _ r => by rw [List.length_cons, List.length_cons, EsI.len r]
theorem EsI.mem {k : Int} : ∀ {es : List (Int × Value)} {ks : List Int}, EsI P w es ks → (k ∈ ks ↔ ∃ e ∈ es, (intKind P w).is k e.2 = true)
  | [], _, .nil => ⟨(fun h => by cases h), fun ⟨_, h, _⟩ => by cases h⟩
  | e :: es, k' :: ks, .cons ⟨h1, t, h2⟩ r => by
    have ih := EsI.mem (k := k) r
    rw [List.mem_cons, ih]
    constructor
    · rintro (rfl | ⟨x, hx, y⟩)
      · exact ⟨e, by simp, by rw [h2]; exact intKind_is P w k t⟩
      · exact ⟨x, List.mem_cons_of_mem _ hx, y⟩
    · rintro ⟨x, hx, y⟩
      rcases List.mem_cons.mp hx with rfl | hx
      · refine .inl ((intKind P w).inj x.2 k k' y ?_)
        rw [h2]; exact intKind_is P w k' t
      · exact .inr ⟨x, hx, y⟩
variable {A : Around} {E : Value → Shared → Prop} {s : Shared}
end
end L2
set_option Elab.async false
set_option linter.all false
set_option maxRecDepth 100000
namespace L2
open PySem PySem.Spec PyProof.Rows
section
variable {P : Program} {w : World} {A : Around} {R : Result → Shared → Prop}
end
end L2
set_option Elab.async false
set_option linter.all false
set_option maxRecDepth 100000
set_option maxHeartbeats 4000000
namespace L2
open PySem PySem.Spec PyProof.Rows
section
variable {P : Program} {w : World} {A : Around} {E : Value → Shared → Prop} {s : Shared}
end
end L2
set_option Elab.async false
set_option linter.all false
set_option maxRecDepth 100000
set_option maxHeartbeats 1000000
namespace L2
open PySem PySem.Spec PyProof.Rows
def IterAt (h : Heap) (I a : Addr) (n ep : Nat) (f : Value) (i : Nat) : Prop :=
  ∃ o, h.get? I = some o ∧ o.cls = .type "set_iterator" ∧ o.data = .fields #[f, .int i 0, .ref a, .int n 0, .int ep 0]
def SetAtX (h : Heap) (a : Addr) (es : Array (Int × Value)) (ep : Nat) (t : SetTable) : Prop := ∃ o, h.get? a = some o ∧ o.ExactSet ∧ o.data = .set es ep t
section
variable {P : Program} {w : World} {A : Around} {E : Value → Shared → Prop} {s : Shared} {I a : Addr} {es : Array (Int × Value)} {ep i : Nat} {t : SetTable} {f x : Value}
theorem IterAt.typeIs {n : Nat} (h : IterAt s.heap I a n ep f i) : s.TypeIs (.ref I) "set_iterator" := let ⟨o, ho, hc, _⟩ := h; ⟨o, ho, hc⟩
theorem IterAt.keep {h h' : Heap} {n : Nat} (x : IterAt h I a n ep f i) (k : ∀ o, h.get? I = some o → h'.get? I = some o) : IterAt h' I a n ep f i := let ⟨o, ho, r⟩ := x; ⟨o, k o ho, r⟩
theorem SetAtX.keep {h h' : Heap} (x : SetAtX h a es ep t) (k : ∀ o, h.get? a = some o → h'.get? a = some o) : SetAtX h' a es ep t := let ⟨o, ho, r⟩ := x; ⟨o, k o ho, r⟩
end
end L2
set_option Elab.async false
set_option linter.all false
set_option maxRecDepth 100000
set_option maxHeartbeats 1000000
namespace L2
open PySem PySem.Spec PyProof.Rows
section
variable {P : Program} {w : World} {A : Around} {E : Value → Shared → Prop} {s : Shared} {I a : Addr} {es : Array (Int × Value)}
end
end L2
set_option Elab.async false
set_option linter.all false
set_option maxRecDepth 100000
set_option maxHeartbeats 1000000
namespace L2
open PySem PySem.Spec PyProof.Rows
section
variable {P : Program} {w : World} {A : Around} {E : Value → Shared → Prop} {s : Shared} {I a T : Addr} {es : Array (Int × Value)} {ep : Nat} {t : SetTable}
end
end L2
set_option Elab.async false
set_option linter.all false
set_option maxRecDepth 100000
set_option maxHeartbeats 1000000
namespace L2
open PySem PySem.Spec PyProof.Rows
section
variable {P : Program} {w : World} {A : Around} {E : Value → Shared → Prop} {s : Shared} {a : Addr} {es : Array (Int × Value)}
end
end L2
set_option Elab.async false
set_option linter.all false
set_option maxRecDepth 100000
set_option maxHeartbeats 1000000
namespace L2
open PySem PySem.Spec PyProof.Rows
section
variable {P : Program} {w : World} {A : Around} {E : Value → Shared → Prop} {s : Shared} {a r : Addr} {es : Array (Int × Value)}
theorem SetG.keep {h h' : Heap} (x : SetG w h a es) (k : ∀ o, h.get? a = some o → h'.get? a = some o) : SetG w h' a es := let ⟨o, ep, t, ho, r⟩ := x; ⟨o, ep, t, k o ho, r⟩
theorem SetG.typeIs (x : SetG w s.heap a es) : s.TypeIs (.ref a) "set" := let ⟨o, _, _, ho, hx, _⟩ := x; ⟨o, ho, hx.1⟩
end
end L2
set_option Elab.async false
set_option linter.all false
set_option maxRecDepth 100000
set_option maxHeartbeats 1000000
namespace L2
open PySem PySem.Spec PyProof.Rows
section
variable {P : Program} {w : World} {A : Around} {E : Value → Shared → Prop} {s : Shared} {a : Addr} {es : Array (Int × Value)}
end
def setO (w : World) (a : Addr) (ks : List Int) : HO := .ext fun h => ∃ es ks', SetG w h a es ∧ (∀ P : Program, EsI P w es.toList ks') ∧ ks'.Perm ks
section
variable {X : Cx} {pins : List (Addr × Obj)} {σ : St} {H : Hp} {s : Shared}
end
end L2
set_option Elab.async false
namespace L2
open PySem
def excAt (a : Addr) (C : Value) : HO := .ext fun h => ∃ o ws, h.get? a = some o ∧ o.cls = C ∧ o.data = .fields ws
end L2
set_option Elab.async false
set_option linter.all false
set_option maxRecDepth 100000
set_option autoImplicit false
namespace DL
open PySem L2
inductive D where
  | non | bl (b : Bool) | int (i : Int) | str (x : Str) | ty (n : String) | ref (l : Nat) | tup (xs : List D)
mutual
def D.beq : D → D → Bool
  | .non, .non => true
  | .bl a, .bl b => a == b
  | .int a, .int b => decide (a = b)
  | .str a, .str b => decide (a = b)
  | .ty a, .ty b => decide (a = b)
  | .ref a, .ref b => decide (a = b)
  | .tup a, .tup b => D.beqs a b
  | _, _ => false
def D.beqs : List D → List D → Bool
  | [], [] => true
  | a :: as, b :: bs => D.beq a b && D.beqs as bs
  | _, _ => false
end
mutual
theorem D.beq_eq : ∀ (a b : D), D.beq a b = true → a = b
  | .non, b, h => by cases b <;> first | rfl | (simp [D.beq] at h)
  | .bl a, b, h => by cases b <;> simp [D.beq] at h; rw [h]
  | .int a, b, h => by cases b <;> simp [D.beq] at h; rw [h]
  | .str a, b, h => by cases b <;> simp [D.beq] at h; rw [h]
  | .ty a, b, h => by cases b <;> simp [D.beq] at h; rw [h]
  | .ref a, b, h => by cases b <;> simp [D.beq] at h; rw [h]
  | .tup a, b, h => by
    cases b <;> simp only [D.beq, Bool.false_eq_true] at h
    rw [D.beqs_eq a _ h]
theorem D.beqs_eq : ∀ (a b : List D), D.beqs a b = true → a = b
  | [], b, h => by cases b <;> first | rfl | (simp [D.beqs] at h)
  | a :: as, b, h => by
    cases b with
    | nil => simp [D.beqs] at h
    | cons b bs =>
      simp only [D.beqs, Bool.and_eq_true] at h
      rw [D.beq_eq a b h.1, D.beqs_eq as bs h.2]
end
mutual
theorem D.beq_rfl : ∀ (a : D), D.beq a a = true
  | .non => rfl
  | .bl a => by simp [D.beq]
  | .int a => by simp [D.beq]
  | .str a => by simp [D.beq]
  | .ty a => by simp [D.beq]
  | .ref a => by simp [D.beq]
  | .tup a => by simp only [D.beq]; exact D.beqs_rfl a
theorem D.beqs_rfl : ∀ (a : List D), D.beqs a a = true
  | [] => rfl
  | a :: as => by simp only [D.beqs, Bool.and_eq_true]; exact ⟨D.beq_rfl a, D.beqs_rfl as⟩
end
instance : DecidableEq D := fun a b => if h : D.beq a b = true then .isTrue (D.beq_eq a b h) else .isFalse (fun e => h (by rw [e]; exact D.beq_rfl b))
structure CloT where
  x : Txt
  p : Str
  caps : List Str
structure Bs where
  tabs : List Addr
  ct : Nat → Option CloT
  cls : Nat → Option Addr := fun _ => none
  pl : Nat → Option Addr := fun _ => none
  wo : Option World := none
inductive XO where
  | cod (n : Nat) | codR (n : Nat) | clo (n : Nat) (ds : List D) | dead | ins (n : Nat) (fs : List (Str × D)) | insR (n : Nat) (fs : List (Str × D)) | dtr (kvs : List (Tk × D)) | dtrR (kvs : List (Tk × D)) | st (ks : List Int) | stR (ks : List Int) | exc (n : Nat)
  deriving DecidableEq
def XO.ro : XO → Bool
  | .cod _ => false
  | .ins _ _ => false
  | .dtr _ => false
  | .st _ => false
  | _ => true
def XO.toRo : XO → XO
  | .cod n => .codR n
  | .ins n fs => .insR n fs
  | .dtr k => .dtrR k
  | .st k => .stR k
  | o => o
inductive MO where
  | lst (xs : List D) | rol (xs : List D) | dic (kvs : List (Key × D)) | rod (kvs : List (Key × D)) | x (o : XO)
  deriving DecidableEq
def MO.ro : MO → Bool
  | .x o => o.ro
  | .lst _ => false
  | .dic _ => false
  | .rol _ => true
  | .rod _ => true
abbrev Sto := List MO
abbrev Lm := List Addr
section
variable (K : PySem.W.Frag)
mutual
def Rp (ι : Lm) (H : Hp) : D → V → Prop
  | .non, v => v = .non
  | .bl b, v => v = .bl b
  | .int i, v => v = .int i
  | .str x, v => v = .str x
  | .ty n, v => v = .ty n
  | .ref l, v => ∃ a, ι[l]? = some a ∧ v = .ref a
  | .tup ds, v => ∃ a vs, v = .ref a ∧ SqT K H a vs ∧ Rps ι H ds vs
def Rps (ι : Lm) (H : Hp) : List D → List V → Prop
  | [], vs => vs = []
  | d :: ds, vs => ∃ v r, vs = v :: r ∧ Rp ι H d v ∧ Rps ι H ds r
end
def RpK (ι : Lm) (H : Hp) : List (Key × D) → List (Key × V) → Prop
  | [], ws => ws = []
  | (k, d) :: r, ws => ∃ v t, ws = (k, v) :: t ∧ Rp K ι H d v ∧ RpK ι H r t
def RpW (ι : Lm) (H : Hp) : List (Tk × D) → TEs → Prop
  | [], es => es = []
  | (k, d) :: r, es => ∃ b v t, es = (k, b, v) :: t ∧ Rp K ι H d v ∧ RpW ι H r t
def ObX (B : Bs) (ι : Lm) (H : Hp) (a : Addr) : XO → Prop
  | .cod n => B.pl n = some a ∧ ∃ cs, H a = some (tabC a cs) ∧ ∀ c ∈ cs, H c = some (codeO c) ∧ c ∉ ι
  | .codR n => B.pl n = some a ∧ ∃ cs, H a = some (tabC a cs) ∧ ∀ c ∈ cs, H c = some (codeO c) ∧ c ∉ ι
  | .clo n ds => ∃ T clos c o qs, B.ct n = some T ∧ CloK H a T.x T.caps clos c o qs ∧ c ∉ ι ∧ (∀ z ∈ qs, z.1.1 ∉ ι) ∧ Rps K ι H ds (qs.map (·.2))
  | .dead => ∃ φ, H a = some (.ext φ)
  | .ins n fs => ∃ C dx ws, B.cls n = some C ∧ H a = some (.ins C dx ws) ∧ H dx = some (.own a) ∧ dx ∉ ι ∧ ws.map (·.1) = fs.map (·.1) ∧ Rps K ι H (fs.map (·.2)) (ws.map (·.2))
  | .insR n fs => ∃ C dx ws, B.cls n = some C ∧ H a = some (.ins C dx ws) ∧ H dx = some (.own a) ∧ dx ∉ ι ∧ ws.map (·.1) = fs.map (·.1) ∧ Rps K ι H (fs.map (·.2)) (ws.map (·.2))
  | .dtr kvs => ∃ w es sh, B.wo = some w ∧ TrAt K w H a sh es ∧ RpW K ι H kvs es
  | .dtrR kvs => ∃ w es sh, B.wo = some w ∧ TrAt K w H a sh es ∧ RpW K ι H kvs es
  | .st ks => ∃ w, B.wo = some w ∧ H a = some (setO w a ks)
  | .stR ks => ∃ w, B.wo = some w ∧ H a = some (setO w a ks)
  | .exc n => ∃ C, B.cls n = some C ∧ H a = some (excAt a (.ref C))
def ObR (B : Bs) (ι : Lm) (H : Hp) (a : Addr) : MO → Prop
  | .x o => ObX K B ι H a o
  | .lst ds => ∃ vs, H a = some (.lst vs) ∧ Rps K ι H ds vs
  | .rol ds => ∃ vs, Rd H a (.lst vs) ∧ Rps K ι H ds vs
  | .dic kvs => ∃ ws, H a = some (.dK ws) ∧ RpK K ι H kvs ws
  | .rod kvs => ∃ ws, Rd H a (.dK ws) ∧ RpK K ι H kvs ws
structure HR (B : Bs) (ι : Lm) (S : Sto) (H : Hp) : Prop where
  len : ι.length = S.length
  nodup : ι.Nodup
  ob : ∀ (l : Nat) m a, S[l]? = some m → ι[l]? = some a → ObR K B ι H a m
  nd : Nd H
  tb : ∀ P ∈ B.tabs, P ∉ ι ∧ H P = some (tabO P)
structure Fr (ι : Lm) (S : Sto) (H : Hp) (ι' : Lm) (S' : Sto) (H' : Hp) : Prop where
  pre : ∃ t, ι' = ι ++ t
  hid : ∀ a o, H a = some o → a ∉ ι → H' a = some o ∧ a ∉ ι'
  rd : ∀ (l : Nat) m a, S[l]? = some m → m.ro = true → ι[l]? = some a → H' a = H a ∧ S'[l]? = some m
end
section
variable {B : Bs} {K : PySem.W.Frag} {ι ι' ι1 ι2 : Lm} {S S' S1 S2 : Sto} {H H' H1 H2 : Hp}
theorem Fr.refl : Fr ι S H ι S H := ⟨⟨[], by simp⟩, fun _ _ e n => ⟨e, n⟩, fun _ _ _ e _ _ => ⟨rfl, e⟩⟩
theorem Fr.pre_at (f : Fr ι S H ι' S' H') {l : Nat} {a : Addr} (h : ι[l]? = some a) : ι'[l]? = some a := by
  obtain ⟨t, rfl⟩ := f.pre
  rw [List.getElem?_append_left (List.getElem?_eq_some_iff.mp h).1]
  exact h
theorem Fr.trans (f : Fr ι S H ι1 S1 H1) (g : Fr ι1 S1 H1 ι2 S2 H2) : Fr ι S H ι2 S2 H2 :=
  ⟨by obtain ⟨t, rfl⟩ := f.pre; obtain ⟨u, rfl⟩ := g.pre; exact ⟨t ++ u, by simp⟩,
   fun c o e n => g.hid c o (f.hid c o e n).1 (f.hid c o e n).2,
   fun l m a e r h => ⟨(g.rd l m a (f.rd l m a e r h).2 r (f.pre_at h)).1.trans (f.rd l m a e r h).1, (g.rd l m a (f.rd l m a e r h).2 r (f.pre_at h)).2⟩⟩
theorem mem_at {l : Lm} {a : Addr} (h : a ∈ l) : ∃ i : Nat, l[i]? = some a := by
  obtain ⟨i, hi, e⟩ := List.getElem_of_mem h
  exact ⟨i, by rw [List.getElem?_eq_getElem hi, e]⟩
theorem HR.at (h : HR K B ι S H) {l : Nat} {m : MO} (e : S[l]? = some m) : ∃ a, ι[l]? = some a ∧ ObR K B ι H a m := by
  have hl : l < ι.length := by rw [h.len]; exact (List.getElem?_eq_some_iff.mp e).1
  exact ⟨ι[l], List.getElem?_eq_getElem hl, h.ob l m _ e (List.getElem?_eq_getElem hl)⟩
theorem HR.in (h : HR K B ι S H) {a : Addr} (e : a ∈ ι) : ∃ (l : Nat) (m : MO), S[l]? = some m ∧ ι[l]? = some a ∧ ObR K B ι H a m := by
  obtain ⟨l, q⟩ := mem_at e
  have hl : l < S.length := by rw [← h.len]; exact (List.getElem?_eq_some_iff.mp q).1
  exact ⟨l, S[l], List.getElem?_eq_getElem hl, q, h.ob l _ a (List.getElem?_eq_getElem hl) q⟩
def NoTup (o : HO) : Prop := ∀ vs, o ≠ .tup vs ∧ ∀ ob, o ≠ .frz ob (.tup vs)
theorem ObX.some {a : Addr} {o : XO} (h : ObX K B ι H a o) : ∃ u, H a = some u ∧ NoTup u := by
  have n1 : ∀ φ, NoTup (.ext φ) := fun φ vs => ⟨(by intro z; cases z), by intro _ z; cases z⟩
  have n2 : ∀ C dx ws, NoTup (.ins C dx ws) := fun C dx ws vs => ⟨(by intro z; cases z), by intro _ z; cases z⟩
  cases o with
  | cod => obtain ⟨_, _, z, _⟩ := h; exact ⟨_, z, n1 _⟩
  | codR => obtain ⟨_, _, z, _⟩ := h; exact ⟨_, z, n1 _⟩
  | clo n ds => obtain ⟨_, _, _, _, _, _, k, _⟩ := h; exact ⟨_, k.fn, n1 _⟩
  | dead => obtain ⟨φ, z⟩ := h; exact ⟨_, z, n1 φ⟩
  | ins n fs => obtain ⟨_, _, _, _, z, _⟩ := h; exact ⟨_, z, n2 _ _ _⟩
  | insR n fs => obtain ⟨_, _, _, _, z, _⟩ := h; exact ⟨_, z, n2 _ _ _⟩
  | dtr kvs => obtain ⟨_, _, _, _, z, _⟩ := h; exact ⟨_, z.ob, n1 _⟩
  | dtrR kvs => obtain ⟨_, _, _, _, z, _⟩ := h; exact ⟨_, z.ob, n1 _⟩
  | st ks => obtain ⟨_, _, z⟩ := h; exact ⟨_, z, n1 _⟩
  | stR ks => obtain ⟨_, _, z⟩ := h; exact ⟨_, z, n1 _⟩
  | exc n => obtain ⟨_, _, z⟩ := h; exact ⟨_, z, n1 _⟩
theorem HR.notup (h : HR K B ι S H) {a : Addr} {vs : List V} (e : Rd H a (.tup vs)) : a ∉ ι := fun q => by
  obtain ⟨l, m, _, _, x⟩ := h.in q
  have key : ∀ o, H a = some o → o ≠ .tup vs ∧ ∀ ob, o ≠ .frz ob (.tup vs) := fun o q => by
    cases m with
    | lst _ => obtain ⟨_, z, _⟩ := x; rw [q] at z; cases z; exact ⟨(by intro z; cases z), (by intro _ z; cases z)⟩
    | rol _ =>
      obtain ⟨_, z | ⟨ob, z⟩, _⟩ := x
      · rw [q] at z; cases z; exact ⟨(by intro z; cases z), (by intro _ z; cases z)⟩
      · rw [q] at z; cases z; exact ⟨(by intro z; cases z), (by intro _ z; cases z)⟩
    | dic _ => obtain ⟨_, z, _⟩ := x; rw [q] at z; cases z; exact ⟨(by intro z; cases z), (by intro _ z; cases z)⟩
    | rod _ =>
      obtain ⟨_, z | ⟨ob, z⟩, _⟩ := x
      · rw [q] at z; cases z; exact ⟨(by intro z; cases z), (by intro _ z; cases z)⟩
      · rw [q] at z; cases z; exact ⟨(by intro z; cases z), (by intro _ z; cases z)⟩
    | x _ => obtain ⟨_, z, nt⟩ := ObX.some (show ObX K B ι H a _ from x); rw [q] at z; cases z; exact nt vs
  rcases e with e | ⟨ob, e⟩
  · exact (key _ e).1 rfl
  · exact (key _ e).2 ob rfl
theorem HR.none_notin (h : HR K B ι S H) {p : Addr} (n : H p = none) : p ∉ ι := fun q => by
  obtain ⟨l, m, _, _, x⟩ := h.in q
  cases m with
  | lst _ => obtain ⟨_, z, _⟩ := x; rw [n] at z; cases z
  | rol _ =>
    obtain ⟨_, z | ⟨ob, z⟩, _⟩ := x
    · rw [n] at z; cases z
    · rw [n] at z; cases z
  | dic _ => obtain ⟨_, z, _⟩ := x; rw [n] at z; cases z
  | rod _ =>
    obtain ⟨_, z | ⟨ob, z⟩, _⟩ := x
    · rw [n] at z; cases z
    · rw [n] at z; cases z
  | x _ => obtain ⟨_, z, _⟩ := ObX.some (show ObX K B ι H p _ from x); rw [n] at z; cases z
structure Ext (K : PySem.W.Frag) (ι : Lm) (H : Hp) (ι' : Lm) (H' : Hp) : Prop where
  pre : ∀ (l : Nat) a, ι[l]? = some a → ι'[l]? = some a
  tup : ∀ a vs, SqT K H a vs → SqT K H' a vs
  xt : ∀ c o, H c = some o → c ∉ ι → H' c = some o ∧ c ∉ ι'
theorem Fr.ext (f : Fr ι S H ι' S' H') (h : HR K B ι S H) : Ext K ι H ι' H' := ⟨fun l a e => f.pre_at e, fun a vs e => by
  rcases e with e | e
  · have n := h.notup e
    rcases e with e | ⟨ob, e⟩
    · exact .inl (.inl (f.hid a _ e n).1)
    · exact .inl (.inr ⟨ob, (f.hid a _ e n).1⟩)
  · exact .inr e, fun c φ e n => f.hid c _ e n⟩
mutual
theorem Rp.ext (E : Ext K ι H ι' H') : ∀ (d : D) (v : V), Rp K ι H d v → Rp K ι' H' d v
  | .non, _, h => h
  | .bl _, _, h => h
  | .int _, _, h => h
  | .str _, _, h => h
  | .ty _, _, h => h
  | .ref _, _, h => by obtain ⟨a, e, q⟩ := h; exact ⟨a, E.pre _ a e, q⟩
  | .tup ds, v, h => by
    obtain ⟨a, vs, e, q, r⟩ := h
    exact ⟨a, vs, e, E.tup a vs q, Rps.ext E ds vs r⟩
theorem Rps.ext (E : Ext K ι H ι' H') : ∀ (ds : List D) (vs : List V), Rps K ι H ds vs → Rps K ι' H' ds vs
  | [], _, h => h
  | d :: ds, vs, h => by
    obtain ⟨v, r, e, h1, h2⟩ := h
    exact ⟨v, r, e, Rp.ext E d v h1, Rps.ext E ds r h2⟩
end
theorem RpK.ext (E : Ext K ι H ι' H') : ∀ (ds : List (Key × D)) (vs : List (Key × V)), RpK K ι H ds vs → RpK K ι' H' ds vs
  | [], _, h => h
  | (k, d) :: ds, vs, h => by
    obtain ⟨v, r, e, h1, h2⟩ := h
    exact ⟨v, r, e, Rp.ext E d v h1, RpK.ext E ds r h2⟩
theorem RpW.ext (E : Ext K ι H ι' H') : ∀ (ds : List (Tk × D)) (vs : TEs), RpW K ι H ds vs → RpW K ι' H' ds vs
  | [], _, h => h
  | (k, d) :: ds, vs, h => by
    obtain ⟨b, v, r, e, h1, h2⟩ := h
    exact ⟨b, v, r, e, Rp.ext E d v h1, RpW.ext E ds r h2⟩
theorem clok_ext {x : Txt} {caps : List Str} {clos : List (Str × Addr)} {a c : Addr} {o : Obj} {qs : List ((Addr × Obj) × V)} (E : Ext K ι H ι' H') (e : H' a = H a) (k : CloK H a x caps clos c o qs) (hc : c ∉ ι) (hq : ∀ z ∈ qs, z.1.1 ∉ ι) : CloK H' a x caps clos c o qs :=
  ⟨e.trans k.fn, k.ob, (E.xt _ _ k.cd hc).1, k.cap, k.dom, k.nd, fun z hz => (E.xt _ _ (k.tr z hz) (hq z hz)).1⟩
theorem ObX.ext {a : Addr} {o : XO} (E : Ext K ι H ι' H') (e : H' a = H a) (h : ObX K B ι H a o) : ObX K B ι' H' a o := by
  cases o with
  | cod => obtain ⟨hp, cs, q, r⟩ := h; exact ⟨hp, cs, e.trans q, fun c hc => E.xt c _ (r c hc).1 (r c hc).2⟩
  | codR => obtain ⟨hp, cs, q, r⟩ := h; exact ⟨hp, cs, e.trans q, fun c hc => E.xt c _ (r c hc).1 (r c hc).2⟩
  | clo n ds =>
    obtain ⟨T, clos, c, ob, qs, h1, k, h2, h3, h4⟩ := h
    exact ⟨T, clos, c, ob, qs, h1, clok_ext E e k h2 h3, (E.xt _ _ k.cd h2).2, fun z hz => (E.xt _ _ (k.tr z hz) (h3 z hz)).2, Rps.ext E _ _ h4⟩
  | dead => obtain ⟨φ, q⟩ := h; exact ⟨φ, e.trans q⟩
  | ins n fs =>
    obtain ⟨C, dx, ws, h1, h2, h3, h4, h5, h6⟩ := h
    exact ⟨C, dx, ws, h1, e.trans h2, (E.xt _ _ h3 h4).1, (E.xt _ _ h3 h4).2, h5, Rps.ext E _ _ h6⟩
  | insR n fs =>
    obtain ⟨C, dx, ws, h1, h2, h3, h4, h5, h6⟩ := h
    exact ⟨C, dx, ws, h1, e.trans h2, (E.xt _ _ h3 h4).1, (E.xt _ _ h3 h4).2, h5, Rps.ext E _ _ h6⟩
  | dtr kvs =>
    obtain ⟨w, es, sh, h1, h2, h3⟩ := h
    exact ⟨w, es, sh, h1, h2.tup E.tup (e.trans h2.ob), RpW.ext E _ _ h3⟩
  | dtrR kvs =>
    obtain ⟨w, es, sh, h1, h2, h3⟩ := h
    exact ⟨w, es, sh, h1, h2.tup E.tup (e.trans h2.ob), RpW.ext E _ _ h3⟩
  | st ks => obtain ⟨w, h1, h2⟩ := h; exact ⟨w, h1, e.trans h2⟩
  | stR ks => obtain ⟨w, h1, h2⟩ := h; exact ⟨w, h1, e.trans h2⟩
  | exc n => obtain ⟨C, h1, h2⟩ := h; exact ⟨C, h1, e.trans h2⟩
theorem ObR.ext {a : Addr} {m : MO} (E : Ext K ι H ι' H') (e : H' a = H a) (h : ObR K B ι H a m) : ObR K B ι' H' a m := by
  cases m with
  | x _ => exact ObX.ext E e h
  | lst ds => obtain ⟨vs, q, r⟩ := h; exact ⟨vs, e.trans q, Rps.ext E _ _ r⟩
  | rol ds =>
    obtain ⟨vs, q, r⟩ := h
    refine ⟨vs, ?_, Rps.ext E _ _ r⟩
    rcases q with q | ⟨ob, q⟩
    · exact .inl (e.trans q)
    · exact .inr ⟨ob, e.trans q⟩
  | dic ds => obtain ⟨vs, q, r⟩ := h; exact ⟨vs, e.trans q, RpK.ext E _ _ r⟩
  | rod ds =>
    obtain ⟨vs, q, r⟩ := h
    refine ⟨vs, ?_, RpK.ext E _ _ r⟩
    rcases q with q | ⟨ob, q⟩
    · exact .inl (e.trans q)
    · exact .inr ⟨ob, e.trans q⟩
end
section
variable {B : Bs} {K : PySem.W.Frag} {ι : Lm} {H : Hp}
theorem Rps.length : ∀ {ds : List D} {vs : List V}, Rps K ι H ds vs → ds.length = vs.length
  | [], _, h => by rw [show _ = [] from h]; rfl
  | d :: ds, vs, h => by
    obtain ⟨v, r, e, _, h2⟩ := h
    rw [e, List.length_cons, List.length_cons, Rps.length h2]
theorem Rps.at : ∀ {ds : List D} {vs : List V} {i : Nat} {d : D}, Rps K ι H ds vs → ds[i]? = some d → ∃ v, vs[i]? = some v ∧ Rp K ι H d v
  | [], _, _, _, _, e => by simp at e
  | d :: ds, vs, 0, d', h, e => by
    obtain ⟨v, r, rfl, h1, _⟩ := h
    simp at e; subst e
    exact ⟨v, rfl, h1⟩
  | d :: ds, vs, i + 1, d', h, e => by
    obtain ⟨v, r, rfl, _, h2⟩ := h
    obtain ⟨u, q, z⟩ := Rps.at (i := i) (d := d') h2 (by simpa using e)
    exact ⟨u, by simpa using q, z⟩
theorem Rps.atV : ∀ {ds : List D} {vs : List V} {i : Nat} {v : V}, Rps K ι H ds vs → vs[i]? = some v → ∃ d, ds[i]? = some d ∧ Rp K ι H d v
  | [], vs, _, _, h, e => by rw [show vs = [] from h] at e; simp at e
  | d :: ds, vs, 0, v', h, e => by
    obtain ⟨v, r, rfl, h1, _⟩ := h
    simp at e; subst e
    exact ⟨d, rfl, h1⟩
  | d :: ds, vs, i + 1, v', h, e => by
    obtain ⟨v, r, rfl, _, h2⟩ := h
    obtain ⟨u, q, z⟩ := Rps.atV (i := i) (v := v') h2 (by simpa using e)
    exact ⟨u, by simpa using q, z⟩
theorem Rps.app : ∀ {ds es : List D} {vs us : List V}, Rps K ι H ds vs → Rps K ι H es us → Rps K ι H (ds ++ es) (vs ++ us)
  | [], _, _, _, h, g => by rw [show _ = [] from h]; exact g
  | d :: ds, es, vs, us, h, g => by
    obtain ⟨v, r, rfl, h1, h2⟩ := h
    exact ⟨v, r ++ us, rfl, h1, Rps.app h2 g⟩
theorem Rps.take : ∀ {ds : List D} {vs : List V} (n : Nat), Rps K ι H ds vs → Rps K ι H (ds.take n) (vs.take n)
  | _, _, 0, _ => rfl
  | [], _, _ + 1, h => by rw [show _ = [] from h]; rfl
  | d :: ds, vs, n + 1, h => by
    obtain ⟨v, r, rfl, h1, h2⟩ := h
    exact ⟨v, r.take n, rfl, h1, Rps.take n h2⟩
theorem Rps.drop : ∀ {ds : List D} {vs : List V} (n : Nat), Rps K ι H ds vs → Rps K ι H (ds.drop n) (vs.drop n)
  | _, _, 0, h => h
  | [], _, _ + 1, h => by rw [show _ = [] from h]; rfl
  | d :: ds, vs, n + 1, h => by
    obtain ⟨v, r, rfl, h1, h2⟩ := h
    exact Rps.drop n h2
theorem Rps.set {d : D} {v : V} (z : Rp K ι H d v) : ∀ {ds : List D} {vs : List V} (n : Nat), Rps K ι H ds vs → Rps K ι H (ds.set n d) (vs.set n v)
  | [], _, _, h => by rw [show _ = [] from h]; rfl
  | _ :: ds, vs, 0, h => by
    obtain ⟨w, r, rfl, _, h2⟩ := h
    exact ⟨v, r, rfl, z, h2⟩
  | e :: ds, vs, n + 1, h => by
    obtain ⟨w, r, rfl, h1, h2⟩ := h
    exact ⟨w, r.set n v, rfl, h1, Rps.set z n h2⟩
theorem Rps.ints : ∀ {ns : List Int} {vs : List V}, Rps K ι H (ns.map D.int) vs → vs = ns.map V.int
  | [], _, h => h
  | n :: ns, vs, h => by
    obtain ⟨v, r, rfl, h1, h2⟩ := h
    rw [List.map_cons, show v = .int n from h1, Rps.ints h2]
theorem Rps.strs : ∀ {ns : List Str} {vs : List V}, Rps K ι H (ns.map D.str) vs → vs = ns.map V.str
  | [], _, h => h
  | n :: ns, vs, h => by
    obtain ⟨v, r, rfl, h1, h2⟩ := h
    rw [List.map_cons, show v = .str n from h1, Rps.strs h2]
theorem Rps.rep {ds : List D} {vs : List V} (r : Rps K ι H ds vs) : ∀ n : Nat, Rps K ι H (List.replicate n ds).flatten (List.replicate n vs).flatten
  | 0 => rfl
  | n + 1 => by rw [List.replicate_succ, List.flatten_cons, List.replicate_succ, List.flatten_cons]; exact r.app (Rps.rep r n)
theorem Rps.rev : ∀ {ds : List D} {vs : List V}, Rps K ι H ds vs → Rps K ι H ds.reverse vs.reverse
  | [], _, h => by rw [show _ = [] from h]; rfl
  | d :: ds, vs, h => by
    obtain ⟨v, r, rfl, h1, h2⟩ := h
    rw [List.reverse_cons, List.reverse_cons]
    exact (Rps.rev h2).app ⟨v, [], rfl, h1, rfl⟩
end
section
variable {B : Bs} {K : PySem.W.Frag} {ι : Lm} {S : Sto} {H : Hp} {p : Addr} {o : HO} {m k : MO} {l : Nat}
theorem Ext.new (n : H p = none) : Ext K ι H (ι ++ [p]) (upd H p o) := ⟨fun l a e => by
  rw [List.getElem?_append_left (List.getElem?_eq_some_iff.mp e).1]; exact e, fun a vs e => by
  rcases e with (e | ⟨ob, e⟩) | e
  · exact .inl (.inl (by rw [upd_ne (ne_of_none e n)]; exact e))
  · exact .inl (.inr ⟨ob, by rw [upd_ne (ne_of_none e n)]; exact e⟩)
  · exact .inr e, fun c φ e g => ⟨by rw [upd_ne (ne_of_none e n)]; exact e, fun z => by
    rcases List.mem_append.mp z with z | z
    · exact g z
    · have z' : c = p := by simpa using z
      rw [z', n] at e; cases e⟩⟩
theorem Ext.newT (n : H p = none) : Ext K ι H ι (upd H p o) := ⟨fun l a e => e, fun a vs e => by
  rcases e with (e | ⟨ob, e⟩) | e
  · exact .inl (.inl (by rw [upd_ne (ne_of_none e n)]; exact e))
  · exact .inl (.inr ⟨ob, by rw [upd_ne (ne_of_none e n)]; exact e⟩)
  · exact .inr e, fun c φ e g => ⟨by rw [upd_ne (ne_of_none e n)]; exact e, g⟩⟩
theorem nd_upd (h : Nd H) (n : noDT o) : Nd (upd H p o) := fun b u q => by
  by_cases e : b = p
  · subst e; rw [upd_same] at q; cases q; exact n
  · rw [upd_ne e] at q; exact h b u q
theorem at_ne (h : HR K B ι S H) (n : p ∉ ι) {a : Addr} (e : ι[l]? = some a) : a ≠ p := fun z => n (by rw [← z]; exact List.mem_of_getElem? e)
theorem HR.new (h : HR K B ι S H) (n : H p = none) (x : ObR K B (ι ++ [p]) (upd H p o) p m) (nd : noDT o) : HR K B (ι ++ [p]) (S ++ [m]) (upd H p o) where
  len := by rw [List.length_append, List.length_append, h.len]; rfl
  nodup := by
    rw [List.nodup_append]
    exact ⟨h.nodup, by simp, fun a ha b hb z => h.none_notin n (by
      have e : b = p := by simpa using hb
      rw [← e, ← z]; exact ha)⟩
  ob := fun i k a e q => by
    by_cases hi : i < S.length
    · rw [List.getElem?_append_left hi] at e
      rw [List.getElem?_append_left (by rw [h.len]; exact hi)] at q
      exact (h.ob i k a e q).ext (.new n) (upd_ne (at_ne h (h.none_notin n) q))
    · rw [List.getElem?_append_right (by omega)] at e
      rw [List.getElem?_append_right (by rw [h.len]; omega), h.len] at q
      have e0 : i - S.length = 0 := by
        have := (List.getElem?_eq_some_iff.mp e).1
        simp at this; omega
      rw [e0] at e q
      simp at e q
      subst e; subst q
      exact x
  nd := nd_upd h.nd nd
  tb := fun P hP => ⟨fun z => by
    rcases List.mem_append.mp z with z | z
    · exact (h.tb P hP).1 z
    · have z' : P = p := by simpa using z
      have := (h.tb P hP).2
      have w : H P = none := z' ▸ n
      rw [w] at this; exact (nomatch this), by rw [upd_ne (ne_of_none (h.tb P hP).2 n)]; exact (h.tb P hP).2⟩
theorem HR.newT {vs : List V} (h : HR K B ι S H) (n : H p = none) : HR K B ι S (upd H p (.tup vs)) where
  len := h.len
  nodup := h.nodup
  ob := fun i k a e q => (h.ob i k a e q).ext (.newT n) (upd_ne (at_ne h (h.none_notin n) q))
  nd := nd_upd h.nd trivial
  tb := fun P hP => ⟨(h.tb P hP).1, by rw [upd_ne (ne_of_none (h.tb P hP).2 n)]; exact (h.tb P hP).2⟩
theorem Fr.new (h : HR K B ι S H) (n : H p = none) : Fr ι S H (ι ++ [p]) (S ++ [m]) (upd H p o) where
  pre := ⟨[p], rfl⟩
  hid := fun a u e g => ⟨by rw [upd_ne (ne_of_none e n)]; exact e, fun z => by
    rcases List.mem_append.mp z with z | z
    · exact g z
    · have z' : a = p := by simpa using z
      rw [z', n] at e; cases e⟩
  rd := fun i k a e r q => ⟨upd_ne (at_ne h (h.none_notin n) q), by rw [List.getElem?_append_left (List.getElem?_eq_some_iff.mp e).1]; exact e⟩
theorem Fr.newT (h : HR K B ι S H) (n : H p = none) : Fr ι S H ι S (upd H p o) where
  pre := ⟨[], by simp⟩
  hid := fun a u e g => ⟨by rw [upd_ne (ne_of_none e n)]; exact e, g⟩
  rd := fun i k a e r q => ⟨upd_ne (at_ne h (h.none_notin n) q), e⟩
theorem Ext.set (h : HR K B ι S H) (e : ι[l]? = some p) : Ext K ι H ι (upd H p o) := ⟨fun l a e => e, fun a vs q => by
  rcases q with q | q
  · have n := h.notup q
    have ne : a ≠ p := fun z => n (by rw [z]; exact List.mem_of_getElem? e)
    rcases q with q | ⟨ob, q⟩
    · exact .inl (.inl (by rw [upd_ne ne]; exact q))
    · exact .inl (.inr ⟨ob, by rw [upd_ne ne]; exact q⟩)
  · exact .inr q, fun c φ q g => ⟨by rw [upd_ne fun z => g (by rw [z]; exact List.mem_of_getElem? e)]; exact q, g⟩⟩
theorem nd_inj {l : List Addr} (h : l.Nodup) {i j : Nat} {a : Addr} (h1 : l[i]? = some a) (h2 : l[j]? = some a) : i = j := by
  obtain ⟨hi, ei⟩ := List.getElem?_eq_some_iff.mp h1
  obtain ⟨hj, ej⟩ := List.getElem?_eq_some_iff.mp h2
  have key : ∀ (i j : Nat) (hi : i < l.length) (hj : j < l.length), l[i] = l[j] → ¬ i < j := fun i j hi hj e z =>
    absurd e (List.pairwise_iff_getElem.mp h i j hi hj z)
  have h1 := key i j hi hj (ei.trans ej.symm)
  have h2 := key j i hj hi (ej.trans ei.symm)
  omega
theorem HR.set (h : HR K B ι S H) (e : ι[l]? = some p) (x : ObR K B ι (upd H p o) p m) (nd : noDT o) : HR K B ι (S.set l m) (upd H p o) where
  len := by rw [List.length_set]; exact h.len
  nodup := h.nodup
  ob := fun i k a e1 q => by
    by_cases hi : l = i
    · subst hi
      rw [e] at q; cases q
      rw [List.getElem?_set] at e1
      rw [if_pos rfl] at e1
      split at e1
      · cases e1; exact x
      · cases e1
    · rw [List.getElem?_set_ne hi] at e1
      exact (h.ob i k a e1 q).ext (.set h e) (upd_ne fun z => hi (nd_inj h.nodup e (by rw [← z]; exact q)))
  nd := nd_upd h.nd nd
  tb := fun P hP => ⟨(h.tb P hP).1, by rw [upd_ne fun z => (h.tb P hP).1 (by rw [z]; exact List.mem_of_getElem? e)]; exact (h.tb P hP).2⟩
theorem Fr.set (h : HR K B ι S H) (e : ι[l]? = some p) (q : S[l]? = some k) (r : k.ro = false) : Fr ι S H ι (S.set l m) (upd H p o) where
  pre := ⟨[], by simp⟩
  hid := fun a u e1 g => ⟨by rw [upd_ne fun z => g (by rw [z]; exact List.mem_of_getElem? e)]; exact e1, g⟩
  rd := fun i k' a e1 r1 q1 => by
    have hi : l ≠ i := fun z => by subst z; rw [q] at e1; cases e1; rw [r] at r1; cases r1
    exact ⟨upd_ne fun z => hi (nd_inj h.nodup e (by rw [← z]; exact q1)), by rw [List.getElem?_set_ne hi]; exact e1⟩
end
def MO.toRo : MO → MO
  | .lst xs => .rol xs
  | .dic xs => .rod xs
  | .x o => .x o.toRo
  | m => m
def view (S : Sto) : Sto := S.map MO.toRo
section
variable {B : Bs} {K : PySem.W.Frag} {ι ι' : Lm} {S S' : Sto} {H H' : Hp}
theorem toRo_ro (m : MO) : m.toRo.ro = true := by
  cases m with
  | x o => cases o <;> rfl
  | _ => rfl
theorem ObR.toRo {a : Addr} {m : MO} (h : ObR K B ι H a m) : ObR K B ι H a m.toRo := by
  cases m with
  | x o => cases o <;> exact h
  | lst ds => obtain ⟨vs, q, r⟩ := h; exact ⟨vs, .inl q, r⟩
  | dic ds => obtain ⟨vs, q, r⟩ := h; exact ⟨vs, .inl q, r⟩
  | rol _ => exact h
  | rod _ => exact h
theorem HR.view (h : HR K B ι S H) : HR K B ι (view S) H where
  len := by unfold DL.view; rw [List.length_map]; exact h.len
  nodup := h.nodup
  ob := fun l m a e q => by
    unfold DL.view at e
    rw [List.getElem?_map] at e
    cases z : S[l]? with
    | none => rw [z] at e; cases e
    | some k => rw [z] at e; cases e; exact (h.ob l k a z q).toRo
  nd := h.nd
  tb := h.tb
theorem Fr.view (h : HR K B ι S H) (f : Fr ι (view S) H ι' S' H') : Sm H H' := fun b o e => by
  by_cases q : b ∈ ι
  · obtain ⟨l, m, e1, e2, _⟩ := h.view.in q
    have r : m.ro = true := by
      unfold DL.view at e1
      rw [List.getElem?_map] at e1
      cases z : S[l]? with
      | none => rw [z] at e1; cases e1
      | some k => rw [z] at e1; cases e1; exact toRo_ro k
    exact ((f.rd l m b e1 r e2).1).trans e
  · exact (f.hid b o e q).1
end
end DL
set_option Elab.async false
set_option linter.all false
set_option maxRecDepth 100000
set_option autoImplicit false
namespace DL
open PySem L2
variable {B : Bs}
abbrev En := List (Option D)
structure EnvR (K : PySem.W.Frag) (ι : Lm) (H : Hp) (σ : St) (ρ : En) : Prop where
  len : σ.length = ρ.length
  get : ∀ (i : Nat) (d : D), ρ[i]? = some (some d) → ∃ v, σ[i]? = some (some v) ∧ Rp K ι H d v
section
variable {K : PySem.W.Frag} {ι ι' : Lm} {H H' : Hp} {σ : St} {ρ : En}
theorem EnvR.ext (E : Ext K ι H ι' H') (h : EnvR K ι H σ ρ) : EnvR K ι' H' σ ρ :=
  ⟨h.len, fun i d e => by obtain ⟨v, q, r⟩ := h.get i d e; exact ⟨v, q, Rp.ext E d v r⟩⟩
theorem EnvR.set {d : D} {v : V} (h : EnvR K ι H σ ρ) (i : Nat) (r : Rp K ι H d v) : EnvR K ι H (σ.set i (some v)) (ρ.set i (some d)) :=
  ⟨by rw [List.length_set, List.length_set]; exact h.len, fun j e q => by
    rw [List.getElem?_set] at q ⊢
    by_cases z : i = j
    · subst z
      rw [if_pos rfl] at q ⊢
      by_cases w : i < ρ.length
      · rw [if_pos w] at q; cases q
        rw [if_pos (by rw [h.len]; exact w)]
        exact ⟨v, rfl, r⟩
      · rw [if_neg w] at q; cases q
    · rw [if_neg z] at q ⊢
      exact h.get j e q⟩
theorem EnvR.setN (h : EnvR K ι H σ ρ) (i : Nat) : EnvR K ι H (σ.set i none) (ρ.set i none) :=
  ⟨by rw [List.length_set, List.length_set]; exact h.len, fun j e q => by
    rw [List.getElem?_set] at q ⊢
    by_cases z : i = j
    · subst z
      rw [if_pos rfl] at q
      by_cases w : i < ρ.length
      · rw [if_pos w] at q; cases q
      · rw [if_neg w] at q; cases q
    · rw [if_neg z] at q ⊢
      exact h.get j e q⟩
theorem EnvR.push {d : D} {v : V} (h : EnvR K ι H σ ρ) (r : Rp K ι H d v) : EnvR K ι H (some v :: σ) (some d :: ρ) :=
  ⟨by rw [List.length_cons, List.length_cons, h.len], fun j e q => by
    cases j with
    | zero => simp at q; subst q; exact ⟨v, rfl, r⟩
    | succ j => simp at q; obtain ⟨u, z, w⟩ := h.get j e q; exact ⟨u, by simpa using z, w⟩⟩
end
abbrev Ev := En → Sto → Option (D × Sto)
abbrev Tv := En → Sto → Option (Bool × Sto)
abbrev Av := En → Sto → Option (List D × Sto)
section
variable (K : PySem.W.Frag) (B : Bs)
def dn (ι : Lm) (S : Sto) (H : Hp) (Q : VK) (d : D) (S' : Sto) : Prop := ∀ v ι' H', Fr ι S H ι' S' H' → Rp K ι' H' d v → HR K B ι' S' H' → Q v H'
def dnA (ι : Lm) (S : Sto) (H : Hp) (Q : List V → Hp → Prop) (ds : List D) (S' : Sto) : Prop := ∀ vs ι' H', Fr ι S H ι' S' H' → Rps K ι' H' ds vs → HR K B ι' S' H' → Q vs H'
def dnB (ι : Lm) (S : Sto) (H : Hp) (Q : Bool → Hp → Prop) (b : Bool) (S' : Sto) : Prop := ∀ ι' H', Fr ι S H ι' S' H' → HR K B ι' S' H' → Q b H'
def upE (t : Ev) : TE := fun σ H Q => ∃ ρ ι S, EnvR K ι H σ ρ ∧ HR K B ι S H ∧ ∃ d S', t ρ S = some (d, S') ∧ dn K B ι S H Q d S'
def upA (t : Av) : TA := fun σ H Q => ∃ ρ ι S, EnvR K ι H σ ρ ∧ HR K B ι S H ∧ ∃ d S', t ρ S = some (d, S') ∧ dnA K B ι S H Q d S'
def upT (t : Tv) : TT := fun σ H Q => ∃ ρ ι S, EnvR K ι H σ ρ ∧ HR K B ι S H ∧ ∃ d S', t ρ S = some (d, S') ∧ dnB K B ι S H Q d S'
end
structure PL (B : Bs) (X : Cx) (e : Expr) (t : Ev) : Prop where
  p : PE X e (upE X.K B t)
structure PLA (B : Bs) (X : Cx) (es : List Expr) (t : Av) : Prop where
  p : PA X es (upA X.K B t)
structure PLT (B : Bs) (X : Cx) (e : Expr) (t : Tv) : Prop where
  p : PT X e (upT X.K B t)
structure PLW (B : Bs) (X : Cx) (e : Expr) (t : Tv) : Prop where
  p : PW X e (upT X.K B t)
theorem PE.weak {X : Cx} {e : Expr} {t t' : TE} (h : PE X e t) (i : ∀ σ H Q, t' σ H Q → t σ H Q) : PE X e t' := fun pins s σ H Q I q => h pins s σ H Q I (i σ H Q q)
theorem PA.weak {X : Cx} {e : List Expr} {t t' : TA} (h : PA X e t) (i : ∀ σ H Q, t' σ H Q → t σ H Q) : PA X e t' := fun pos pins s σ H Q I q => h pos pins s σ H Q I (i σ H Q q)
theorem PT.weak {X : Cx} {e : Expr} {t t' : TT} (h : PT X e t) (i : ∀ σ H Q, t' σ H Q → t σ H Q) : PT X e t' := fun pins s σ H Q I q => h pins s σ H Q I (i σ H Q q)
theorem PW.weak {X : Cx} {e : Expr} {t t' : TT} (h : PW X e t) (i : ∀ σ H Q, t' σ H Q → t σ H Q) : PW X e t' := fun wh pins s σ H Q I q => h wh pins s σ H Q I (i σ H Q q)
theorem PL.wk {X : Cx} {e : Expr} {t : TE} {t' : Ev} (h : PE X e t) (i : ∀ σ H Q, upE X.K B t' σ H Q → t σ H Q) : PL B X e t' := ⟨PE.weak h i⟩
theorem PLA.wk {X : Cx} {e : List Expr} {t : TA} {t' : Av} (h : PA X e t) (i : ∀ σ H Q, upA X.K B t' σ H Q → t σ H Q) : PLA B X e t' := ⟨PA.weak h i⟩
theorem PLT.wk {X : Cx} {e : Expr} {t : TT} {t' : Tv} (h : PT X e t) (i : ∀ σ H Q, upT X.K B t' σ H Q → t σ H Q) : PLT B X e t' := ⟨PT.weak h i⟩
theorem PLW.wk {X : Cx} {e : Expr} {t : TT} {t' : Tv} (h : PW X e t) (i : ∀ σ H Q, upT X.K B t' σ H Q → t σ H Q) : PLW B X e t' := ⟨PW.weak h i⟩
section
variable {K : PySem.W.Frag} {ι ι1 : Lm} {S S1 S2 : Sto} {H H1 : Hp} {σ : St} {ρ : En}
theorem dn.fr {Q : VK} {d : D} (q : dn K B ι S H Q d S2) (f : Fr ι S H ι1 S1 H1) : dn K B ι1 S1 H1 Q d S2 := fun v ι' H' g r h => q v ι' H' (f.trans g) r h
theorem dnA.fr {Q : List V → Hp → Prop} {d : List D} (q : dnA K B ι S H Q d S2) (f : Fr ι S H ι1 S1 H1) : dnA K B ι1 S1 H1 Q d S2 := fun v ι' H' g r h => q v ι' H' (f.trans g) r h
theorem dnB.fr {Q : Bool → Hp → Prop} {d : Bool} (q : dnB K B ι S H Q d S2) (f : Fr ι S H ι1 S1 H1) : dnB K B ι1 S1 H1 Q d S2 := fun ι' H' g h => q ι' H' (f.trans g) h
theorem dn.self {Q : VK} {d : D} {v : V} (q : dn K B ι S H Q d S) (hr : HR K B ι S H) (r : Rp K ι H d v) : Q v H := q v ι H .refl r hr
theorem up_then {t : Ev} {d : D} {Q : VK} (er : EnvR K ι H σ ρ) (hr : HR K B ι S H) (h : t ρ S = some (d, S1))
    (k : ∀ v ι1 H1, Fr ι S H ι1 S1 H1 → EnvR K ι1 H1 σ ρ → Rp K ι1 H1 d v → HR K B ι1 S1 H1 → Q v H1) : upE K B t σ H Q :=
  ⟨ρ, ι, S, er, hr, d, S1, h, fun v ι' H' f r hr' => k v ι' H' f (er.ext (f.ext hr)) r hr'⟩
theorem upA_then {t : Av} {d : List D} {Q : List V → Hp → Prop} (er : EnvR K ι H σ ρ) (hr : HR K B ι S H) (h : t ρ S = some (d, S1))
    (k : ∀ v ι1 H1, Fr ι S H ι1 S1 H1 → EnvR K ι1 H1 σ ρ → Rps K ι1 H1 d v → HR K B ι1 S1 H1 → Q v H1) : upA K B t σ H Q :=
  ⟨ρ, ι, S, er, hr, d, S1, h, fun v ι' H' f r hr' => k v ι' H' f (er.ext (f.ext hr)) r hr'⟩
theorem upT_then {t : Tv} {d : Bool} {Q : Bool → Hp → Prop} (er : EnvR K ι H σ ρ) (hr : HR K B ι S H) (h : t ρ S = some (d, S1))
    (k : ∀ ι1 H1, Fr ι S H ι1 S1 H1 → EnvR K ι1 H1 σ ρ → HR K B ι1 S1 H1 → Q d H1) : upT K B t σ H Q :=
  ⟨ρ, ι, S, er, hr, d, S1, h, fun ι' H' f hr' => k ι' H' f (er.ext (f.ext hr)) hr'⟩
end
theorem bd {α β : Type} {x : Option α} {f : α → Option β} {b : β} (h : x.bind f = some b) : ∃ a, x = some a ∧ f a = some b := by
  cases x with
  | none => cases h
  | some a => exact ⟨a, rfl, h⟩
section
variable {X : Cx} {a b c : Expr} {ta tb tc : Ev} {pos : Pos}
def eV (i : Nat) : Ev := fun ρ S => match ρ[i]? with
  | some (some d) => some (d, S)
  | _ => none
def eC (d : D) : Ev := fun _ S => some (d, S)
theorem eV_some {i : Nat} {ρ : En} {S S' : Sto} {d : D} (h : eV i ρ S = some (d, S')) : ρ[i]? = some (some d) ∧ S' = S := by
  unfold eV at h
  cases q : ρ[i]? with
  | none => rw [q] at h; cases h
  | some o =>
    cases o with
    | none => rw [q] at h; cases h
    | some e => rw [q] at h; cases h; exact ⟨rfl, rfl⟩
theorem lvar {i : Nat} {x : Str} (hN : X.N[i]? = some x) (hv : Vis X.env.scope x) (hd : (x == ("__debug__" : Str)) = false := by decide) (hcd : (x == ("__classdict__" : Str)) = false := by decide) : PL B X (.Name x pos) (eV i) :=
  PL.wk (pe_var hN hv hd hcd) fun σ H Q ⟨ρ, ι, S, er, hr, d, S', h, q⟩ => by
    obtain ⟨e, rfl⟩ := eV_some h
    obtain ⟨v, q1, r⟩ := er.get i d e
    exact ⟨v, q1, q.self hr r⟩
theorem lc_of {e : Expr} {v : V} {d : D} (h : PE X e (tC v)) (r : ∀ ι H, Rp X.K ι H d v) : PL B X e (eC d) := ⟨PE.weak h fun σ H Q ⟨ρ, ι, S, er, hr, d', S', h, q⟩ => by
    cases h
    exact q.self hr (r ι H)⟩
theorem lint {i : Int} {j} : PL B X (.Constant (.int i) j pos) (eC (.int i)) := lc_of pe_int fun _ _ => rfl
theorem lbl {i : Bool} {j} : PL B X (.Constant (.bool i) j pos) (eC (.bl i)) := lc_of pe_bl fun _ _ => rfl
theorem lnon {j} : PL B X (.Constant .none j pos) (eC .non) := lc_of pe_non fun _ _ => rfl
theorem lstr {x j} : PL B X (.Constant (.str x) j pos) (eC (.str x)) := lc_of pe_str fun _ _ => rfl
theorem lgint {x : Str} {i : Int} (hg : Gl X x) (hm : ∃ tk, X.mg x = some (.int i tk)) (hd : (x == ("__debug__" : Str)) = false := by decide) : PL B X (.Name x pos) (eC (.int i)) := by
  obtain ⟨tk, hm⟩ := hm
  exact lc_of (pe_glob hg hm (v := .int i) ⟨_, rfl⟩ hd) fun _ _ => rfl
theorem lty {x : Str} {n : String} (hg : Gl X x) (hm : X.mg x = none) (hv : bootBuiltins x = some (.type n)) (hn : x ≠ "__name__" := by decide) (hd : (x == ("__debug__" : Str)) = false := by decide) : PL B X (.Name x pos) (eC (.ty n)) := lc_of (pe_bltn hg hm hv (v := .ty n) rfl hn hd) fun _ _ => rfl
abbrev R2v := D → D → Sto → Option (D × Sto)
def Src2 (K : PySem.W.Frag) (B : Bs) (r' : R2) (r : R2v) : Prop := ∀ dx dy S H ι x y Q d S', Rp K ι H dx x → Rp K ι H dy y → HR K B ι S H → r dx dy S = some (d, S') → dn K B ι S H Q d S' → r' x y H Q
def OpL (B : Bs) (X : Cx) (f : Value → Value → Sem Value) (r : R2v) : Prop := ∃ r' : R2, OpR X f r' ∧ Src2 X.K B r' r
theorem OpR.or {f : Value → Value → Sem Value} {r r' : R2} (h : OpR X f r) (h' : OpR X f r') : OpR X f (fun x y H Q => r x y H Q ∨ r' x y H Q) := fun pins s σ H x y v u Q I rx ry q =>
  q.elim (h pins s σ H x y v u Q I rx ry) (h' pins s σ H x y v u Q I rx ry)
def eOp (r : R2v) (ta tb : Ev) : Ev := fun ρ S => (ta ρ S).bind fun p => (tb ρ p.2).bind fun q => r p.1 q.1 q.2
theorem eOp_some {r : R2v} {ρ : En} {S S' : Sto} {d : D} (h : eOp r ta tb ρ S = some (d, S')) : ∃ x S1 y S2, ta ρ S = some (x, S1) ∧ tb ρ S1 = some (y, S2) ∧ r x y S2 = some (d, S') := by
  obtain ⟨⟨x, S1⟩, h1, h⟩ := bd h
  obtain ⟨⟨y, S2⟩, h2, h⟩ := bd h
  exact ⟨x, S1, y, S2, h1, h2, h⟩
theorem op_up {r : R2v} {r' : R2} (hs : Src2 X.K B r' r) {σ : St} {H : Hp} {Q : VK} : upE X.K B (eOp r ta tb) σ H Q → tOp r' (upE X.K B ta) (upE X.K B tb) σ H Q := fun ⟨ρ, ι, S, er, hr, d, S', h, q⟩ => by
  obtain ⟨x, S1, y, S2, h1, h2, h3⟩ := eOp_some h
  refine up_then er hr h1 fun v ι1 H1 f1 er1 r1 hr1 => up_then er1 hr1 h2 fun u ι2 H2 f2 er2 r2 hr2 => ?_
  exact hs x y S2 H2 ι2 v u Q d S' (Rp.ext (f2.ext hr1) x v r1) r2 hr2 h3 (q.fr (f1.trans f2))
theorem lop {op : Operator} {r : R2v} (ho : OpL B X (binaryOp op) r) (ha : PL B X a ta) (hb : PL B X b tb) : PL B X (.BinOp a op b pos) (eOp r ta tb) := by
  obtain ⟨r', h1, h2⟩ := ho
  exact PL.wk (pe_op h1 ha.p hb.p) fun σ H Q => op_up h2
theorem lcmp {op : CmpOp} {r : R2v} (ho : OpL B X (compareOp op) r) (ha : PL B X a ta) (hb : PL B X b tb) (hm : behindInMarks op b = false) : PL B X (.Compare a [op] [b] pos) (eOp r ta tb) := by
  obtain ⟨r', h1, h2⟩ := ho
  exact PL.wk (pe_cmpR h1 ha.p hb.p hm) fun σ H Q => op_up h2
def eChain (r r' : R2v) (ta tb tc : Ev) : Ev := fun ρ S => (ta ρ S).bind fun p => (tb ρ p.2).bind fun q => (r p.1 q.1 q.2).bind fun z => match z.1 with
  | .bl true => (tc ρ z.2).bind fun w => r' q.1 w.1 w.2
  | .bl false => some (.bl false, z.2)
  | _ => none
def oI (C : Int → Int → Bool) (g : Int → Int → D) : R2v := fun x y S => match x, y with
  | .int i, .int j => if C i j = true then some (g i j, S) else none
  | _, _ => none
theorem oI_some {C : Int → Int → Bool} {g : Int → Int → D} {x y d : D} {S S' : Sto} (h : oI C g x y S = some (d, S')) : ∃ i j, x = .int i ∧ y = .int j ∧ C i j = true ∧ d = g i j ∧ S' = S := by
  cases x <;> cases y <;> simp only [oI, reduceCtorEq] at h
  split at h
  · rename_i z
    cases h
    exact ⟨_, _, rfl, rfl, z, rfl, rfl⟩
  · cases h
theorem opI_of {f : Value → Value → Sem Value} {C : Int → Int → Prop} {Cb : Int → Int → Bool} {g : Int → Int → D} {g' : Int → Int → V} (h : OpR X f (rI C g')) (hc : ∀ i j, Cb i j = true → C i j) (hg : ∀ i j ι H, Rp X.K ι H (g i j) (g' i j)) : OpL B X f (oI Cb g) :=
  ⟨_, h, fun dx dy S H ι x y Q d S' rx ry hr q k => by
    obtain ⟨i, j, rfl, rfl, c, rfl, rfl⟩ := oI_some q
    exact ⟨_, _, rx, ry, hc _ _ c, k.self hr (hg _ _ ι H)⟩⟩
theorem opI0_of {f : Value → Value → Sem Value} {g : Int → Int → D} {g' : Int → Int → V} (h : OpR X f (rI0 g')) (hg : ∀ i j ι H, Rp X.K ι H (g i j) (g' i j)) : OpL B X f (oI (fun _ _ => true) g) :=
  ⟨_, h, fun dx dy S H ι x y Q d S' rx ry hr q k => by
    obtain ⟨i, j, rfl, rfl, c, rfl, rfl⟩ := oI_some q
    exact ⟨_, _, rx, ry, k.self hr (hg _ _ ι H)⟩⟩
def oSub : R2v := oI (fun _ _ => true) fun i j => .int (i - j)
def oMod : R2v := oI (fun _ j => decide (0 < j)) fun i j => .int (i % j)
def oFdiv : R2v := oI (fun _ j => decide (0 < j) && decide (j < 1073741824)) fun i j => .int (i / j)
def cPow (i j : Int) : Bool := decide (0 ≤ j) && decide (j ≤ 1000000) && decide (i.natAbs < 2 ^ 64)
def oPow : R2v := oI cPow fun i j => .int (i ^ j.toNat)
def oLt : R2v := oI (fun _ _ => true) fun i j => .bl (decide (i < j))
def oLe : R2v := oI (fun _ _ => true) fun i j => .bl (decide (i ≤ j))
def oGt : R2v := oI (fun _ _ => true) fun i j => .bl (decide (j < i))
def oGe : R2v := oI (fun _ _ => true) fun i j => .bl (decide (j ≤ i))
theorem cPow_ok : ∀ i j, cPow i j = true → CPow i j := fun i j h => by
  unfold cPow at h
  simp only [Bool.and_eq_true, decide_eq_true_eq] at h
  exact ⟨h.1.1, h.1.2, h.2⟩
theorem ol_sub : OpL B X (binaryOp .Sub) oSub := opI0_of op_sub fun _ _ _ _ => rfl
theorem ol_mod : OpL B X (binaryOp .Mod) oMod := opI_of op_mod (fun _ _ h => of_decide_eq_true h) fun _ _ _ _ => rfl
theorem ol_fdiv : OpL B X (binaryOp .FloorDiv) oFdiv := opI_of op_fdiv (fun _ _ h => by simp only [Bool.and_eq_true, decide_eq_true_eq] at h; exact h) fun _ _ _ _ => rfl
theorem ol_pow : OpL B X (binaryOp .Pow) oPow := opI_of op_pow cPow_ok fun _ _ _ _ => rfl
theorem ol_lt : OpL B X (compareOp .Lt) oLt := opI0_of op_lt fun _ _ _ _ => rfl
theorem ol_le : OpL B X (compareOp .LtE) oLe := opI0_of op_le fun _ _ _ _ => rfl
theorem ol_gt : OpL B X (compareOp .Gt) oGt := opI0_of op_gt fun _ _ _ _ => rfl
def eNeg (ta : Ev) : Ev := fun ρ S => (ta ρ S).bind fun p => match p.1 with
  | .int i => some (.int (-i), p.2)
  | _ => none
def eAnd (ta tb : Ev) : Ev := fun ρ S => (ta ρ S).bind fun p => match p.1 with
  | .bl true => tb ρ p.2
  | .bl false => some (.bl false, p.2)
  | _ => none
def eOr (ta tb : Ev) : Ev := fun ρ S => (ta ρ S).bind fun p => match p.1 with
  | .bl true => some (.bl true, p.2)
  | .bl false => tb ρ p.2
  | _ => none
def eNot (ta : Ev) : Ev := fun ρ S => (ta ρ S).bind fun p => match p.1 with
  | .bl k => some (.bl (!k), p.2)
  | _ => none
theorem land {rest : List Expr} (ha : PL B X a ta) (hb : PL B X (.BoolOp .And (b :: rest) pos) tb) : PL B X (.BoolOp .And (a :: b :: rest) pos) (eAnd ta tb) :=
  PL.wk (pe_and ha.p hb.p) fun σ H Q ⟨ρ, ι, S, er, hr, d, S', h, q⟩ => by
    obtain ⟨⟨x, S1⟩, h1, h⟩ := bd h
    refine up_then er hr h1 fun v ι1 H1 f1 er1 r1 hr1 => ?_
    cases x <;> try cases h
    rename_i k
    refine ⟨k, r1, ?_⟩
    cases k with
    | true => rw [if_pos rfl]; exact up_then er1 hr1 h fun v2 ι2 H2 f2 er2 r2 hr2 => q _ _ _ (f1.trans f2) r2 hr2
    | false => rw [if_neg Bool.false_ne_true]; cases h; exact q _ _ _ f1 rfl hr1
theorem lone {op : BoolOp} (ha : PL B X a ta) : PL B X (.BoolOp op [a] pos) ta := ⟨pe_one ha.p⟩
def bT (t : Ev) : Tv := fun ρ S => (t ρ S).bind fun p => match p.1 with
  | .bl k => some (k, p.2)
  | _ => none
def bAnd (t u : Tv) : Tv := fun ρ S => (t ρ S).bind fun p => if p.1 = true then u ρ p.2 else some (false, p.2)
def bOr (t u : Tv) : Tv := fun ρ S => (t ρ S).bind fun p => if p.1 = true then some (true, p.2) else u ρ p.2
def bNot (t : Tv) : Tv := fun ρ S => (t ρ S).bind fun p => some (!p.1, p.2)
variable {lA lB : Tv}
theorem bT_some {ρ : En} {S S' : Sto} {k : Bool} (h : bT ta ρ S = some (k, S')) : ta ρ S = some (.bl k, S') := by
  obtain ⟨⟨x, S1⟩, h1, h⟩ := bd h
  cases x <;> try cases h
  exact h1
theorem tTest_up {f : TE} {σ : St} {H : Hp} {Q : Bool → Hp → Prop} (hf : ∀ Q', upE X.K B ta σ H Q' → f σ H Q') : upT X.K B (bT ta) σ H Q → tTest f σ H Q := fun ⟨ρ, ι, S, er, hr, d, S', h, q⟩ =>
  hf _ (up_then er hr (bT_some h) fun v ι1 H1 f1 er1 r1 hr1 => ⟨d, r1, q _ _ f1 hr1⟩)
theorem bcmp {op : CmpOp} {r : R2v} (ho : OpL B X (compareOp op) r) (ha : PL B X a ta) (hb : PL B X b tb) (hm : behindInMarks op b = false) : PLT B X (.Compare a [op] [b] pos) (bT (eOp r ta tb)) := by
  obtain ⟨r', h1, h2⟩ := ho
  exact PLT.wk (pt_cmpR h1 ha.p hb.p hm) fun σ H Q => tTest_up fun Q' => op_up h2
theorem bnot (ha : PLT B X a lA) : PLT B X (.UnaryOp .Not a pos) (bNot lA) :=
  PLT.wk (pt_not ha.p) fun σ H Q ⟨ρ, ι, S, er, hr, d, S', h, q⟩ => by
    obtain ⟨⟨x, S1⟩, h1, h⟩ := bd h
    cases h
    exact upT_then er hr h1 fun ι1 H1 f1 er1 hr1 => q _ _ f1 hr1
theorem PLW.pt {e : Expr} {t : Tv} (h : PLW B X e t) : PLT B X e t := ⟨L2.PW.pt h.p⟩
theorem band1 (ha : PLT B X a lA) : PLW B X (.BoolOp .And [a] pos) lA := ⟨pw_and1 ha.p⟩
theorem bor1 (ha : PLT B X a lA) : PLW B X (.BoolOp .Or [a] pos) lA := ⟨pw_or1 ha.p⟩
theorem band {rest : List Expr} (ha : PLT B X a lA) (hb : PLW B X (.BoolOp .And (b :: rest) pos) lB) : PLW B X (.BoolOp .And (a :: b :: rest) pos) (bAnd lA lB) :=
  PLW.wk (pw_and ha.p hb.p) fun σ H Q ⟨ρ, ι, S, er, hr, d, S', h, q⟩ => by
    obtain ⟨⟨x, S1⟩, h1, h⟩ := bd h
    refine upT_then er hr h1 fun ι1 H1 f1 er1 hr1 => ?_
    cases x with
    | true => rw [if_pos rfl] at h ⊢; exact upT_then er1 hr1 h fun ι2 H2 f2 er2 hr2 => q _ _ (f1.trans f2) hr2
    | false => rw [if_neg Bool.false_ne_true] at h ⊢; cases h; exact q _ _ f1 hr1
theorem bor {rest : List Expr} (ha : PLT B X a lA) (hb : PLW B X (.BoolOp .Or (b :: rest) pos) lB) : PLW B X (.BoolOp .Or (a :: b :: rest) pos) (bOr lA lB) :=
  PLW.wk (pw_or ha.p hb.p) fun σ H Q ⟨ρ, ι, S, er, hr, d, S', h, q⟩ => by
    obtain ⟨⟨x, S1⟩, h1, h⟩ := bd h
    refine upT_then er hr h1 fun ι1 H1 f1 er1 hr1 => ?_
    cases x with
    | true => rw [if_pos rfl] at h ⊢; cases h; exact q _ _ f1 hr1
    | false => rw [if_neg Bool.false_ne_true] at h ⊢; exact upT_then er1 hr1 h fun ι2 H2 f2 er2 hr2 => q _ _ (f1.trans f2) hr2
def rdL (S : Sto) (l : Nat) : Option (List D) := match S[l]? with
  | some (.lst xs) => some xs
  | some (.rol xs) => some xs
  | _ => none
def wrL (S : Sto) (l : Nat) : Option (List D) := match S[l]? with
  | some (.lst xs) => some xs
  | _ => none
theorem wrL_some {S : Sto} {l : Nat} {xs : List D} (h : wrL S l = some xs) : S[l]? = some (.lst xs) := by
  unfold wrL at h
  cases q : S[l]? with
  | none => rw [q] at h; cases h
  | some m => rw [q] at h; cases m <;> first | (cases h; rfl) | cases h
theorem rdL_some {S : Sto} {l : Nat} {xs : List D} (h : rdL S l = some xs) : ∃ m, S[l]? = some m ∧ (m = .lst xs ∨ m = .rol xs) := by
  unfold rdL at h
  cases q : S[l]? with
  | none => rw [q] at h; cases h
  | some m => rw [q] at h; cases m <;> first | (cases h; exact ⟨_, rfl, .inl rfl⟩) | (cases h; exact ⟨_, rfl, .inr rfl⟩) | cases h
def truD (S : Sto) : D → Option Bool
  | .non => some false
  | .bl b => some b
  | .int i => some (i != 0)
  | .tup xs => some (!xs.isEmpty)
  | .ref l => (rdL S l).map fun xs => !xs.isEmpty
  | _ => none
def bTru (t : Ev) : Tv := fun ρ S => (t ρ S).bind fun p => (truD p.2 p.1).map fun k => (k, p.2)
theorem isEmpty_len {α β : Type} {xs : List α} {ys : List β} (h : xs.length = ys.length) : xs.isEmpty = ys.isEmpty := by
  cases xs <;> cases ys <;> first | rfl | (simp at h)
theorem ObR.sqL {ι : Lm} {H : Hp} {a : Addr} {m : MO} {xs : List D} {K : PySem.W.Frag} (h : ObR K B ι H a m) (e : m = .lst xs ∨ m = .rol xs) : ∃ vs, SqL K H a vs ∧ Rps K ι H xs vs := by
  rcases e with rfl | rfl
  · obtain ⟨vs, q, r⟩ := h; exact ⟨vs, .inl (.inl q), r⟩
  · obtain ⟨vs, q, r⟩ := h; exact ⟨vs, .inl q, r⟩
theorem HR.ref {K : PySem.W.Frag} {ι : Lm} {S : Sto} {H : Hp} {l : Nat} {v : V} {m : MO} (hr : HR K B ι S H) (r : Rp K ι H (.ref l) v) (e : S[l]? = some m) : ∃ a, v = .ref a ∧ ι[l]? = some a ∧ ObR K B ι H a m := by
  obtain ⟨a, q, rfl⟩ := r
  exact ⟨a, rfl, q, hr.ob l m a e q⟩
theorem HR.refL {K : PySem.W.Frag} {ι : Lm} {S : Sto} {H : Hp} {l : Nat} {v : V} {xs : List D} (hr : HR K B ι S H) (r : Rp K ι H (.ref l) v) (e : rdL S l = some xs) : ∃ a vs, v = .ref a ∧ SqL K H a vs ∧ Rps K ι H xs vs := by
  obtain ⟨m, w1, w2⟩ := rdL_some e
  obtain ⟨b, rfl, _, ob⟩ := hr.ref r w1
  obtain ⟨vs, hq, rr⟩ := ob.sqL w2
  exact ⟨b, vs, rfl, hq, rr⟩
theorem HR.refW {K : PySem.W.Frag} {ι : Lm} {S : Sto} {H : Hp} {l : Nat} {v : V} {xs : List D} (hr : HR K B ι S H) (r : Rp K ι H (.ref l) v) (e : wrL S l = some xs) : ∃ a vs, v = .ref a ∧ ι[l]? = some a ∧ H a = some (.lst vs) ∧ Rps K ι H xs vs := by
  obtain ⟨b, rfl, q, vs, e1, e2⟩ := hr.ref r (wrL_some e)
  exact ⟨b, vs, rfl, q, e1, e2⟩
theorem btru (ha : PL B X a ta) (he : ∀ whole, isTrue a X.env whole = (do let v ← whole; standAt a.pos; holding [v] (truthy v)) := by intro _; rfl) : PLT B X a (bTru ta) :=
  PLT.wk (pt_truth ha.p he) fun σ H Q ⟨ρ, ι, S, er, hr, d, S', h, q⟩ => by
    obtain ⟨⟨x, S1⟩, h1, h⟩ := bd h
    refine up_then er hr h1 fun v ι1 H1 f1 er1 r1 hr1 => ?_
    cases z : truD S1 x with
    | none =>
      have h' : ((truD S1 x).map fun k => (k, S1)) = some (d, S') := h
      rw [z] at h'; cases h'
    | some k =>
      have h' : ((truD S1 x).map fun k => (k, S1)) = some (d, S') := h
      rw [z] at h'; cases h'
      refine ⟨d, ?_, q _ _ f1 hr1⟩
      cases x with
      | non => cases z; rw [show v = .non from r1]; rfl
      | bl b => cases z; rw [show v = .bl _ from r1]; rfl
      | int i => cases z; rw [show v = .int i from r1]; rfl
      | str _ => cases z
      | ty _ => cases z
      | tup xs =>
        cases z
        obtain ⟨b, vs, rfl, hq, rr⟩ := r1
        exact .inr (.inl ⟨vs, hq, by rw [isEmpty_len rr.length]⟩)
      | ref l =>
        simp only [truD] at z
        cases w : rdL S' l with
        | none => rw [w] at z; cases z
        | some xs =>
          rw [w] at z
          cases z
          obtain ⟨m, w1, w2⟩ := rdL_some w
          obtain ⟨b, rfl, _, ob⟩ := hr1.ref r1 w1
          obtain ⟨vs, hq, rr⟩ := ob.sqL w2
          exact .inl ⟨vs, hq, by show (!xs.isEmpty) = _; rw [isEmpty_len rr.length]⟩
def eIf (t : Tv) (ta tb : Ev) : Ev := fun ρ S => (t ρ S).bind fun p => if p.1 = true then ta ρ p.2 else tb ρ p.2
def aNil : Av := fun _ S => some ([], S)
def aCons (ta : Ev) (tr : Av) : Av := fun ρ S => (ta ρ S).bind fun p => (tr ρ p.2).bind fun q => some (p.1 :: q.1, q.2)
variable {es : List Expr} {tr : Av}
theorem lanil : PLA B X [] aNil := ⟨PA.weak pa_nil fun σ H Q ⟨ρ, ι, S, er, hr, d, S', h, q⟩ => by
  cases h
  exact q [] ι H .refl rfl hr⟩
theorem lacons (ha : PL B X a ta) (hr : PLA B X es tr) (hs : starEach (a :: es) X.env = (false, eval a X.env) :: starEach es X.env := by rfl) : PLA B X (a :: es) (aCons ta tr) :=
  PLA.wk (pa_cons ha.p hr.p hs) fun σ H Q ⟨ρ, ι, S, er, hr, d, S', h, q⟩ => by
    obtain ⟨⟨x, S1⟩, h1, h⟩ := bd h
    obtain ⟨⟨xs, S2⟩, h2, h⟩ := bd h
    cases h
    exact up_then er hr h1 fun v ι1 H1 f1 er1 r1 hr1 => upA_then er1 hr1 h2 fun vs ι2 H2 f2 er2 r2 hr2 =>
      q _ _ _ (f1.trans f2) ⟨v, vs, rfl, Rp.ext (f2.ext hr1) x v r1, r2⟩ hr2
def eTup (t : Av) : Ev := fun ρ S => (t ρ S).bind fun p => if p.1.length ≤ sizeLine then some (.tup p.1, p.2) else none
def eLst (t : Av) : Ev := fun ρ S => (t ρ S).bind fun p => if p.1.length ≤ sizeLine then some (.ref p.2.length, p.2 ++ [.lst p.1]) else none
theorem new_at {K : PySem.W.Frag} {ι : Lm} {S : Sto} {H : Hp} {p : Addr} (hr : HR K B ι S H) : (ι ++ [p])[S.length]? = some p := by
  rw [List.getElem?_append_right (by rw [hr.len]; exact Nat.le_refl _), hr.len]
  simp
theorem dn.tup {K : PySem.W.Frag} {ι : Lm} {S : Sto} {H : Hp} {Q : VK} {p : Addr} {ds : List D} {vs : List V} (q : dn K B ι S H Q (.tup ds) S) (hr : HR K B ι S H) (r : Rps K ι H ds vs) (n : H p = none) : Q (.ref p) (upd H p (.tup vs)) :=
  q (.ref p) ι _ (.newT hr n) ⟨p, vs, rfl, .of upd_same, Rps.ext (.newT n) _ _ r⟩ (hr.newT n)
theorem dn.lst {K : PySem.W.Frag} {ι : Lm} {S : Sto} {H : Hp} {Q : VK} {p : Addr} {ds : List D} {vs : List V} (q : dn K B ι S H Q (.ref S.length) (S ++ [.lst ds])) (hr : HR K B ι S H) (r : Rps K ι H ds vs) (n : H p = none) : Q (.ref p) (upd H p (.lst vs)) :=
  q (.ref p) _ _ (.new hr n) ⟨p, new_at hr, rfl⟩ (hr.new n ⟨vs, upd_same, Rps.ext (.new n) _ _ r⟩ trivial)
theorem dn.dic {K : PySem.W.Frag} {ι : Lm} {S : Sto} {H : Hp} {Q : VK} {p : Addr} {ds : List (Key × D)} {vs : List (Key × V)} (q : dn K B ι S H Q (.ref S.length) (S ++ [.dic ds])) (hr : HR K B ι S H) (r : RpK K ι H ds vs) (n : H p = none) : Q (.ref p) (upd H p (.dK vs)) :=
  q (.ref p) _ _ (.new hr n) ⟨p, new_at hr, rfl⟩ (hr.new n ⟨vs, upd_same, RpK.ext (.new n) _ _ r⟩ trivial)
theorem ltup {x1} (h : PLA B X es tr) : PL B X (.Tuple es x1 pos) (eTup tr) :=
  PL.wk (pe_tup h.p) fun σ H Q ⟨ρ, ι, S, er, hr, d, S', h, q⟩ => by
    obtain ⟨⟨xs, S1⟩, h1, h⟩ := bd h
    split at h
    · rename_i z
      cases h
      exact upA_then er hr h1 fun vs ι1 H1 f1 er1 r1 hr1 => ⟨by rw [← r1.length]; exact z, fun p n => (q.fr f1).tup hr1 r1 n⟩
    · cases h
theorem llst (h : PLA B X es tr) : PL B X (.List es pos) (eLst tr) :=
  PL.wk (pe_lst h.p) fun σ H Q ⟨ρ, ι, S, er, hr, d, S', h, q⟩ => by
    obtain ⟨⟨xs, S1⟩, h1, h⟩ := bd h
    split at h
    · rename_i z
      cases h
      exact upA_then er hr h1 fun vs ι1 H1 f1 er1 r1 hr1 => ⟨by rw [← r1.length]; exact z, fun p n => (q.fr f1).lst hr1 r1 n⟩
    · cases h
end
end DL
set_option Elab.async false
set_option linter.all false
set_option maxRecDepth 100000
namespace L2
open PySem PySem.Spec PyProof.Rows
theorem wpAny_of_ite_pos {α : Type} {M : Model} {A : Around} {c : Prop} [Decidable c] {t u : Sem α} {Q : α → Shared → Prop} {E : Value → Shared → Prop} {s : Shared} (h : c) (w : wpAny M A t Q E s) : wpAny M A (if c then t else u) Q E s := by rw [if_pos h]; exact w
theorem tuple_mul_same (l : Addr) (items : Array Value) (n : Nat) (dc : Option Addr) (sl : Array (Option Value)) (x : Int) (u : Tok) (h0 : ¬ (x < -(2 ^ 63) || x ≥ 2 ^ 63) = true) (h1 : (items.isEmpty || x == 1) = true) :
    Meets (Builtin.«tuple.__mul__» ⟨[.ref l, .int x u], []⟩) (fun _ R s => s.heap.get? l = some { cls := .type "tuple", dict := dc, data := .seq items n, slots := sl } ∧
      R (.ok (.ret (Value.ref l))) s) :=
  .of_wp fun prog w A R s h => by
    obtain ⟨hp, g, d, tk, os⟩ := s; obtain ⟨hl, h⟩ := h
    wp_walk
    refine wpAny_of_ite_neg h0 ?_
    show wpAny _ _ (Builtin.Tuple.tupleItemsOf (.ref l) >>= _) _ _ _
    unfold Builtin.Tuple.tupleItemsOf
    refine wpAny_bind (wpAny_bind (wpAny_seqItems hl rfl (wpAny_pure ?_)))
    refine wpAny_of_ite_pos h1 ?_
    unfold Builtin.Tuple.tupleIsExact
    wp_walk
    exact ⟨_, rfl, h⟩
theorem tuple_mul_none (l : Addr) (items : Array Value) (n : Nat) (dc : Option Addr) (sl : Array (Option Value)) (x : Int) (u : Tok) (h0 : ¬ (x < -(2 ^ 63) || x ≥ 2 ^ 63) = true) (h1 : ¬ (items.isEmpty || x == 1) = true) (h2 : (x ≤ 0 || items.isEmpty) = true) :
    Meets (Builtin.«tuple.__mul__» ⟨[.ref l, .int x u], []⟩) (fun _ R s => s.heap.get? l = some { cls := .type "tuple", dict := dc, data := .seq items n, slots := sl } ∧
      R (.ok (.ret (Value.ref s.heap.objs.size))) { s with heap := s.heap.push { cls := .type "tuple", data := .seq #[] } }) :=
  .of_wp fun prog w A R s h => by
    obtain ⟨hp, g, d, tk, os⟩ := s; obtain ⟨hl, h⟩ := h
    wp_walk
    refine wpAny_of_ite_neg h0 ?_
    show wpAny _ _ (Builtin.Tuple.tupleItemsOf (.ref l) >>= _) _ _ _
    unfold Builtin.Tuple.tupleItemsOf
    refine wpAny_bind (wpAny_bind (wpAny_seqItems hl rfl (wpAny_pure ?_)))
    refine wpAny_of_ite_neg h1 ?_
    refine wpAny_of_ite_pos h2 ?_
    unfold Builtin.Tuple.tupleExact
    refine wpAny_bind (wpAny_newObj_type ?_ (by show 0 ≤ sizeLine; decide))
    exact wpAny_pure ⟨_, rfl, h⟩
def rRepU (K : PySem.W.Frag) : R2 := fun x y H Q => ∃ a xs k, x = .ref a ∧ y = .int k ∧ SqT K H a xs ∧ -(2 ^ 20) < k ∧ k < 2 ^ 20 ∧ xs.length * k.toNat ≤ sizeLine ∧
  (xs = [] ∨ k = 1 → Q (.ref a) H) ∧ (xs ≠ [] → k ≤ 0 → ∀ p, H p = none → Q (.ref p) (upd H p (.tup []))) ∧ (xs ≠ [] → 2 ≤ k → ∀ p, H p = none → Q (.ref p) (upd H p (.tup (List.replicate k.toNat xs).flatten)))
theorem op_repU {X : Cx} : OpR X (binaryOp .Mult) (rRepU X.K) := by
  intro pins s σ H x y v u Q I rx ry h
  obtain ⟨a, xs, k, rfl, rfl, hq, hk1, hk3, hz, q1, q0, q2⟩ := h
  by_cases c2 : xs ≠ [] ∧ 2 ≤ k
  · exact op_repT pins s σ H _ _ v u Q I rx ry ⟨a, xs, k, rfl, rfl, hq, c2.1, c2.2, hk3, hz, q2 c2.1 c2.2⟩
  cases rx
  obtain ⟨t, rfl⟩ := ry
  obtain ⟨its, rv, p, hzz⟩ := I.tuple hq
  obtain ⟨⟨cl, dc, dt, sl⟩, e, hc, n, hd⟩ := p
  replace hc : cl = .type "tuple" := hc
  replace hd : dt = .seq its.toArray n := hd
  subst hc hd
  have hl := rv.length
  have hb : ¬ (k < -(2 ^ 63) || k ≥ 2 ^ 63) = true := by
    intro z
    rcases Bool.or_eq_true_iff.mp z with z | z
    · have := of_decide_eq_true z; omega
    · have := of_decide_eq_true z; omega
  by_cases c1 : (its.toArray.isEmpty || k == 1) = true
  · refine wpAny_binaryOp_repeat_ref (T := "tuple") (U := "int") (by decide) ⟨_, e, rfl⟩ (fun s' => typeIs_int s' k t) noFill_tuple_mul F.fills_int_mul F.slot_int_rmul repeat_tuple F.slot_int_index.lookup
      (call_meets F.slot_int_rmul (typeIs_int s k t) F.entry_int_rmul (F.args_int_rmul_2 _ _) (int_rmul_tuple k t a its.toArray n dc sl)
        ⟨e, rfl, ⟨_, e, rfl⟩, call_meets PySem.F.slot_tuple_mul ⟨_, e, rfl⟩ PySem.F.entry_tuple_mul (PySem.F.args_tuple_mul_2 _ _) (tuple_mul_same a its.toArray n dc sl k t hb c1) ⟨e, ?_⟩⟩)
    refine ⟨.ref a, H, I, rfl, q1 ?_⟩
    rcases Bool.or_eq_true_iff.mp c1 with z | z
    · have : its = [] := by simpa using z
      rw [this] at hl
      exact .inl (List.length_eq_zero_iff.mp hl)
    · exact .inr (by simpa using z)
  · have hne : xs ≠ [] := fun z => by
      rw [z] at hl
      have : its = [] := List.length_eq_zero_iff.mp hl.symm
      rw [this] at c1; exact c1 rfl
    have hk1' : k ≠ 1 := fun z => by rw [z] at c1; exact c1 (by simp)
    have hk0 : k ≤ 0 := by
      have : ¬ 2 ≤ k := fun z => c2 ⟨hne, z⟩
      omega
    refine wpAny_binaryOp_repeat_ref (T := "tuple") (U := "int") (by decide) ⟨_, e, rfl⟩ (fun s' => typeIs_int s' k t) noFill_tuple_mul F.fills_int_mul F.slot_int_rmul repeat_tuple F.slot_int_index.lookup
      (call_meets F.slot_int_rmul (typeIs_int s k t) F.entry_int_rmul (F.args_int_rmul_2 _ _) (int_rmul_tuple k t a its.toArray n dc sl)
        ⟨e, rfl, ⟨_, e, rfl⟩, call_meets PySem.F.slot_tuple_mul ⟨_, e, rfl⟩ PySem.F.entry_tuple_mul (PySem.F.args_tuple_mul_2 _ _) (tuple_mul_none a its.toArray n dc sl k t hb c1 (by simp [hk0])) ⟨e, ?_⟩⟩)
    have hf : H s.heap.objs.size = none := I.hok.fresh (Nat.le_refl _)
    refine ⟨.ref s.heap.objs.size, upd H s.heap.objs.size (.tup []), I.laid (t' := s.toks) (fun b u e => Heap.get?_push_of_some _ e) (Nat.le_refl _) ?_, rfl, q0 hne hk0 _ hf⟩
    exact ⟨Nat.zero_le _, [], .nil, ⟨_, Heap.get?_push_size _ rfl, rfl, _, rfl⟩⟩
def rCatR : R2 := fun x y H Q => ∃ l b xs zs, x = .ref l ∧ y = .ref b ∧ Rd H l (.lst xs) ∧ Rd H b (.lst zs) ∧ xs.length + zs.length ≤ sizeLine ∧ ∀ p, H p = none → Q (.ref p) (upd H p (.lst (xs ++ zs)))
theorem op_catR {X : Cx} : OpR X (binaryOp .Add) rCatR := by
  intro pins s σ H x y v u Q I rx ry h
  obtain ⟨l, b, xs, zs, rfl, rfl, hH, hB, hz, q⟩ := h
  cases rx
  cases ry
  obtain ⟨z, its, n, r, e⟩ := hH.ok I.hok
  obtain ⟨z2, its2, n2, r2, e2⟩ := hB.ok I.hok
  have hl := r.length
  have hl2 := r2.length
  refine PySem.P.add_list e e2 ?_ (by rw [List.size_toArray, List.size_toArray]; omega)
  have ea : its.toArray ++ its2.toArray = (its ++ its2).toArray := by simp
  rw [ea]
  exact ⟨.ref _, _, I.lnew (t' := s.toks) (r.append r2) (by rw [List.length_append]; omega), rfl, q _ I.fresh⟩
end L2
set_option Elab.async false
set_option linter.all false
set_option maxRecDepth 100000
set_option autoImplicit false
namespace DL
open PySem L2
variable {B : Bs}
section
variable {X : Cx} {a b c : Expr} {ta tb tc : Ev} {pos : Pos}
def oAdd : R2v := fun x y S => match x, y with
  | .int i, .int j => some (.int (i + j), S)
  | .str i, .str j => if i.length + j.length ≤ sizeLine then some (.str (i ++ j), S) else none
  | .tup xs, .tup ys => if xs.length + ys.length ≤ sizeLine then some (.tup (xs ++ ys), S) else none
  | .ref a, .ref b => match rdL S a, rdL S b with
    | some xs, some ys => if xs.length + ys.length ≤ sizeLine then some (.ref S.length, S ++ [.lst (xs ++ ys)]) else none
    | _, _ => none
  | _, _ => none
theorem ObR.rdL {ι : Lm} {H : Hp} {a : Addr} {m : MO} {xs : List D} {K : PySem.W.Frag} (h : ObR K B ι H a m) (e : m = .lst xs ∨ m = .rol xs) : ∃ vs, Rd H a (.lst vs) ∧ Rps K ι H xs vs := by
  rcases e with rfl | rfl
  · obtain ⟨vs, q, r⟩ := h; exact ⟨vs, .inl q, r⟩
  · obtain ⟨vs, q, r⟩ := h; exact ⟨vs, q, r⟩
theorem HR.refR {K : PySem.W.Frag} {ι : Lm} {S : Sto} {H : Hp} {l : Nat} {v : V} {xs : List D} (hr : HR K B ι S H) (r : Rp K ι H (.ref l) v) (e : DL.rdL S l = some xs) : ∃ a vs, v = .ref a ∧ Rd H a (.lst vs) ∧ Rps K ι H xs vs := by
  obtain ⟨m, w1, w2⟩ := rdL_some e
  obtain ⟨b, rfl, _, ob⟩ := hr.ref r w1
  obtain ⟨vs, hq, rr⟩ := ob.rdL w2
  exact ⟨b, vs, rfl, hq, rr⟩
theorem ol_add : OpL B X (binaryOp .Add) oAdd :=
  ⟨_, OpR.or op_add (OpR.or op_add_str (OpR.or op_catA op_catR)), fun dx dy S H ι x y Q d S' rx ry hr h q => by
    cases dx <;> cases dy <;> simp only [oAdd, reduceCtorEq] at h
    · cases h
      exact .inl ⟨_, _, rx, ry, q.self hr rfl⟩
    · split at h
      · rename_i z; cases h
        exact .inr (.inl ⟨_, _, rx, ry, z, q.self hr rfl⟩)
      · cases h
    · split at h
      · rename_i xs ys e1 e2
        split at h
        · rename_i z; cases h
          obtain ⟨a1, vs, rfl, h1, r1⟩ := hr.refR rx e1
          obtain ⟨b1, us, rfl, h2, r2⟩ := hr.refR ry e2
          exact .inr (.inr (.inr ⟨a1, b1, vs, us, rfl, rfl, h1, h2, by rw [← r1.length, ← r2.length]; exact z, fun p n => q.lst hr (r1.app r2) n⟩))
        · cases h
      · cases h
    · split at h
      · rename_i z; cases h
        obtain ⟨a1, vs, rfl, h1, r1⟩ := rx
        obtain ⟨b1, us, rfl, h2, r2⟩ := ry
        refine .inr (.inr (.inl ⟨a1, b1, vs, us, rfl, rfl, h1, h2, by rw [← r1.length, ← r2.length]; exact z, fun z => ?_, fun z w => ?_, fun z w p n => q.tup hr (r1.app r2) n⟩))
        · subst z
          have e1 : _ = [] := List.length_eq_zero_iff.mp r1.length
          subst e1
          exact q.self hr ⟨b1, us, rfl, h2, r2⟩
        · subst w
          have e1 : _ = [] := List.length_eq_zero_iff.mp r2.length
          subst e1
          exact q.self hr ⟨a1, vs, rfl, h1, by rw [List.append_nil]; exact r1⟩
      · cases h⟩
def cMul (i j : Int) : Bool := (decide (-(2 ^ 64) < i) && decide (i < 2 ^ 64)) || (decide (-(2 ^ 64) < j) && decide (j < 2 ^ 64))
theorem cMul_ok {i j : Int} (h : cMul i j = true) : CMul i j := by
  unfold cMul at h
  simp only [Bool.or_eq_true, Bool.and_eq_true, decide_eq_true_eq] at h
  exact h
def oMul : R2v := fun x y S => match x, y with
  | .int i, .int j => if cMul i j = true then some (.int (i * j), S) else none
  | .tup xs, .int k => if -(2 ^ 20) < k ∧ k < 2 ^ 20 ∧ xs.length * k.toNat ≤ sizeLine then some (.tup (List.replicate k.toNat xs).flatten, S) else none
  | .ref a, .int k => match wrL S a with
    | some xs => if -(2 ^ 63) ≤ k ∧ k < 2 ^ 63 ∧ xs.length * k.toNat ≤ sizeLine then some (.ref S.length, S ++ [.lst (List.replicate k.toNat xs).flatten]) else none
    | _ => none
  | _, _ => none
theorem rep_nil {α : Type} : ∀ n : Nat, (List.replicate n ([] : List α)).flatten = []
  | 0 => rfl
  | n + 1 => by rw [List.replicate_succ, List.flatten_cons, rep_nil n]; rfl
theorem ol_mul : OpL B X (binaryOp .Mult) oMul :=
  ⟨_, OpR.or op_mul (OpR.or op_repU op_rep), fun dx dy S H ι x y Q d S' rx ry hr h q => by
    cases dx <;> cases dy <;> simp only [oMul, reduceCtorEq] at h
    · split at h
      · rename_i z; cases h
        exact .inl ⟨_, _, rx, ry, cMul_ok z, q.self hr rfl⟩
      · cases h
    · split at h
      · rename_i xs e1
        split at h
        · rename_i z; cases h
          obtain ⟨a1, vs, rfl, _, h1, r1⟩ := hr.refW rx e1
          exact .inr (.inr ⟨a1, _, vs, rfl, ry, h1, z.1, z.2.1, by rw [← r1.length]; exact z.2.2, fun p n => q.lst hr (r1.rep _) n⟩)
        · cases h
      · cases h
    · split at h
      · rename_i xs k z; cases h
        obtain ⟨a1, vs, rfl, h1, r1⟩ := rx
        refine .inr (.inl ⟨a1, vs, k, rfl, ry, h1, z.1, z.2.1, by rw [← r1.length]; exact z.2.2, fun w => ?_, fun w1 w2 p n => ?_, fun w1 w2 p n => q.tup hr (r1.rep _) n⟩)
        · refine q.self hr ⟨a1, vs, rfl, h1, ?_⟩
          rcases w with w | w
          · subst w
            have e1 : _ = [] := List.length_eq_zero_iff.mp r1.length
            subst e1
            rw [rep_nil]; rfl
          · subst w
            have := r1.rep 1
            rw [show (List.replicate 1 vs).flatten = vs by simp] at this
            exact this
        · have := q.tup hr (r1.rep k.toNat) n
          rw [show k.toNat = 0 by omega] at this
          exact this
      · cases h⟩
def scalD : D → D → Bool
  | .non, .non => true | .non, .int _ => true | .int _, .non => true | .non, .bl _ => true | .bl _, .non => true | .non, .str _ => true | .str _, .non => true
  | .int _, .int _ => true | .bl _, .bl _ => true | .str _, .str _ => true
  | .int _, .str _ => true | .str _, .int _ => true | .bl _, .str _ => true | .str _, .bl _ => true
  | _, _ => false
mutual
/-- a value as plain data; lists by what is in them, to the depth n -/
def toPy (S : Sto) : Nat → D → Option PyData
  | 0, _ => none
  | _ + 1, .non => some .none
  | _ + 1, .bl b => some (.bool b)
  | _ + 1, .int i => some (.int i)
  | _ + 1, .str x => some (.str x)
  | n + 1, .tup xs => (toPys S n xs).map .tuple
  | n + 1, .ref l => (rdL S l).bind fun xs => (toPys S n xs).map .list
  | _ + 1, .ty _ => none
def toPys (S : Sto) : Nat → List D → Option (List PyData)
  | _, [] => some []
  | n, d :: ds => (toPy S n d).bind fun x => (toPys S n ds).map fun xs => x :: xs
end
theorem mp {α β : Type} {x : Option α} {f : α → β} {b : β} (h : x.map f = some b) : ∃ a, x = some a ∧ f a = b := by
  cases x with
  | none => cases h
  | some a => cases h; exact ⟨a, rfl, rfl⟩
theorem toPy_dp {K : PySem.W.Frag} {ι : Lm} {S : Sto} {H : Hp} (hr : HR K B ι S H) : ∀ (n : Nat), (∀ (d : D) (v : V) (p : PyData), Rp K ι H d v → toPy S n d = some p → Dp K H v p) ∧ (∀ (ds : List D) (vs : List V) (ps : List PyData), Rps K ι H ds vs → toPys S n ds = some ps → DpAll K H vs ps) := by
  have step : ∀ (n : Nat), (∀ (d : D) (v : V) (p : PyData), Rp K ι H d v → toPy S n d = some p → Dp K H v p) → (∀ (ds : List D) (vs : List V) (ps : List PyData), Rps K ι H ds vs → toPys S n ds = some ps → DpAll K H vs ps) := fun n ih ds => by
    induction ds with
    | nil =>
      intro vs ps r e
      rw [show vs = [] from r]
      simp only [toPys] at e
      cases e
      exact .nil
    | cons d ds ih2 =>
      intro vs ps r e
      obtain ⟨v, u, rfl, r1, r2⟩ := r
      simp only [toPys] at e
      obtain ⟨x, e1, e⟩ := bd e
      obtain ⟨xs, e2, rfl⟩ := mp e
      exact .cons (ih d v x r1 e1) (ih2 u xs r2 e2)
  intro n
  induction n with
  | zero => exact ⟨fun d v p r e => (by simp only [toPy] at e; cases e), step 0 fun d v p r e => (by simp only [toPy] at e; cases e)⟩
  | succ n ih =>
    have one : ∀ (d : D) (v : V) (p : PyData), Rp K ι H d v → toPy S (n + 1) d = some p → Dp K H v p := fun d v p r e => by
      cases d with
      | non => simp only [toPy] at e; cases e; rw [show v = .non from r]; exact .non
      | bl b => simp only [toPy] at e; cases e; rw [show v = .bl b from r]; exact .bl b
      | int b => simp only [toPy] at e; cases e; rw [show v = .int b from r]; exact .int b
      | str b => simp only [toPy] at e; cases e; rw [show v = .str b from r]; exact .str b
      | ty b => simp only [toPy] at e; cases e
      | tup xs =>
        simp only [toPy] at e
        obtain ⟨ps, e1, rfl⟩ := mp e
        obtain ⟨a, vs, rfl, hq, rr⟩ := r
        exact .tup hq (ih.2 xs vs ps rr e1)
      | ref l =>
        simp only [toPy] at e
        obtain ⟨xs, e1, e⟩ := bd e
        obtain ⟨ps, e2, rfl⟩ := mp e
        obtain ⟨a, vs, rfl, hq, rr⟩ := hr.refL r e1
        exact .lst hq (ih.2 xs vs ps rr e2)
    exact ⟨one, step (n + 1) one⟩
def eqO (x y : D) (S : Sto) : Option Bool := if scalD x y = true then some (decide (x = y)) else match toPy S 70 x, toPy S 70 y with
  | some p, some q => if SeqAt.shaped p = true ∧ SeqAt.shaped q = true then some (PyData.eqv p q) else none
  | _, _ => none
def oEq : R2v := fun x y S => (eqO x y S).map fun k => (.bl k, S)
def oNe : R2v := fun x y S => (eqO x y S).map fun k => (.bl (!k), S)
theorem scal_of {K : PySem.W.Frag} {ι : Lm} {H : Hp} {dx dy : D} {x y : V} (rx : Rp K ι H dx x) (ry : Rp K ι H dy y) (h : scalD dx dy = true) : scal x y = true ∧ decide (x = y) = decide (dx = dy) := by
  have key : ∀ {p q : Prop} [Decidable p] [Decidable q], (p ↔ q) → decide p = decide q := fun h => by simp [h]
  cases dx with
  | non => rw [show x = .non from rx]; cases dy <;> simp only [scalD, Bool.false_eq_true] at h <;> first | (rw [show y = .non from ry]; exact ⟨rfl, by simp⟩) | (rw [show y = _ from ry]; exact ⟨rfl, by simp⟩)
  | bl i => rw [show x = .bl i from rx]; cases dy <;> simp only [scalD, Bool.false_eq_true] at h <;> (rw [show y = _ from ry]; exact ⟨rfl, by simp⟩)
  | int i => rw [show x = .int i from rx]; cases dy <;> simp only [scalD, Bool.false_eq_true] at h <;> (rw [show y = _ from ry]; exact ⟨rfl, by simp⟩)
  | str i => rw [show x = .str i from rx]; cases dy <;> simp only [scalD, Bool.false_eq_true] at h <;> (rw [show y = _ from ry]; exact ⟨rfl, by simp⟩)
  | ty _ => cases dy <;> simp [scalD] at h
  | ref _ => cases dy <;> simp [scalD] at h
  | tup _ => cases dy <;> simp [scalD] at h
theorem eqO_src {K : PySem.W.Frag} {ι : Lm} {S : Sto} {H : Hp} {dx dy : D} {x y : V} {k : Bool} (rx : Rp K ι H dx x) (ry : Rp K ι H dy y) (hr : HR K B ι S H) (h : eqO dx dy S = some k) :
    (scal x y = true ∧ decide (x = y) = k) ∨ ∃ d e, Dp K H x d ∧ Dp K H y e ∧ SeqAt.shaped d = true ∧ SeqAt.shaped e = true ∧ PyData.eqv d e = k := by
  unfold eqO at h
  split at h
  · rename_i z
    cases h
    exact .inl (scal_of rx ry z)
  · split at h
    · rename_i p q e1 e2
      split at h
      · rename_i z
        cases h
        exact .inr ⟨p, q, (toPy_dp hr 70).1 _ _ _ rx e1, (toPy_dp hr 70).1 _ _ _ ry e2, z.1, z.2, rfl⟩
      · cases h
    · cases h
theorem ol_eq (hu : X.A.units + 64 < cLine) : OpL B X (compareOp .Eq) oEq :=
  ⟨_, OpR.or op_eq (op_eqD hu), fun dx dy S H ι x y Q d S' rx ry hr h q => by
    obtain ⟨k, e, e2⟩ := mp h
    cases e2
    rcases eqO_src rx ry hr e with ⟨h1, h2⟩ | ⟨p, r, h1, h2, h3, h4, h5⟩
    · exact .inl ⟨h1, by rw [h2]; exact q.self hr rfl⟩
    · exact .inr ⟨p, r, h1, h2, h3, h4, by rw [h5]; exact q.self hr rfl⟩⟩
theorem ol_ne (hu : X.A.units + 64 < cLine) : OpL B X (compareOp .NotEq) oNe :=
  ⟨_, OpR.or op_ne (op_neD hu), fun dx dy S H ι x y Q d S' rx ry hr h q => by
    obtain ⟨k, e, e2⟩ := mp h
    cases e2
    rcases eqO_src rx ry hr e with ⟨h1, h2⟩ | ⟨p, r, h1, h2, h3, h4, h5⟩
    · exact .inl ⟨h1, by rw [h2]; exact q.self hr rfl⟩
    · exact .inr ⟨p, r, h1, h2, h3, h4, by rw [h5]; exact q.self hr rfl⟩⟩
def oIs (neg : Bool) : R2v := fun x y S => match x, y with
  | .bl i, .bl j => some (.bl (xor neg (i == j)), S)
  | x, .non => some (.bl (xor neg (decide (x = .non))), S)
  | _, _ => none
theorem Rp.non_iff {K : PySem.W.Frag} {ι : Lm} {H : Hp} {d : D} {v : V} (r : Rp K ι H d v) : decide (v = .non) = decide (d = .non) := by
  cases d with
  | non => rw [show v = .non from r]; rfl
  | bl i => rw [show v = .bl i from r]; simp
  | int i => rw [show v = .int i from r]; simp
  | str i => rw [show v = .str i from r]; simp
  | ty i => rw [show v = .ty i from r]; simp
  | ref l => obtain ⟨a, _, rfl⟩ := r; simp
  | tup l => obtain ⟨a, _, rfl, _⟩ := r; simp
theorem ol_isnot : OpL B X (compareOp .IsNot) (oIs true) :=
  ⟨_, OpR.or op_isnotB op_notN, fun dx dy S H ι x y Q d S' rx ry hr h q => by
    cases dy with
    | bl j =>
      cases dx <;> simp only [oIs, reduceCtorEq] at h
      cases h
      exact .inl ⟨_, _, rx, ry, q.self hr (by simp [Rp])⟩
    | non =>
      have h' : some (D.bl (xor true (decide (dx = .non))), S) = some (d, S') := by rw [← h]; cases dx <;> rfl
      cases h'
      exact .inr ⟨ry, q.self hr (by rw [rx.non_iff]; simp [Rp])⟩
    | int _ => cases dx <;> simp [oIs] at h
    | str _ => cases dx <;> simp [oIs] at h
    | ty _ => cases dx <;> simp [oIs] at h
    | ref _ => cases dx <;> simp [oIs] at h
    | tup _ => cases dx <;> simp [oIs] at h⟩
def flatD : D → Bool
  | .non => true | .bl _ => true | .int _ => true | .str _ => true
  | _ => false
def eqF : D → D → Bool
  | .non, .non => true
  | .bl a, .bl b => a == b
  | .bl a, .int b => (if a then 1 else 0) == b
  | .int a, .bl b => a == (if b then 1 else 0)
  | .int a, .int b => a == b
  | .str a, .str b => a == b
  | _, _ => false
def seqD (S : Sto) : D → Option (List D)
  | .tup xs => some xs
  | .ref l => rdL S l
  | _ => none
theorem seqD_some {K : PySem.W.Frag} {ι : Lm} {S : Sto} {H : Hp} {d : D} {v : V} {xs : List D} (hr : HR K B ι S H) (r : Rp K ι H d v) (h : seqD S d = some xs) : ∃ a vs, v = .ref a ∧ (SqL K H a vs ∨ SqT K H a vs) ∧ Rps K ι H xs vs := by
  cases d <;> simp only [seqD, reduceCtorEq] at h
  · obtain ⟨a, vs, rfl, hq, rr⟩ := hr.refL r h
    exact ⟨a, vs, rfl, .inl hq, rr⟩
  · cases h
    obtain ⟨a, vs, rfl, hq, rr⟩ := r
    exact ⟨a, vs, rfl, .inr hq, rr⟩
def oIn (neg : Bool) : R2v := fun x y S => (seqD S y).bind fun xs => if (flatD x && xs.all flatD) = true then some (.bl (xor neg (xs.any fun z => eqF z x)), S) else none
def oIx : R2v := fun x y S => match y with
  | .int i => (seqD S x).bind fun xs => (atI xs i).map fun d => (d, S)
  | _ => none
theorem atI_of {K : PySem.W.Frag} {ι : Lm} {H : Hp} {ds : List D} {vs : List V} {i : Int} {d : D} (r : Rps K ι H ds vs) (h : atI ds i = some d) : ∃ v, atI vs i = some v ∧ Rp K ι H d v := by
  unfold atI at h ⊢
  rw [r.length] at h
  obtain ⟨j, e, h⟩ := bd h
  obtain ⟨v, q, rv⟩ := r.at h
  exact ⟨v, by rw [e]; exact q, rv⟩
theorem ix_src {K : PySem.W.Frag} : Src2 K B (fun x y H Q => rIxL K x y H Q ∨ rIxT K x y H Q) oIx := fun dx dy S H ι x y Q d S' rx ry hr h q => by
  cases dy <;> simp only [oIx, reduceCtorEq] at h
  obtain ⟨xs, e, h⟩ := bd h
  obtain ⟨d', e2, h⟩ := mp h
  cases h
  obtain ⟨a, vs, rfl, hq, rr⟩ := seqD_some hr rx e
  obtain ⟨v, e3, rv⟩ := atI_of rr e2
  rcases hq with hq | hq
  · exact .inl ⟨a, vs, _, v, rfl, ry, hq, e3, q.self hr rv⟩
  · exact .inr ⟨a, vs, _, v, rfl, ry, hq, e3, q.self hr rv⟩
theorem lix (ha : PL B X a ta) (hb : PL B X b tb) (hs : PlainIx b := by exact fun _ _ => rfl) : PL B X (.Subscript a b pos) (eOp oIx ta tb) :=
  PL.wk (pe_ix (IxR.or ix_list ix_tup) ha.p hb.p hs) fun σ H Q => op_up ix_src
abbrev Ov := En → Sto → Option (Option Int × Sto)
def oNo : Ov := fun _ S => some (none, S)
def oYes (t : Ev) : Ov := fun ρ S => (t ρ S).bind fun p => match p.1 with
  | .int i => some (some i, p.2)
  | _ => none
def upO (K : PySem.W.Frag) (B : Bs) (t : Ov) : TO := fun σ H Q => ∃ ρ ι S, EnvR K ι H σ ρ ∧ HR K B ι S H ∧ ∃ o S', t ρ S = some (o, S') ∧ ∀ ι' H', Fr ι S H ι' S' H' → HR K B ι' S' H' → Q o H'
structure PLO (B : Bs) (X : Cx) (o : Option Expr) (t : Ov) : Prop where
  p : PO X o (upO X.K B t)
theorem PO.weak {o : Option Expr} {t t' : TO} (h : PO X o t) (i : ∀ σ H Q, t' σ H Q → t σ H Q) : PO X o t' := fun pins s σ H Q I q => h pins s σ H Q I (i σ H Q q)
theorem PLO.wk {o : Option Expr} {t : TO} {t' : Ov} (h : PO X o t) (i : ∀ σ H Q, upO X.K B t' σ H Q → t σ H Q) : PLO B X o t' := ⟨PO.weak h i⟩
theorem lono : PLO B X none oNo := ⟨PO.weak po_none fun σ H Q ⟨ρ, ι, S, er, hr, d, S', h, q⟩ => by
  cases h
  exact q ι H .refl hr⟩
theorem loyes (ha : PL B X a ta) : PLO B X (some a) (oYes ta) := PLO.wk (po_some ha.p) fun σ H Q ⟨ρ, ι, S, er, hr, d, S', h, q⟩ => by
  obtain ⟨⟨x, S1⟩, h1, h⟩ := bd h
  refine up_then er hr h1 fun v ι1 H1 f1 er1 r1 hr1 => ?_
  cases x <;> simp only [reduceCtorEq] at h
  cases h
  exact ⟨_, r1, q _ _ f1 hr1⟩
def cutD (xs : List D) (lo hi : Option Int) : List D := (xs.drop (HT.sIx xs.length 0 lo)).take (HT.sIx xs.length xs.length hi - HT.sIx xs.length 0 lo)
theorem cut_of {K : PySem.W.Frag} {ι : Lm} {H : Hp} {ds : List D} {vs : List V} {lo hi : Option Int} (r : Rps K ι H ds vs) : Rps K ι H (cutD ds lo hi) (cutV vs lo hi) := by
  unfold cutD cutV
  rw [r.length]
  exact (r.drop _).take _
def slD (x : D) (lo hi : Option Int) (S : Sto) : Option (D × Sto) := match x with
  | .tup xs => if HT.sIx xs.length 0 lo = 0 ∧ HT.sIx xs.length xs.length hi = xs.length then none else some (.tup (cutD xs lo hi), S)
  | .ref l => (rdL S l).map fun xs => (.ref S.length, S ++ [.lst (cutD xs lo hi)])
  | _ => none
def eSl (t : Ev) (lo hi : Ov) : Ev := fun ρ S => (t ρ S).bind fun p => (lo ρ p.2).bind fun q => (hi ρ q.2).bind fun r => slD p.1 q.1 r.1 r.2
variable {lo hi : Option Expr} {tl th : Ov} {p2 : Pos}
theorem upO_then {K : PySem.W.Frag} {ι : Lm} {S S1 : Sto} {H : Hp} {σ : St} {ρ : En} {t : Ov} {d : Option Int} {Q : Option Int → Hp → Prop} (er : EnvR K ι H σ ρ) (hr : HR K B ι S H) (h : t ρ S = some (d, S1))
    (k : ∀ ι1 H1, Fr ι S H ι1 S1 H1 → EnvR K ι1 H1 σ ρ → HR K B ι1 S1 H1 → Q d H1) : upO K B t σ H Q :=
  ⟨ρ, ι, S, er, hr, d, S1, h, fun ι' H' f hr' => k ι' H' f (er.ext (f.ext hr)) hr'⟩
theorem lsl (ha : PL B X a ta) (hl : PLO B X lo tl) (hh : PLO B X hi th) : PL B X (.Subscript a (.Slice lo hi none p2) pos) (eSl ta tl th) :=
  PL.wk (pe_slice (SlR.or sl_tup sl_list) ha.p hl.p hh.p) fun σ H Q ⟨ρ, ι, S, er, hr, d, S', h, q⟩ => by
    obtain ⟨⟨x, S1⟩, h1, h⟩ := bd h
    obtain ⟨⟨l, S2⟩, h2, h⟩ := bd h
    obtain ⟨⟨u, S3⟩, h3, h⟩ := bd h
    refine up_then er hr h1 fun v ι1 H1 f1 er1 r1 hr1 => upO_then er1 hr1 h2 fun ι2 H2 f2 er2 hr2 => upO_then er2 hr2 h3 fun ι3 H3 f3 er3 hr3 => ?_
    have f := (f1.trans f2).trans f3
    have r3 := Rp.ext (f3.ext hr2) x v (Rp.ext (f2.ext hr1) x v r1)
    cases x <;> simp only [slD, reduceCtorEq] at h
    · obtain ⟨xs, e, h⟩ := mp h
      cases h
      obtain ⟨a1, vs, rfl, hq, rr⟩ := hr3.refL r3 e
      exact .inr ⟨a1, vs, rfl, hq, fun p n => (q.fr f).lst hr3 (cut_of rr) n⟩
    · split at h
      · cases h
      · rename_i z
        cases h
        obtain ⟨a1, vs, rfl, hq, rr⟩ := r3
        exact .inl ⟨a1, vs, rfl, hq, by rw [← rr.length]; exact z, fun p n => (q.fr f).tup hr3 (cut_of rr) n⟩
end
end DL
set_option Elab.async false
set_option linter.all false
set_option maxRecDepth 100000
set_option autoImplicit false
namespace L2
open PySem PySem.Spec PyProof.Rows
inductive TyOf2 (K : PySem.W.Frag) (H : Hp) : V → Value → Prop where
  | of {x : V} {t : Value} (h : TyOf K H x t) : TyOf2 K H x t
  | lst {a : Addr} {xs : List V} (e : SqL K H a xs) : TyOf2 K H (.ref a) (.type "list")
  | tup {a : Addr} {xs : List V} (e : SqT K H a xs) : TyOf2 K H (.ref a) (.type "tuple")
  | dct {a : Addr} {kvs : List (Key × V)} (e : Rd H a (.dK kvs)) : TyOf2 K H (.ref a) (.type "dict")
theorem call_isi2 {X : Cx} : CallR X (.builtin "isinstance") (fun xs H Q => ∃ x n t b, xs = [x, .ty n] ∧ TyOf2 X.K H x t ∧ PySem.W.kitOne X.K t (.type n) = some b ∧ Q (.bl b) H) := by
  intro pins s σ H xs us Q I r h
  obtain ⟨x, n, t, b, rfl, ty, e, q⟩ := h
  cases r with
  | cons r1 r2 =>
    cases r2 with
    | cons r3 r4 =>
      cases r4
      cases r3
      cases ty with
      | of ty => exact isinst_ok I r1 ty e fun tk => ⟨.bl b, H, I.tok tk, rfl, q⟩
      | @lst a xs hq =>
        cases (show _ = Value.ref a from r1)
        obtain ⟨its, rv, ⟨o, n, h1, hc, _⟩, _⟩ := I.list hq
        exact PySem.W.kia_one PySem.W.kitx_list I.kIn ⟨_, h1, hc⟩ e (fun z => nomatch z) fun tk => ⟨.bl b, H, I.tok tk, rfl, q⟩
      | @tup a xs hq =>
        cases (show _ = Value.ref a from r1)
        obtain ⟨its, rv, p, _⟩ := I.tuple hq
        obtain ⟨o, h1, h2, _⟩ := p
        exact PySem.W.kia_one PySem.W.kitx_tuple I.kIn ⟨o, h1, h2⟩ e (fun z => nomatch z) fun tk => ⟨.bl b, H, I.tok tk, rfl, q⟩
      | @dct a kvs hq =>
        cases (show _ = Value.ref a from r1)
        obtain ⟨_, _, vs, _, o, es, ep, h1, h2, _⟩ := dk_rd I.hok hq
        exact PySem.W.kia_one PySem.W.kitx_dict I.kIn ⟨o, h1, h2.1⟩ e (fun z => nomatch z) fun tk => ⟨.bl b, H, I.tok tk, rfl, q⟩
theorem set_dict {X : Cx} (hu : X.A.units + 1 < cLine) : PSet X (fun o i v H Q => ∃ a H', o = .ref a ∧ DPut H a i v H' ∧ Q H') := by
  intro pins s σ H o i v ov iv u Q I ro ri rv h
  obtain ⟨a, H', rfl, g, q⟩ := h
  cases ro
  exact d_setItem hu I g ri rv fun s' I' => ⟨H', I', q⟩
theorem PSet.or {X : Cx} {t t' : TSet} (h : PSet X t) (h' : PSet X t') : PSet X (fun o i v H Q => t o i v H Q ∨ t' o i v H Q) := by
  intro pins s σ H o i v ov iv u Q I ro ri rv q
  rcases q with q | q
  · exact h pins s σ H o i v ov iv u Q I ro ri rv q
  · exact h' pins s σ H o i v ov iv u Q I ro ri rv q
end L2
namespace DL
open PySem L2
variable {B : Bs}
section
variable {X : Cx} {a b c : Expr} {ta tb tc : Ev} {pos : Pos} {es : List Expr} {tr : Av}
abbrev RCv := List D → Sto → Option (D × Sto)
def SrcC (K : PySem.W.Frag) (B : Bs) (r' : List V → Hp → VK → Prop) (r : RCv) : Prop := ∀ ds S H ι vs Q d S', Rps K ι H ds vs → HR K B ι S H → r ds S = some (d, S') → dn K B ι S H Q d S' → r' vs H Q
def eCB (r : RCv) (t : Av) : Ev := fun ρ S => (t ρ S).bind fun p => r p.1 p.2
theorem cb_up {r' : List V → Hp → VK → Prop} {r : RCv} (hs : SrcC X.K B r' r) {σ : St} {H : Hp} {Q : VK} : upE X.K B (eCB r tr) σ H Q → tCB r' (upA X.K B tr) σ H Q := fun ⟨ρ, ι, S, er, hr, d, S', h, q⟩ => by
  obtain ⟨⟨xs, S1⟩, h1, h⟩ := bd h
  exact upA_then er hr h1 fun vs ι1 H1 f1 er1 r1 hr1 => hs xs S1 H1 ι1 vs Q d S' r1 hr1 h (q.fr f1)
def CaL (B : Bs) (X : Cx) (f : Value) (r : RCv) : Prop := ∃ r', CallR X f r' ∧ SrcC X.K B r' r
variable {id T : String} {x : Str} {p : Pos} {r : RCv}
theorem lcallB (hc : CaL B X (.builtin id) r) (hg : Gl X x) (hm : X.mg x = none) (hv : bootBuiltins x = some (.builtin id)) (ha : PLA B X (a :: es) tr) (hn : x ≠ "__name__" := by decide) (hdb : (x == ("__debug__" : Str)) = false := by decide)
    (he : starEach (a :: es) X.env = (false, eval a X.env) :: starEach es X.env := by rfl) (hpl : (backTo pos (starEach es X.env)).any (·.1) = false := by rfl) : PL B X (.Call (.Name x p) (a :: es) [] pos) (eCB r tr) := by
  obtain ⟨r', h1, h2⟩ := hc
  exact PL.wk (pe_callB h1 hg hm hv ha.p hn hdb he hpl) fun σ H Q => cb_up h2
theorem lcallT (hc : CaL B X (.type T) r) (hg : Gl X x) (hm : X.mg x = none) (hv : bootBuiltins x = some (.type T)) (ha : PLA B X (a :: es) tr) (hn : x ≠ "__name__" := by decide) (hdb : (x == ("__debug__" : Str)) = false := by decide)
    (he : starEach (a :: es) X.env = (false, eval a X.env) :: starEach es X.env := by rfl) (hpl : (backTo pos (starEach es X.env)).any (·.1) = false := by rfl) : PL B X (.Call (.Name x p) (a :: es) [] pos) (eCB r tr) := by
  obtain ⟨r', h1, h2⟩ := hc
  exact PL.wk (pe_callTy h1 hg hm hv ha.p hn hdb he hpl) fun σ H Q => cb_up h2
theorem Rps.one {K : PySem.W.Frag} {ι : Lm} {H : Hp} {d : D} {vs : List V} (r : Rps K ι H [d] vs) : ∃ v, vs = [v] ∧ Rp K ι H d v := by
  obtain ⟨v, u, rfl, r1, r2⟩ := r
  exact ⟨v, by rw [show u = [] from r2], r1⟩
theorem Rps.two {K : PySem.W.Frag} {ι : Lm} {H : Hp} {d e : D} {vs : List V} (r : Rps K ι H [d, e] vs) : ∃ v u, vs = [v, u] ∧ Rp K ι H d v ∧ Rp K ι H e u := by
  obtain ⟨v, u, rfl, r1, r2⟩ := r
  obtain ⟨w, rfl, r3⟩ := r2.one
  exact ⟨v, w, rfl, r1, r3⟩
def cLen : RCv := fun ds S => match ds with
  | [d] => (seqD S d).map fun xs => (.int xs.length, S)
  | _ => none
theorem ca_len : CaL B X (.builtin "len") cLen := ⟨_, call_len_seq, fun ds S H ι vs Q d S' r hr h q => by
  match ds, h with
  | [d1], h =>
    obtain ⟨xs, e, h⟩ := mp h
    cases h
    obtain ⟨v, rfl, r1⟩ := r.one
    obtain ⟨a, us, rfl, hq, rr⟩ := seqD_some hr r1 e
    exact ⟨a, us, rfl, hq, by rw [← rr.length]; exact q.self hr rfl⟩⟩
def cMin : RCv := fun ds S => match ds with
  | [.int i, .int j] => some (.int (if j < i then j else i), S)
  | _ => none
def cMax : RCv := fun ds S => match ds with
  | [.int i, .int j] => some (.int (if j > i then j else i), S)
  | _ => none
theorem ca_min (hc : X.calm = true) : CaL B X (.builtin "min") cMin := ⟨_, call_min2 hc, fun ds S H ι vs Q d S' r hr h q => by
  match ds, h with
  | [.int i, .int j], h =>
    cases h
    obtain ⟨v, u, rfl, r1, r2⟩ := r.two
    exact ⟨i, j, by rw [show v = _ from r1, show u = _ from r2], q.self hr rfl⟩⟩
theorem ca_max (hc : X.calm = true) : CaL B X (.builtin "max") cMax := ⟨_, call_max2 hc, fun ds S H ι vs Q d S' r hr h q => by
  match ds, h with
  | [.int i, .int j], h =>
    cases h
    obtain ⟨v, u, rfl, r1, r2⟩ := r.two
    exact ⟨i, j, by rw [show v = _ from r1, show u = _ from r2], q.self hr rfl⟩⟩
def cAbs : RCv := fun ds S => match ds with
  | [.int i] => some (.int (if i < 0 then -i else i), S)
  | _ => none
def cInt : RCv := fun ds S => match ds with
  | [.int i] => some (.int i, S)
  | [.bl k] => some (.int (if k then 1 else 0), S)
  | _ => none
theorem ca_int : CaL B X (.type "int") cInt := ⟨_, call_int1, fun ds S H ι vs Q d S' r hr h q => by
  match ds, h with
  | [.int i], h =>
    cases h
    obtain ⟨v, rfl, r1⟩ := r.one
    exact .inl ⟨i, by rw [show v = _ from r1], q.self hr rfl⟩
  | [.bl k], h =>
    cases h
    obtain ⟨v, rfl, r1⟩ := r.one
    exact .inr ⟨k, by rw [show v = _ from r1], q.self hr rfl⟩⟩
def intsD : List D → Option (List Int)
  | [] => some []
  | .int i :: r => (intsD r).map fun is => i :: is
  | _ => none
theorem intsD_map : ∀ {ds : List D} {ns : List Int}, intsD ds = some ns → ds = ns.map D.int
  | [], _, h => by cases h; rfl
  | .int i :: r, _, h => by
    obtain ⟨is, e, rfl⟩ := mp h
    rw [intsD_map e]; rfl
theorem intsD_of (ns : List Int) : intsD (ns.map D.int) = some ns := by
  induction ns with
  | nil => rfl
  | cons n r ih => simp only [List.map_cons, intsD, ih]; rfl
def cSum : RCv := fun ds S => match ds with
  | [.ref l] => (rdL S l).bind fun xs => (intsD xs).map fun ns => (.int ns.sum, S)
  | _ => none
theorem ca_sum (hc : X.calm = true) : CaL B X (.builtin "sum") cSum := ⟨_, cr_sum hc, fun ds S H ι vs Q d S' r hr h q => by
  match ds, h with
  | [.ref l], h =>
    obtain ⟨xs, e, h⟩ := bd h
    obtain ⟨ns, e2, h⟩ := mp h
    cases h
    obtain ⟨v, rfl, r1⟩ := r.one
    obtain ⟨a, us, rfl, hq, rr⟩ := hr.refL r1 e
    rw [intsD_map e2] at rr
    rw [rr.ints] at hq
    exact ⟨a, ns, rfl, hq, q.self hr rfl⟩⟩
def cTuple : RCv := fun ds S => match ds with
  | [d] => (seqD S d).map fun xs => (.tup xs, S)
  | _ => none
theorem ca_tuple : CaL B X (.type "tuple") cTuple := ⟨_, call_tuple_of, fun ds S H ι vs Q d S' r hr h q => by
  match ds, h with
  | [d1], h =>
    obtain ⟨xs, e, h⟩ := mp h
    cases h
    obtain ⟨v, rfl, r1⟩ := r.one
    cases d1 <;> simp only [seqD, reduceCtorEq] at e
    · obtain ⟨a, us, rfl, hq, rr⟩ := hr.refL r1 e
      exact ⟨a, us, rfl, .inl ⟨hq, fun p n => q.tup hr rr n⟩⟩
    · cases e
      obtain ⟨a, us, rfl, hq, rr⟩ := r1
      exact ⟨a, us, rfl, .inr ⟨hq, q.self hr ⟨a, us, rfl, hq, rr⟩⟩⟩⟩
def cList : RCv := fun ds S => match ds with
  | [d] => (seqD S d).map fun xs => (.ref S.length, S ++ [.lst xs])
  | _ => none
def tyD (S : Sto) : D → Option String
  | .non => some "NoneType"
  | .bl _ => some "bool"
  | .int _ => some "int"
  | .str _ => some "str"
  | .tup _ => some "tuple"
  | .ref l => match S[l]? with
    | some (.lst _) => some "list"
    | some (.rol _) => some "list"
    | some (.dic _) => some "dict"
    | some (.rod _) => some "dict"
    | _ => none
  | .ty _ => none
def isiB (T n : String) : Bool := decide (T = n) || (decide (T = "bool") && decide (n = "int"))
def cIsi : RCv := fun ds S => match ds with
  | [d, .ty n] => if n ∈ ["bool", "int", "str", "tuple", "list", "dict"] then (tyD S d).map fun T => (.bl (isiB T n), S) else none
  | _ => none
theorem kit_of {K : PySem.W.Frag} {T n : String} (h : T ∈ ["NoneType", "bool", "int", "str", "tuple", "list", "dict"]) (h2 : n ∈ ["bool", "int", "str", "tuple", "list", "dict"]) : PySem.W.kitOne K (.type T) (.type n) = some (isiB T n) := by
  simp only [List.mem_cons, List.not_mem_nil, or_false] at h h2
  rcases h with rfl | rfl | rfl | rfl | rfl | rfl | rfl <;> rcases h2 with rfl | rfl | rfl | rfl | rfl | rfl <;> rfl
theorem tyD_in {S : Sto} {d : D} {T : String} (h : tyD S d = some T) : T ∈ ["NoneType", "bool", "int", "str", "tuple", "list", "dict"] := by
  cases d with
  | ref l =>
    simp only [tyD] at h
    split at h <;> cases h <;> simp
  | ty _ => cases h
  | _ => cases h; simp
theorem ca_isi : CaL B X (.builtin "isinstance") cIsi := ⟨_, call_isi2, fun ds S H ι vs Q d S' r hr h q => by
  match ds, h with
  | [d1, .ty n], h =>
    simp only [cIsi] at h
    split at h
    · rename_i hn
      obtain ⟨T, e, h⟩ := mp h
      cases h
      obtain ⟨v, u, rfl, r1, r2⟩ := r.two
      refine ⟨v, n, .type T, isiB T n, by rw [show u = _ from r2], ?_, kit_of (tyD_in e) hn, q.self hr rfl⟩
      cases d1 with
      | non => cases e; rw [show v = _ from r1]; exact .of .non
      | bl i => cases e; rw [show v = _ from r1]; exact .of (.bl i)
      | int i => cases e; rw [show v = _ from r1]; exact .of (.int i)
      | str i => cases e; rw [show v = _ from r1]; exact .of (.str i)
      | ty _ => cases e
      | tup xs => cases e; obtain ⟨a, us, rfl, hq, rr⟩ := r1; exact .tup hq
      | ref l =>
        simp only [tyD] at e
        cases w : S[l]? with
        | none => rw [w] at e; cases e
        | some m =>
          rw [w] at e
          cases m with
          | lst _ => cases e; obtain ⟨a, rfl, _, us, z, _⟩ := hr.ref r1 w; exact .lst (.of z)
          | rol _ => cases e; obtain ⟨a, rfl, _, us, z, _⟩ := hr.ref r1 w; exact .lst (.inl z)
          | dic _ => cases e; obtain ⟨a, rfl, _, us, z, _⟩ := hr.ref r1 w; exact .of (.dK z)
          | rod _ => cases e; obtain ⟨a, rfl, _, us, z, _⟩ := hr.ref r1 w; exact .dct z
          | x _ => cases e
    · cases h⟩
def pairsD : Nat → List D → List D
  | _, [] => []
  | n, d :: ds => .tup [.int n, d] :: pairsD (n + 1) ds
def eListEnum (t : Ev) : Ev := fun ρ S => (t ρ S).bind fun p => match p.1 with
  | .ref l => (rdL p.2 l).bind fun xs => if xs.length ≤ sizeLine then some (.ref p.2.length, p.2 ++ [.lst (pairsD 0 xs)]) else none
  | _ => none
theorem pairs_of {K : PySem.W.Frag} {ι : Lm} {H : Hp} : ∀ (ds : List D) (vs : List V) (ts : List Addr) (n : Nat), Rps K ι H ds vs → ts.length = vs.length → (∀ (j : Nat) x, vs[j]? = some x → ∃ t, ts[j]? = some t ∧ H t = some (.tup [.int (n + j : Nat), x])) → Rps K ι H (pairsD n ds) (ts.map V.ref)
  | [], vs, ts, n, r, hl, _ => by
    rw [show vs = [] from r] at hl
    rw [List.length_eq_zero_iff.mp hl]; rfl
  | d :: ds, vs, ts, n, r, hl, h => by
    obtain ⟨v, u, rfl, r1, r2⟩ := r
    cases ts with
    | nil => simp at hl
    | cons t ts =>
      obtain ⟨t', e, ht⟩ := h 0 v rfl
      simp at e; subst e
      refine ⟨.ref t, ts.map V.ref, rfl, ⟨t, _, rfl, .of ht, ⟨_, _, rfl, by simp [Rp], ⟨v, [], rfl, r1, rfl⟩⟩⟩, pairs_of ds u ts (n + 1) r2 (by simpa using hl) fun j x e => ?_⟩
      obtain ⟨t', e1, h1⟩ := h (j + 1) x (by simpa using e)
      exact ⟨t', by simpa using e1, by rw [show n + 1 + j = n + (j + 1) by omega]; exact h1⟩
theorem Ext.of_sx {K : PySem.W.Frag} {ι : Lm} {H H' : Hp} {l : Addr} (sx : Sx [] H H') (n : H l = none) : Ext K ι H (ι ++ [l]) H' :=
  ⟨fun i a e => by rw [List.getElem?_append_left (List.getElem?_eq_some_iff.mp e).1]; exact e, fun a vs e => by
    rcases e with (e | ⟨ob, e⟩) | e
    · exact .inl (.inl (sx.1 _ _ (by simp) e))
    · exact .inl (.inr ⟨ob, sx.1 _ _ (by simp) e⟩)
    · exact .inr e, fun c φ e g => ⟨sx.1 _ _ (by simp) e, fun z => by
      rcases List.mem_append.mp z with z | z
      · exact g z
      · have z' : c = l := by simpa using z
        rw [z', n] at e; cases e⟩⟩
theorem dn.lstX {K : PySem.W.Frag} {ι : Lm} {S : Sto} {H H' : Hp} {Q : VK} {p : Addr} {ds : List D} {vs : List V} (q : dn K B ι S H Q (.ref S.length) (S ++ [.lst ds])) (hr : HR K B ι S H) (n : H p = none) (sx : Sx [] H H') (e : H' p = some (.lst vs)) (r : Rps K (ι ++ [p]) H' ds vs) : Q (.ref p) H' := by
  have nin := hr.none_notin n
  have E : Ext K ι H (ι ++ [p]) H' := .of_sx sx n
  have tr : ∀ a o, H a = some o → H' a = some o := fun a o e => sx.1 a o (by simp) e
  refine q (.ref p) (ι ++ [p]) H' ⟨⟨[p], rfl⟩, fun a o e g => ⟨tr a o e, fun z => ?_⟩, fun i m a e ro z => ⟨?_, ?_⟩⟩ ⟨p, new_at hr, rfl⟩ ⟨?_, ?_, fun i k a e1 q1 => ?_, sx.nd hr.nd, fun P hP => ⟨fun z => ?_, tr _ _ (hr.tb P hP).2⟩⟩
  · rcases List.mem_append.mp z with z | z
    · exact g z
    · have z' : a = p := by simpa using z
      rw [z', n] at e; cases e
  · obtain ⟨o, ho⟩ : ∃ o, H a = some o := by
      cases w : H a with
      | none => exact absurd (List.mem_of_getElem? z) (hr.none_notin w)
      | some o => exact ⟨o, rfl⟩
    rw [ho]; exact tr a o ho
  · rw [List.getElem?_append_left (List.getElem?_eq_some_iff.mp e).1]; exact e
  · rw [List.length_append, List.length_append, hr.len]; rfl
  · rw [List.nodup_append]
    exact ⟨hr.nodup, by simp, fun a ha b hb z => nin (by
      have e : b = p := by simpa using hb
      rw [← e, ← z]; exact ha)⟩
  · by_cases hi : i < S.length
    · rw [List.getElem?_append_left hi] at e1
      rw [List.getElem?_append_left (by rw [hr.len]; exact hi)] at q1
      refine (hr.ob i k a e1 q1).ext E ?_
      obtain ⟨o, ho⟩ : ∃ o, H a = some o := by
        cases w : H a with
        | none => exact absurd (List.mem_of_getElem? q1) (hr.none_notin w)
        | some o => exact ⟨o, rfl⟩
      rw [ho]; exact tr a o ho
    · rw [List.getElem?_append_right (by omega)] at e1
      rw [List.getElem?_append_right (by rw [hr.len]; omega), hr.len] at q1
      have e0 : i - S.length = 0 := by
        have := (List.getElem?_eq_some_iff.mp e1).1
        simp at this; omega
      rw [e0] at e1 q1
      simp at e1 q1
      subst e1; subst q1
      exact ⟨vs, e, r⟩
  · rcases List.mem_append.mp z with z | z
    · exact (hr.tb P hP).1 z
    · have z' : P = p := by simpa using z
      have w := (hr.tb P hP).2
      rw [z', n] at w; cases w
theorem llistEnum {p2 pos2 : Pos} (hc : X.calm = true) (hgl : Gl X "list") (hml : X.mg "list" = none) (hge : Gl X "enumerate") (hme : X.mg "enumerate" = none) (he : PL B X a ta)
    (hs : starEach [a] X.env = [(false, eval a X.env)] := by rfl) (hs2 : starEach [.Call (.Name "enumerate" p2) [a] [] pos2] X.env = [(false, eval (.Call (.Name "enumerate" p2) [a] [] pos2) X.env)] := by rfl) :
    PL B X (.Call (.Name "list" p) [.Call (.Name "enumerate" p2) [a] [] pos2] [] pos) (eListEnum ta) :=
  PL.wk (pe_listEnum hc hgl hml hge hme he.p hs hs2) fun σ H Q ⟨ρ, ι, S, er, hr, d, S', h, q⟩ => by
    obtain ⟨⟨x, S1⟩, h1, h⟩ := bd h
    refine up_then er hr h1 fun v ι1 H1 f1 er1 r1 hr1 => ?_
    cases x <;> simp only [reduceCtorEq] at h
    obtain ⟨xs, e, h⟩ := bd h
    split at h
    · rename_i z
      cases h
      obtain ⟨b1, vs, rfl, hq, rr⟩ := hr1.refL r1 e
      refine ⟨b1, vs, rfl, hq, by rw [← rr.length]; exact z, fun l ts H' sx hl htl hH htt => ?_⟩
      exact (q.fr f1).lstX hr1 hl sx hH (pairs_of xs vs ts 0 (Rps.ext (.of_sx sx hl) _ _ rr) htl fun j x e => by simpa using htt j x e)
    · cases h
abbrev RMv := D → List D → Sto → Option (D × Sto)
def SrcM (K : PySem.W.Frag) (B : Bs) (r' : V → List V → Hp → VK → Prop) (r : RMv) : Prop := ∀ dx ds S H ι x vs Q d S', Rp K ι H dx x → Rps K ι H ds vs → HR K B ι S H → r dx ds S = some (d, S') → dn K B ι S H Q d S' → r' x vs H Q
def MeL (B : Bs) (X : Cx) (id : String) (r : RMv) : Prop := ∃ r', MtR X id r' ∧ SrcM X.K B r' r
def eM (r : RMv) (to : Ev) (t : Av) : Ev := fun ρ S => (to ρ S).bind fun p => match p.1 with
  | .ref l => if (rdL p.2 l).isSome = true then (t ρ p.2).bind fun q => r (.ref l) q.1 q.2 else none
  | _ => none
theorem tyV_list {K : PySem.W.Frag} {ι : Lm} {S : Sto} {H : Hp} {l : Nat} {v : V} (hr : HR K B ι S H) (r : Rp K ι H (.ref l) v) (e : (rdL S l).isSome = true) : tyV K "list" v H := by
  obtain ⟨xs, e⟩ := Option.isSome_iff_exists.mp e
  obtain ⟨b1, vs, rfl, hq, rr⟩ := hr.refL r e
  exact .inl ⟨rfl, vs, hq⟩
variable {rm : RMv} {name : Str} {apos cpos : Pos} {o e : Expr} {to : Ev}
theorem lm (slot : Slot "list" name id) (hty : typeOf (.builtin id) = pure (.type "method_descriptor")) (hm : MeL B X id rm) (ho : PL B X o to) (ha : PLA B X (e :: es) tr)
    (hbase : attributeBase o name X.env (eval o X.env) = eval o X.env := by rfl)
    (hfew : ((backTo cpos (starEach (e :: es) X.env)).all (fun x => !x.1) && (backToKw cpos (keywordEach [] X.env)).all (fun x => x.1.isSome)
      && decide ((e :: es).length + ([] : List Keyword).length + (if ([] : List Keyword).isEmpty then 0 else 1) < 30)) = true := by rfl)
    (hline : (apos.endLine == cpos.line) = true := by rfl) (hs : starEach (e :: es) X.env = (false, eval e X.env) :: starEach es X.env := by rfl) (hplain : (backTo cpos (starEach es X.env)).any (·.1) = false := by rfl) :
    PL B X (.Call (.Attribute o name apos) (e :: es) [] cpos) (eM rm to tr) := by
  obtain ⟨r', h1, h2⟩ := hm
  refine PL.wk (pe_bm PySem.F.plainAttrs_list slot hty h1 ho.p ha.p hbase hfew hline hs hplain) fun σ H Q ⟨ρ, ι, S, er, hr, d, S', h, q⟩ => ?_
  obtain ⟨⟨x, S1⟩, h3, h⟩ := bd h
  refine up_then er hr h3 fun v ι1 H1 f1 er1 r1 hr1 => ?_
  cases x <;> simp only [reduceCtorEq] at h
  split at h
  · rename_i z
    obtain ⟨⟨ys, S2⟩, h4, h⟩ := bd h
    exact ⟨tyV_list hr1 r1 z, upA_then er1 hr1 h4 fun vs ι2 H2 f2 er2 r2 hr2 => h2 _ ys S2 H2 ι2 v vs Q d S' (Rp.ext (f2.ext hr1) _ v r1) r2 hr2 h (q.fr (f1.trans f2))⟩
  · cases h
theorem lm0 (slot : Slot "list" name id) (hty : typeOf (.builtin id) = pure (.type "method_descriptor")) (hm : MeL B X id rm) (ho : PL B X o to)
    (hbase : attributeBase o name X.env (eval o X.env) = eval o X.env := by rfl) (hline : (apos.endLine == cpos.line) = true := by rfl) :
    PL B X (.Call (.Attribute o name apos) [] [] cpos) (eM rm to aNil) := by
  obtain ⟨r', h1, h2⟩ := hm
  refine PL.wk (pe_bm0 PySem.F.plainAttrs_list slot hty h1 ho.p hbase hline) fun σ H Q ⟨ρ, ι, S, er, hr, d, S', h, q⟩ => ?_
  obtain ⟨⟨x, S1⟩, h3, h⟩ := bd h
  refine up_then er hr h3 fun v ι1 H1 f1 er1 r1 hr1 => ?_
  cases x <;> simp only [reduceCtorEq] at h
  split at h
  · rename_i z
    obtain ⟨⟨ys, S2⟩, h4, h⟩ := bd h
    cases h4
    exact ⟨tyV_list hr1 r1 z, h2 _ [] S1 H1 ι1 v [] Q d S' r1 rfl hr1 h (q.fr f1)⟩
  · cases h
theorem dn.setL {K : PySem.W.Frag} {ι : Lm} {S : Sto} {H : Hp} {Q : VK} {l : Nat} {p : Addr} {d : D} {v : V} {m : MO} {o : HO} {xs : List D} (q : dn K B ι S H Q d (S.set l m)) (hr : HR K B ι S H) (e : ι[l]? = some p) (w : S[l]? = some (.lst xs))
    (x : ObR K B ι (upd H p o) p m) (nd : noDT o) (r : Rp K ι H d v) : Q v (upd H p o) :=
  q v ι _ (.set hr e w rfl) (Rp.ext (.set hr e) d v r) (hr.set e x nd)
def mAppend : RMv := fun x ds S => match x, ds with
  | .ref l, [d] => (wrL S l).bind fun xs => if xs.length < sizeLine then some (.non, S.set l (.lst (xs ++ [d]))) else none
  | _, _ => none
theorem me_append : MeL B X "list.append" mAppend := ⟨_, mt_append, fun dx ds S H ι x vs Q d S' rx rs hr h q => by
  match dx, ds, h with
  | .ref l, [d1], h =>
    obtain ⟨xs, e, h⟩ := bd h
    split at h
    · rename_i z
      cases h
      obtain ⟨a, us, rfl, e1, hH, rr⟩ := hr.refW rx e
      obtain ⟨v, rfl, r1⟩ := rs.one
      exact ⟨a, us, v, rfl, rfl, hH, by rw [← rr.length]; exact z, q.setL hr e1 (wrL_some e) ⟨_, upd_same, Rps.ext (.set hr e1) _ _ (rr.app ⟨v, [], rfl, r1, rfl⟩)⟩ trivial rfl⟩
    · cases h⟩
def mPop : RMv := fun x ds S => match x, ds with
  | .ref l, [] => (wrL S l).bind fun xs => (xs[xs.length - 1]?).map fun d => (d, S.set l (.lst xs.dropLast))
  | _, _ => none
theorem Rps.dropLast {K : PySem.W.Frag} {ι : Lm} {H : Hp} {ds : List D} {vs : List V} (r : Rps K ι H ds vs) : Rps K ι H ds.dropLast vs.dropLast := by
  rw [List.dropLast_eq_take, List.dropLast_eq_take, r.length]; exact r.take _
theorem me_pop : MeL B X "list.pop" mPop := ⟨_, mt_pop, fun dx ds S H ι x vs Q d S' rx rs hr h q => by
  match dx, ds, h with
  | .ref l, [], h =>
    obtain ⟨xs, e, h⟩ := bd h
    obtain ⟨d1, e2, h⟩ := mp h
    cases h
    obtain ⟨a, us, rfl, e1, hH, rr⟩ := hr.refW rx e
    obtain ⟨v, e3, r1⟩ := rr.at e2
    exact ⟨a, us, v, rfl, by rw [show vs = [] from rs], hH, by rw [← rr.length]; exact e3, q.setL hr e1 (wrL_some e) ⟨_, upd_same, Rps.ext (.set hr e1) _ _ rr.dropLast⟩ trivial r1⟩⟩
def mExtend : RMv := fun x ds S => match x, ds with
  | .ref l, [.ref b] => (wrL S l).bind fun xs => (wrL S b).bind fun ys => if xs.length + ys.length ≤ sizeLine then some (.non, S.set l (.lst (xs ++ ys))) else none
  | _, _ => none
theorem me_extend : MeL B X "list.extend" mExtend := ⟨_, mt_extend, fun dx ds S H ι x vs Q d S' rx rs hr h q => by
  match dx, ds, h with
  | .ref l, [.ref b], h =>
    obtain ⟨xs, e, h⟩ := bd h
    obtain ⟨ys, e2, h⟩ := bd h
    split at h
    · rename_i z
      cases h
      obtain ⟨a, us, rfl, e1, hH, rr⟩ := hr.refW rx e
      obtain ⟨u, rfl, r2⟩ := rs.one
      obtain ⟨a2, ws, rfl, e3, hH2, rr2⟩ := hr.refW r2 e2
      exact ⟨a, a2, us, ws, rfl, rfl, hH, hH2, by rw [← rr.length, ← rr2.length]; exact z, q.setL hr e1 (wrL_some e) ⟨_, upd_same, Rps.ext (.set hr e1) _ _ (rr.app rr2)⟩ trivial rfl⟩
    · cases h⟩
end
end DL
set_option Elab.async false
set_option linter.all false
set_option maxRecDepth 100000
set_option autoImplicit false
namespace DL
open PySem L2
variable {B : Bs}
section
variable {X : Cx} {a b c : Expr} {ta tb tc : Ev} {pos : Pos} {es : List Expr} {tr : Av}
abbrev Gv := D → En → Sto → Option (En × Sto)
abbrev Gvs := List D → En → Sto → Option (En × Sto)
def Same (sl : List Nat) (σ σ' : St) : Prop := σ'.length = σ.length ∧ ∀ j, j ∉ sl → σ'[j]? = σ[j]?
theorem Same.refl {sl : List Nat} {σ : St} : Same sl σ σ := ⟨rfl, fun _ _ => rfl⟩
theorem Same.trans {sl : List Nat} {σ σ1 σ2 : St} (a : Same sl σ σ1) (b : Same sl σ1 σ2) : Same sl σ σ2 := ⟨b.1.trans a.1, fun j h => (b.2 j h).trans (a.2 j h)⟩
theorem Same.mono {sl sl' : List Nat} {σ σ' : St} (a : Same sl σ σ') (h : ∀ j ∈ sl, j ∈ sl') : Same sl' σ σ' := ⟨a.1, fun j n => a.2 j fun z => n (h j z)⟩
def dnG (K : PySem.W.Frag) (B : Bs) (sl : List Nat) (ι : Lm) (S : Sto) (H : Hp) (σ : St) (Q : St → Hp → Prop) (ρ' : En) (S' : Sto) : Prop := ∀ σ' ι' H', Fr ι S H ι' S' H' → EnvR K ι' H' σ' ρ' → HR K B ι' S' H' → Same sl σ σ' → Q σ' H'
def upG (K : PySem.W.Frag) (B : Bs) (sl : List Nat) (t : Gv) : TG := fun v σ H Q => ∃ d ρ ι S, Rp K ι H d v ∧ EnvR K ι H σ ρ ∧ HR K B ι S H ∧ ∃ ρ' S', t d ρ S = some (ρ', S') ∧ dnG K B sl ι S H σ Q ρ' S'
def upGs (K : PySem.W.Frag) (B : Bs) (sl : List Nat) (t : Gvs) : TGs := fun vs σ H Q => ∃ ds ρ ι S, Rps K ι H ds vs ∧ EnvR K ι H σ ρ ∧ HR K B ι S H ∧ ∃ ρ' S', t ds ρ S = some (ρ', S') ∧ dnG K B sl ι S H σ Q ρ' S'
structure PLG (B : Bs) (X : Cx) (tg : Expr) (sl : List Nat) (t : Gv) : Prop where
  p : PG X tg (upG X.K B sl t)
structure PLGs (B : Bs) (X : Cx) (tg : List Expr) (sl : List Nat) (t : Gvs) : Prop where
  p : PGs X tg (upGs X.K B sl t)
theorem PG.weak {tg : Expr} {t t' : TG} (h : PG X tg t) (i : ∀ v σ H Q, t' v σ H Q → t v σ H Q) : PG X tg t' := fun pins s σ H v u Q I r q => h pins s σ H v u Q I r (i v σ H Q q)
theorem PGs.weak {tg : List Expr} {t t' : TGs} (h : PGs X tg t) (i : ∀ v σ H Q, t' v σ H Q → t v σ H Q) : PGs X tg t' := fun pins s σ H v u Q I r q => h pins s σ H v u Q I r (i v σ H Q q)
theorem PLG.wk {tg : Expr} {t : TG} {sl : List Nat} {t' : Gv} (h : PG X tg t) (i : ∀ v σ H Q, upG X.K B sl t' v σ H Q → t v σ H Q) : PLG B X tg sl t' := ⟨PG.weak h i⟩
theorem PLGs.wk {tg : List Expr} {t : TGs} {sl : List Nat} {t' : Gvs} (h : PGs X tg t) (i : ∀ v σ H Q, upGs X.K B sl t' v σ H Q → t v σ H Q) : PLGs B X tg sl t' := ⟨PGs.weak h i⟩
def gN (i : Nat) : Gv := fun d ρ S => some (ρ.set i (some d), S)
theorem lgn {i : Nat} {x : Str} (hN : X.N.Nodup) (hi : X.N[i]? = some x) (hx : Loc X.env.scope x) (hf : X.fn x = true ∨ X.env.scope.names.lookup x = some .local := by first | exact .inl rfl | exact .inr rfl | assumption) : PLG B X (.Name x pos) [i] (gN i) :=
  PLG.wk (pg_name hN hi hx hf) fun v σ H Q ⟨d, ρ, ι, S, r, er, hr, ρ', S', h, q⟩ => by
    cases h
    exact q _ ι H .refl (er.set i r) hr ⟨by rw [List.length_set], fun j n => List.getElem?_set_ne fun z => n (by simp [z])⟩
def gsNil : Gvs := fun ds ρ S => match ds with
  | [] => some (ρ, S)
  | _ => none
def gsCons (t : Gv) (u : Gvs) : Gvs := fun ds ρ S => match ds with
  | d :: r => (t d ρ S).bind fun p => u r p.1 p.2
  | _ => none
theorem lgsnil {sl : List Nat} : PLGs B X [] sl gsNil := ⟨PGs.weak pgs_nil fun vs σ H Q ⟨ds, ρ, ι, S, r, er, hr, ρ', S', h, q⟩ => by
  cases ds with
  | nil => cases h; exact ⟨r, q σ ι H .refl er hr .refl⟩
  | cons _ _ => cases h⟩
theorem lgscons {sl sl' : List Nat} {t : Gv} {u : Gvs} (h1 : PLG B X a sl t) (h2 : PLGs B X es sl' u) (hs : (assignEach (a :: es) X.env).map (·.2) = assign a X.env :: (assignEach es X.env).map (·.2) := by rfl) : PLGs B X (a :: es) (sl ++ sl') (gsCons t u) :=
  PLGs.wk (pgs_cons h1.p h2.p hs) fun vs σ H Q ⟨ds, ρ, ι, S, r, er, hr, ρ', S', h, q⟩ => by
    cases ds with
    | nil => cases h
    | cons d ds =>
      obtain ⟨v, u, rfl, r1, r2⟩ := r
      obtain ⟨⟨ρ1, S1⟩, h1.p, h⟩ := bd h
      refine ⟨v, u, rfl, d, ρ, ι, S, r1, er, hr, ρ1, S1, h1.p, fun σ1 ι1 H1 f1 er1 hr1 sm1 => ?_⟩
      exact ⟨ds, ρ1, ι1, S1, Rps.ext (f1.ext hr) _ _ r2, er1, hr1, ρ', S', h, fun σ2 ι2 H2 f2 er2 hr2 sm2 => q _ _ _ (f1.trans f2) er2 hr2 ((sm1.mono fun j z => List.mem_append_left _ z).trans (sm2.mono fun j z => List.mem_append_right _ z))⟩
def gT (n : Nat) (u : Gvs) : Gv := fun d ρ S => match d with
  | .tup ds => if ds.length = n then u ds ρ S else none
  | _ => none
theorem lgt {sl : List Nat} {k n : Nat} {u : Gvs} (hc : X.calm = true) (h : PLGs B X es sl u) (hn : (assignEach es X.env).length = n := by rfl) (hst : (assignEach es X.env).findIdx? (·.1) = none := by rfl) : PLG B X (.Tuple es k pos) sl (gT n u) :=
  PLG.wk (pg_tup hc h.p hn hst) fun v σ H Q ⟨d, ρ, ι, S, r, er, hr, ρ', S', h, q⟩ => by
    cases d <;> simp only [gT, reduceCtorEq] at h
    split at h
    · rename_i z
      obtain ⟨a1, vs, rfl, hq, rr⟩ := r
      exact ⟨a1, vs, rfl, hq, by rw [← rr.length]; exact z, _, ρ, ι, S, rr, er, hr, ρ', S', h, q⟩
    · cases h
def keyD : D → Option Key
  | .int i => some (.inl i)
  | .str x => some (.inr x)
  | _ => none
def putD (kvs : List (Key × D)) (k : Key) (d : D) : List (Key × D) :=
  if (kvs.any fun kv => decide (kv.1 = k)) = true then kvs.map (fun kv => if kv.1 = k then (kv.1, d) else kv) else kvs ++ [(k, d)]
def getD (kvs : List (Key × D)) (k : Key) : Option D := (kvs.find? fun kv => decide (kv.1 = k)).map (·.2)
def rdD (S : Sto) (l : Nat) : Option (List (Key × D)) := match S[l]? with
  | some (.dic xs) => some xs
  | some (.rod xs) => some xs
  | _ => none
def wrD (S : Sto) (l : Nat) : Option (List (Key × D)) := match S[l]? with
  | some (.dic xs) => some xs
  | _ => none
theorem wrD_some {S : Sto} {l : Nat} {xs : List (Key × D)} (h : wrD S l = some xs) : S[l]? = some (.dic xs) := by
  unfold wrD at h
  cases q : S[l]? with
  | none => rw [q] at h; cases h
  | some m => rw [q] at h; cases m <;> first | (cases h; rfl) | cases h
theorem rdD_some {S : Sto} {l : Nat} {xs : List (Key × D)} (h : rdD S l = some xs) : ∃ m, S[l]? = some m ∧ (m = .dic xs ∨ m = .rod xs) := by
  unfold rdD at h
  cases q : S[l]? with
  | none => rw [q] at h; cases h
  | some m => rw [q] at h; cases m <;> first | (cases h; exact ⟨_, rfl, .inl rfl⟩) | (cases h; exact ⟨_, rfl, .inr rfl⟩) | cases h
theorem HR.refDR {K : PySem.W.Frag} {ι : Lm} {S : Sto} {H : Hp} {l : Nat} {v : V} {xs : List (Key × D)} (hr : HR K B ι S H) (r : Rp K ι H (.ref l) v) (e : rdD S l = some xs) : ∃ a vs, v = .ref a ∧ Rd H a (.dK vs) ∧ RpK K ι H xs vs := by
  obtain ⟨m, w1, w2⟩ := rdD_some e
  obtain ⟨b, rfl, _, ob⟩ := hr.ref r w1
  rcases w2 with rfl | rfl
  · obtain ⟨vs, q, r⟩ := ob; exact ⟨b, vs, rfl, .inl q, r⟩
  · obtain ⟨vs, q, r⟩ := ob; exact ⟨b, vs, rfl, q, r⟩
theorem HR.refDW {K : PySem.W.Frag} {ι : Lm} {S : Sto} {H : Hp} {l : Nat} {v : V} {xs : List (Key × D)} (hr : HR K B ι S H) (r : Rp K ι H (.ref l) v) (e : wrD S l = some xs) : ∃ a vs, v = .ref a ∧ ι[l]? = some a ∧ H a = some (.dK vs) ∧ RpK K ι H xs vs := by
  obtain ⟨b, rfl, q, vs, e1, e2⟩ := hr.ref r (wrD_some e)
  exact ⟨b, vs, rfl, q, e1, e2⟩
theorem keyD_of {K : PySem.W.Frag} {ι : Lm} {H : Hp} {d : D} {v : V} {k : Key} (r : Rp K ι H d v) (e : keyD d = some k) : v = kV k := by
  cases d <;> simp only [keyD, reduceCtorEq] at e
  · cases e; exact r
  · cases e; exact r
theorem RpK.length {K : PySem.W.Frag} {ι : Lm} {H : Hp} : ∀ {ds : List (Key × D)} {vs : List (Key × V)}, RpK K ι H ds vs → ds.length = vs.length
  | [], _, h => by rw [show _ = [] from h]; rfl
  | (k, d) :: ds, vs, h => by
    obtain ⟨v, r, e, _, h2⟩ := h
    rw [e, List.length_cons, List.length_cons, RpK.length h2]
theorem RpK.any {K : PySem.W.Frag} {ι : Lm} {H : Hp} (k : Key) : ∀ {ds : List (Key × D)} {vs : List (Key × V)}, RpK K ι H ds vs → (ds.any fun kv => decide (kv.1 = k)) = (vs.any fun kv => decide (kv.1 = k))
  | [], _, h => by rw [show _ = [] from h]; rfl
  | (k', d) :: ds, vs, h => by
    obtain ⟨v, r, e, _, h2⟩ := h
    rw [e, List.any_cons, List.any_cons, RpK.any k h2]
theorem RpK.app {K : PySem.W.Frag} {ι : Lm} {H : Hp} : ∀ {ds es : List (Key × D)} {vs us : List (Key × V)}, RpK K ι H ds vs → RpK K ι H es us → RpK K ι H (ds ++ es) (vs ++ us)
  | [], _, _, _, h, g => by rw [show _ = [] from h]; exact g
  | (k, d) :: ds, es, vs, us, h, g => by
    obtain ⟨v, r, rfl, h1, h2⟩ := h
    exact ⟨v, r ++ us, rfl, h1, RpK.app h2 g⟩
theorem RpK.upd {K : PySem.W.Frag} {ι : Lm} {H : Hp} {k : Key} {d : D} {v : V} (z : Rp K ι H d v) : ∀ {ds : List (Key × D)} {vs : List (Key × V)}, RpK K ι H ds vs → RpK K ι H (ds.map fun kv => if kv.1 = k then (kv.1, d) else kv) (vs.map fun kv => if kv.1 = k then (kv.1, v) else kv)
  | [], _, h => by rw [show _ = [] from h]; rfl
  | (k', d') :: ds, vs, h => by
    obtain ⟨v', r, rfl, h1, h2⟩ := h
    rw [List.map_cons, List.map_cons]
    by_cases e : k' = k
    · simp only [e, if_true]
      exact ⟨v, _, rfl, z, RpK.upd z h2⟩
    · simp only [e, if_false]
      exact ⟨v', _, rfl, h1, RpK.upd z h2⟩
theorem RpK.put {K : PySem.W.Frag} {ι : Lm} {H : Hp} {k : Key} {d : D} {v : V} {ds : List (Key × D)} {vs : List (Key × V)} (z : Rp K ι H d v) (r : RpK K ι H ds vs) : RpK K ι H (putD ds k d) (putK vs k v) := by
  unfold putD putK
  rw [r.any k]
  split
  · exact r.upd z
  · exact r.app ⟨v, [], rfl, z, rfl⟩
theorem RpK.get {K : PySem.W.Frag} {ι : Lm} {H : Hp} {k : Key} : ∀ {ds : List (Key × D)} {vs : List (Key × V)}, RpK K ι H ds vs → match getD ds k with
    | some d => ∃ v, valV vs k = some v ∧ Rp K ι H d v
    | none => valV vs k = none
  | [], _, h => by rw [show _ = [] from h]; rfl
  | (k', d') :: ds, vs, h => by
    obtain ⟨v', r, rfl, h1, h2⟩ := h
    have ih := RpK.get (k := k) h2
    unfold getD valV at ih ⊢
    rw [List.find?_cons, List.find?_cons]
    by_cases e : k' = k
    · simp only [e, decide_true]
      exact ⟨v', rfl, h1⟩
    · simp only [e, decide_false]
      exact ih
def setD (o i v : D) (S : Sto) : Option Sto := match o with
  | .ref l => match wrL S l with
    | some xs => match i with
      | .int k => (ixN xs.length k).map fun j => S.set l (.lst (xs.set j v))
      | _ => none
    | none => (wrD S l).bind fun kvs => (keyD i).bind fun k => if kvs.length < sizeLine then some (S.set l (.dic (putD kvs k v))) else none
  | _ => none
def gS (to ti : Ev) : Gv := fun d ρ S => (to ρ S).bind fun p => (ti ρ p.2).bind fun q => (setD p.1 q.1 d q.2).map fun S' => (ρ, S')
theorem lgs {o i : Expr} {to ti : Ev} (hu : X.A.units + 1 < cLine) (ho : PL B X o to) (hi : PL B X i ti)
    (ha : ∀ v, assign (.Subscript o i pos) X.env v = (do
      let ov ← holding [v] (eval o X.env)
      let iv ← holding [v, ov] (eval i X.env)
      standAt pos
      holding [v, ov, iv] (setItem ov iv v)
      release [v, ov, iv] []) := by intro _; rfl) : PLG B X (.Subscript o i pos) [] (gS to ti) :=
  PLG.wk (pg_sub ho.p hi.p (PSet.or set_list (set_dict hu)) ha) fun v σ H Q ⟨d, ρ, ι, S, r, er, hr, ρ', S', h, q⟩ => by
    obtain ⟨⟨x, S1⟩, h1, h⟩ := bd h
    obtain ⟨⟨y, S2⟩, h2, h⟩ := bd h
    obtain ⟨S3, h3, h⟩ := mp h
    cases h
    refine up_then er hr h1 fun v1 ι1 H1 f1 er1 r1 hr1 => up_then er1 hr1 h2 fun v2 ι2 H2 f2 er2 r2 hr2 => ?_
    have rd := Rp.ext (f2.ext hr1) d v (Rp.ext (f1.ext hr) d v r)
    have r1' := Rp.ext (f2.ext hr1) x v1 r1
    have f := f1.trans f2
    obtain ⟨l, rfl⟩ : ∃ l, x = .ref l := by cases x <;> first | exact ⟨_, rfl⟩ | (simp only [setD, reduceCtorEq] at h3)
    simp only [setD] at h3
    cases w : wrL S2 l with
    | some xs =>
      rw [w] at h3
      cases y <;> simp only [reduceCtorEq] at h3
      obtain ⟨j, e, h3⟩ := mp h3
      cases h3
      obtain ⟨a1, us, rfl, e1, hH, rr⟩ := hr2.refW r1' w
      exact .inl ⟨a1, us, _, j, rfl, r2, hH, by rw [← rr.length]; exact e, q σ ι2 _ (f.trans (.set hr2 e1 (wrL_some w) rfl)) (er2.ext (.set hr2 e1)) (hr2.set e1 ⟨_, upd_same, Rps.ext (.set hr2 e1) _ _ (rr.set rd j)⟩ trivial) .refl⟩
    | none =>
      rw [w] at h3
      obtain ⟨kvs, e, h3⟩ := bd h3
      obtain ⟨k, e2, h3⟩ := bd h3
      split at h3
      · rename_i z
        cases h3
        obtain ⟨a1, us, rfl, e1, hH, rr⟩ := hr2.refDW r1' e
        exact .inr ⟨a1, _, rfl, by rw [keyD_of r2 e2]; exact .k hH (by rw [← rr.length]; exact z), q σ ι2 _ (f.trans (.set hr2 e1 (wrD_some e) rfl)) (er2.ext (.set hr2 e1)) (hr2.set e1 ⟨_, upd_same, RpK.ext (.set hr2 e1) _ _ (rr.put rd)⟩ trivial) .refl⟩
      · cases h3
def oDg : R2v := fun x y S => match x with
  | .ref l => (rdD S l).bind fun kvs => (keyD y).bind fun k => (getD kvs k).map fun d => (d, S)
  | _ => none
theorem DGet.of {K : PySem.W.Frag} {ι : Lm} {H : Hp} {a : Addr} {kvs : List (Key × D)} {vs : List (Key × V)} {y : D} {v : V} {k : Key} (r : RpK K ι H kvs vs) (h : Rd H a (.dK vs)) (ry : Rp K ι H y v) (e : keyD y = some k) : DGet H a v (valV vs k) :=
  .inl ⟨vs, k, h, keyD_of ry e, rfl⟩
theorem ldget (hu : X.A.units + 1 < cLine) (ha : PL B X a ta) (hb : PL B X b tb) (hs : NoSl b := by exact fun _ _ => rfl) : PL B X (.Subscript a b pos) (eOp oDg ta tb) :=
  PL.wk (pe_dget hu ha.p hb.p hs) fun σ H Q h0 => by
    obtain ⟨ρ, ι, S, er, hr, d, S', h, q⟩ := h0
    obtain ⟨x, S1, y, S2, h1, h2, h3⟩ := eOp_some h
    refine up_then er hr h1 fun v ι1 H1 f1 er1 r1 hr1 => up_then er1 hr1 h2 fun u ι2 H2 f2 er2 r2 hr2 => ?_
    have r1' := Rp.ext (f2.ext hr1) x v r1
    cases x <;> simp only [oDg, reduceCtorEq] at h3
    obtain ⟨kvs, e, h3⟩ := bd h3
    obtain ⟨k, e2, h3⟩ := bd h3
    obtain ⟨d', e3, h3⟩ := mp h3
    cases h3
    obtain ⟨a1, us, rfl, hH, rr⟩ := hr2.refDR r1' e
    have g := rr.get (k := k)
    rw [e3] at g
    obtain ⟨w, g1, g2⟩ := g
    exact ⟨a1, w, rfl, by rw [← g1]; exact DGet.of rr hH r2 e2, q _ _ _ (f1.trans f2) g2 hr2⟩
def oDin (neg : Bool) : R2v := fun y x S => match x with
  | .ref l => (rdD S l).bind fun kvs => (keyD y).map fun k => (.bl (xor neg (getD kvs k).isSome), S)
  | _ => none
def eD0 : Ev := fun _ S => some (.ref S.length, S ++ [.dic []])
structure Itm where
  items : List D
  chk : Option (Nat × List D) := none
def okC (c : Option (Nat × List D)) (S : Sto) : Bool := match c with
  | none => true
  | some (l, xs) => decide (rdL S l = some xs)
abbrev Iv := En → Sto → Option (Itm × Sto)
structure ItR (K : PySem.W.Frag) (B : Bs) (ι0 : Lm) (H0 : Hp) (J : It) (it : Itm) : Prop where
  go : ∀ (i : Nat) ι S H d, Ext K ι0 H0 ι H → HR K B ι S H → okC it.chk S = true → it.items[i]? = some d → J.go i H
  yld : ∀ (i : Nat) ι S H d x H', Ext K ι0 H0 ι H → HR K B ι S H → okC it.chk S = true → it.items[i]? = some d → J.yld i H x H' → Fr ι S H ι S H' ∧ HR K B ι S H' ∧ Rp K ι H' d x
  stop : ∀ ι S H, Ext K ι0 H0 ι H → HR K B ι S H → okC it.chk S = true → J.stop it.items.length H
def upI (K : PySem.W.Frag) (B : Bs) (t : Iv) : TI := fun σ H R => ∃ ρ ι S, EnvR K ι H σ ρ ∧ HR K B ι S H ∧ ∃ it S', t ρ S = some (it, S') ∧ ∀ J ι' H', Fr ι S H ι' S' H' → HR K B ι' S' H' → ItR K B ι' H' J it → R J H'
structure PLI (B : Bs) (X : Cx) (tg iter : Expr) (t : Iv) : Prop where
  p : PI X tg iter (upI X.K B t)
variable {tg iter : Expr}
theorem PI.weak {t t' : TI} (h : PI X tg iter t) (i : ∀ σ H R, t' σ H R → t σ H R) : PI X tg iter t' := fun pins s σ H Q I q => h pins s σ H Q I (i σ H Q q)
theorem PLI.wk {t : TI} {t' : Iv} (h : PI X tg iter t) (i : ∀ σ H R, upI X.K B t' σ H R → t σ H R) : PLI B X tg iter t' := ⟨PI.weak h i⟩
def iSeq (t : Ev) : Iv := fun ρ S => (t ρ S).bind fun p => match p.1 with
  | .ref l => (rdL p.2 l).map fun xs => (⟨xs, some (l, xs)⟩, p.2)
  | _ => none
def iTup (t : Ev) : Iv := fun ρ S => (t ρ S).bind fun p => match p.1 with
  | .tup xs => some (⟨xs, none⟩, p.2)
  | _ => none
theorem ok_rd {l : Nat} {xs : List D} {S : Sto} (h : okC (some (l, xs)) S = true) : rdL S l = some xs := of_decide_eq_true h
theorem itR_list {K : PySem.W.Frag} {ι0 : Lm} {H0 : Hp} {l : Nat} {a : Addr} {xs : List D} (e : ι0[l]? = some a) : ItR K B ι0 H0 (Itl K a) ⟨xs, some (l, xs)⟩ := by
  have look : ∀ ι S H, Ext K ι0 H0 ι H → HR K B ι S H → okC (some (l, xs)) S = true → ∃ vs, SqL K H a vs ∧ Rps K ι H xs vs := fun ι S H E hr ok => by
    obtain ⟨a', vs, e1, hq, rr⟩ := hr.refL (v := .ref a) ⟨a, E.pre l a e, rfl⟩ (ok_rd ok)
    cases e1
    exact ⟨vs, hq, rr⟩
  refine ⟨fun i ι S H d E hr ok hi => ?_, fun i ι S H d x H' E hr ok hi hy => ?_, fun ι S H E hr ok => ?_⟩
  · obtain ⟨vs, hq, rr⟩ := look ι S H E hr ok
    obtain ⟨v, e2, _⟩ := rr.at hi
    exact ⟨vs, v, hq, e2⟩
  · obtain ⟨vs, hq, rr⟩ := look ι S H E hr ok
    obtain ⟨v, e2, rv⟩ := rr.at hi
    obtain ⟨rfl, hy⟩ := hy
    have := hy vs hq
    rw [e2] at this; cases this
    exact ⟨.refl, hr, rv⟩
  · obtain ⟨vs, hq, rr⟩ := look ι S H E hr ok
    exact ⟨vs, hq, by show vs.length ≤ xs.length; rw [rr.length]; exact Nat.le_refl _⟩
theorem itR_tup {K : PySem.W.Frag} {ι0 : Lm} {H0 : Hp} {a : Addr} {xs : List D} {vs : List V} (hq : SqT K H0 a vs) (rr : Rps K ι0 H0 xs vs) : ItR K B ι0 H0 (Itt K a) ⟨xs, none⟩ := by
  refine ⟨fun i ι S H d E hr ok hi => ?_, fun i ι S H d x H' E hr ok hi hy => ?_, fun ι S H E hr ok => ?_⟩
  · obtain ⟨v, e2, _⟩ := rr.at hi
    exact ⟨vs, v, E.tup _ _ hq, e2⟩
  · obtain ⟨v, e2, rv⟩ := rr.at hi
    obtain ⟨rfl, hy⟩ := hy
    have := hy vs (E.tup _ _ hq)
    rw [e2] at this; cases this
    exact ⟨.refl, hr, Rp.ext E _ _ rv⟩
  · exact ⟨vs, E.tup _ _ hq, by show vs.length ≤ xs.length; rw [rr.length]; exact Nat.le_refl _⟩
theorem liseq (hl : PL B X a ta) : PLI B X tg a (iSeq ta) := PLI.wk (pi_list hl.p) fun σ H R ⟨ρ, ι, S, er, hr, it, S', h, q⟩ => by
  obtain ⟨⟨x, S1⟩, h1, h⟩ := bd h
  refine up_then er hr h1 fun v ι1 H1 f1 er1 r1 hr1 => ?_
  cases x <;> simp only [reduceCtorEq] at h
  obtain ⟨xs, e, h⟩ := mp h
  cases h
  obtain ⟨a1, e1, rfl⟩ := r1
  obtain ⟨a2, vs, e2, hq, rr⟩ := hr1.refL (v := .ref a1) ⟨a1, e1, rfl⟩ e
  cases e2
  exact ⟨a1, rfl, ⟨vs, hq⟩, q _ _ _ f1 hr1 (itR_list e1)⟩
theorem litup (hl : PL B X a ta) : PLI B X tg a (iTup ta) := PLI.wk (pi_tup hl.p) fun σ H R ⟨ρ, ι, S, er, hr, it, S', h, q⟩ => by
  obtain ⟨⟨x, S1⟩, h1, h⟩ := bd h
  refine up_then er hr h1 fun v ι1 H1 f1 er1 r1 hr1 => ?_
  cases x <;> simp only [reduceCtorEq] at h
  cases h
  obtain ⟨a1, vs, rfl, hq, rr⟩ := r1
  exact ⟨a1, rfl, ⟨vs, hq⟩, q _ _ _ f1 hr1 (itR_tup hq rr)⟩
def rngD (lo : Int) (n : Nat) : List D := (List.range n).map fun (i : Nat) => .int (lo + i)
theorem rngD_at {lo : Int} {n i : Nat} {d : D} (h : (rngD lo n)[i]? = some d) : i < n ∧ d = .int (lo + i) := by
  unfold rngD at h
  rw [List.getElem?_map] at h
  obtain ⟨j, e, rfl⟩ := mp h
  obtain ⟨h1, h2⟩ := List.getElem?_eq_some_iff.mp e
  simp at h1 h2
  subst h2
  exact ⟨h1, rfl⟩
theorem rngD_len {lo : Int} {n : Nat} : (rngD lo n).length = n := by unfold rngD; simp
theorem itR_rng {K : PySem.W.Frag} {ι0 : Lm} {H0 : Hp} {lo : Int} {n : Nat} : ItR K B ι0 H0 (Itr lo n) ⟨rngD lo n, none⟩ := by
  refine ⟨fun i ι S H d E hr ok hi => (rngD_at hi).1, fun i ι S H d x H' E hr ok hi hy => ?_, fun ι S H E hr ok => by show n ≤ (rngD lo n).length; rw [rngD_len]; exact Nat.le_refl _⟩
  obtain ⟨_, rfl⟩ := rngD_at hi
  obtain ⟨rfl, rfl⟩ := hy
  exact ⟨.refl, hr, rfl⟩
def i62 (i : Int) : Bool := decide (-(2 ^ 62) ≤ i) && decide (i < 2 ^ 62)
theorem i62_ok {i : Int} (h : i62 i = true) : -(2 ^ 62) ≤ i ∧ i < 2 ^ 62 := by
  unfold i62 at h
  simp only [Bool.and_eq_true, decide_eq_true_eq] at h
  exact h
def iRng1 (t : Ev) : Iv := fun ρ S => (t ρ S).bind fun p => match p.1 with
  | .int j => if i62 j = true then some (⟨rngD 0 j.toNat, none⟩, p.2) else none
  | _ => none
def iRng2 (t u : Ev) : Iv := fun ρ S => (t ρ S).bind fun p => (u ρ p.2).bind fun q => match p.1, q.1 with
  | .int i, .int j => if (i62 i && i62 j) = true then some (⟨rngD i (j - i).toNat, none⟩, q.2) else none
  | _, _ => none
theorem lirng1 {p : Pos} (hg : Gl X "range") (hm : X.mg "range" = none) (ha : PL B X a ta) (hs : starEach [a] X.env = (false, eval a X.env) :: starEach [] X.env := by rfl) : PLI B X tg (.Call (.Name "range" p) [a] [] pos) (iRng1 ta) :=
  PLI.wk (pi_range1 hg hm (pa_cons ha.p pa_nil hs) hs) fun σ H R ⟨ρ, ι, S, er, hr, it, S', h, q⟩ => by
    obtain ⟨⟨x, S1⟩, h1, h⟩ := bd h
    refine up_then er hr h1 fun v ι1 H1 f1 er1 r1 hr1 => ?_
    cases x <;> simp only [reduceCtorEq] at h
    split at h
    · rename_i z
      cases h
      rw [show v = _ from r1]
      exact ⟨_, rfl, (i62_ok z).1, (i62_ok z).2, q _ _ _ f1 hr1 itR_rng⟩
    · cases h
end
end DL
set_option Elab.async false
set_option linter.all false
set_option maxRecDepth 100000
set_option autoImplicit false
namespace DL
open PySem L2
variable {B : Bs}
inductive Fl where
  | nx | rt (d : D) | bk | ct
abbrev Sv := En → Sto → Option (Fl × En × Sto)
def dnS (K : PySem.W.Frag) (B : Bs) (ι : Lm) (S : Sto) (H : Hp) (E : Ends) (f : Fl) (ρ' : En) (S' : Sto) : Prop := match f with
  | .nx => ∀ σ' ι' H', Fr ι S H ι' S' H' → EnvR K ι' H' σ' ρ' → HR K B ι' S' H' → E.nx σ' H'
  | .bk => ∀ σ' ι' H', Fr ι S H ι' S' H' → EnvR K ι' H' σ' ρ' → HR K B ι' S' H' → E.bk σ' H'
  | .ct => ∀ σ' ι' H', Fr ι S H ι' S' H' → EnvR K ι' H' σ' ρ' → HR K B ι' S' H' → E.ct σ' H'
  | .rt d => ∀ v ι' H', Fr ι S H ι' S' H' → Rp K ι' H' d v → HR K B ι' S' H' → E.rt v H'
def upS (K : PySem.W.Frag) (B : Bs) (t : Sv) : TS := fun E σ H => ∃ ρ ι S, EnvR K ι H σ ρ ∧ HR K B ι S H ∧ ∃ f ρ' S', t ρ S = some (f, ρ', S') ∧ dnS K B ι S H E f ρ' S'
structure PLS (B : Bs) (X : Cx) (st : Stmt) (t : Sv) : Prop where
  p : PS X st (upS X.K B t)
structure PLSs (B : Bs) (X : Cx) (st : List Stmt) (t : Sv) : Prop where
  p : PSs X st (upS X.K B t)
theorem PS.weak {X : Cx} {e : Stmt} {t t' : TS} (h : PS X e t) (i : ∀ E σ H, t' E σ H → t E σ H) : PS X e t' := fun pins s σ H E I q => h pins s σ H E I (i E σ H q)
theorem PSs.weak {X : Cx} {e : List Stmt} {t t' : TS} (h : PSs X e t) (i : ∀ E σ H, t' E σ H → t E σ H) : PSs X e t' := fun pins s σ H E I q => h pins s σ H E I (i E σ H q)
theorem PLS.wk {X : Cx} {e : Stmt} {t : TS} {t' : Sv} (h : PS X e t) (i : ∀ E σ H, upS X.K B t' E σ H → t E σ H) : PLS B X e t' := ⟨PS.weak h i⟩
theorem PLSs.wk {X : Cx} {e : List Stmt} {t : TS} {t' : Sv} (h : PSs X e t) (i : ∀ E σ H, upS X.K B t' E σ H → t E σ H) : PLSs B X e t' := ⟨PSs.weak h i⟩
theorem dnS.fr {K : PySem.W.Frag} {ι ι1 : Lm} {S S1 S2 : Sto} {H H1 : Hp} {E : Ends} {fl : Fl} {ρ : En} (q : dnS K B ι S H E fl ρ S2) (f : Fr ι S H ι1 S1 H1) : dnS K B ι1 S1 H1 E fl ρ S2 := by
  cases fl with
  | nx => exact fun σ' ι' H' g => q σ' ι' H' (f.trans g)
  | bk => exact fun σ' ι' H' g => q σ' ι' H' (f.trans g)
  | ct => exact fun σ' ι' H' g => q σ' ι' H' (f.trans g)
  | rt d => exact fun v ι' H' g => q v ι' H' (f.trans g)
section
variable {X : Cx} {a b c : Expr} {ta tb tc : Ev} {pos : Pos} {st : Stmt} {sts sts' : List Stmt} {t u : Sv} {lA : Tv}
def sNil : Sv := fun ρ S => some (.nx, ρ, S)
def sSeq (t u : Sv) : Sv := fun ρ S => (t ρ S).bind fun p => match p.1 with
  | .nx => u p.2.1 p.2.2
  | f => some (f, p.2)
theorem lsnil : PLSs B X [] sNil := ⟨PSs.weak pss_nil fun E σ H ⟨ρ, ι, S, er, hr, f, ρ', S', h, q⟩ => by
  cases h
  exact q σ ι H .refl er hr⟩
theorem lscons (h1 : PLS B X st t) (h2 : PLSs B X sts u) : PLSs B X (st :: sts) (sSeq t u) :=
  PLSs.wk (pss_cons h1.p h2.p) fun E σ H ⟨ρ, ι, S, er, hr, f, ρ', S', h, q⟩ => by
    obtain ⟨⟨f1, ρ1, S1⟩, h1.p, h⟩ := bd h
    refine ⟨ρ, ι, S, er, hr, f1, ρ1, S1, h1.p, ?_⟩
    cases f1 with
    | nx => exact fun σ1 ι1 H1 f1 er1 hr1 => ⟨ρ1, ι1, S1, er1, hr1, f, ρ', S', h, q.fr f1⟩
    | rt d => cases h; exact q
    | bk => cases h; exact q
    | ct => cases h; exact q
theorem lsone (h1 : PLS B X st t) : PLSs B X [st] t := ⟨pss_one h1.p⟩
def sPass : Sv := fun ρ S => some (.nx, ρ, S)
def sBrk : Sv := fun ρ S => some (.bk, ρ, S)
def sCont : Sv := fun ρ S => some (.ct, ρ, S)
def sEx (te : Ev) : Sv := fun ρ S => (te ρ S).bind fun p => some (.nx, ρ, p.2)
theorem lex (he : PL B X a ta) (hs : swapsWith a none pos.line X.env = pure false := by rfl) : PLS B X (.Expr a pos) (sEx ta) :=
  PLS.wk (ps_expr he.p hs) fun E σ H ⟨ρ, ι, S, er, hr, f, ρ', S', h, q⟩ => by
    obtain ⟨⟨x, S1⟩, h1, h⟩ := bd h
    cases h
    exact up_then er hr h1 fun v ι1 H1 f1 er1 r1 hr1 => q σ ι1 H1 f1 er1 hr1
def sRt (te : Ev) : Sv := fun ρ S => (te ρ S).bind fun p => some (.rt p.1, ρ, p.2)
theorem lrt (he : PL B X a ta) : PLS B X (.Return (some a) pos) (sRt ta) :=
  PLS.wk (ps_ret he.p) fun E σ H ⟨ρ, ι, S, er, hr, f, ρ', S', h, q⟩ => by
    obtain ⟨⟨x, S1⟩, h1, h⟩ := bd h
    cases h
    exact up_then er hr h1 fun v ι1 H1 f1 er1 r1 hr1 => q v ι1 H1 f1 r1 hr1
def sRtN : Sv := fun ρ S => some (.rt .non, ρ, S)
def sIf (c : Tv) (t u : Sv) : Sv := fun ρ S => (c ρ S).bind fun p => if p.1 = true then t ρ p.2 else u ρ p.2
theorem lsif (hc : PLT B X c lA) (ha : PLSs B X sts t) (hb : PLSs B X sts' u) : PLS B X (.If c sts sts' pos) (sIf lA t u) :=
  PLS.wk (ps_if hc.p ha.p hb.p) fun E σ H ⟨ρ, ι, S, er, hr, f, ρ', S', h, q⟩ => by
    obtain ⟨⟨x, S1⟩, h1, h⟩ := bd h
    refine upT_then er hr h1 fun ι1 H1 f1 er1 hr1 => ?_
    cases x with
    | true => rw [if_pos rfl] at h ⊢; exact ⟨ρ, ι1, S1, er1, hr1, f, ρ', S', h, q.fr f1⟩
    | false => rw [if_neg Bool.false_ne_true] at h ⊢; exact ⟨ρ, ι1, S1, er1, hr1, f, ρ', S', h, q.fr f1⟩
def sAs (te : Ev) (g : Gv) : Sv := fun ρ S => (te ρ S).bind fun p => (g p.1 ρ p.2).bind fun q => some (.nx, q.1, q.2)
theorem as_up {sl : List Nat} {g : Gv} {E : Ends} {σ : St} {H : Hp} : upS X.K B (sAs ta g) E σ H → tAsg (upE X.K B ta) (upG X.K B sl g) E σ H := fun ⟨ρ, ι, S, er, hr, f, ρ', S', h, q⟩ => by
  obtain ⟨⟨x, S1⟩, h1, h⟩ := bd h
  obtain ⟨⟨ρ1, S2⟩, h2, h⟩ := bd h
  cases h
  exact up_then er hr h1 fun v ι1 H1 f1 er1 r1 hr1 => ⟨x, ρ, ι1, S1, r1, er1, hr1, ρ1, S2, h2, fun σ2 ι2 H2 f2 er2 hr2 _ => q σ2 ι2 H2 (f1.trans f2) er2 hr2⟩
theorem las {tg : Expr} {sl : List Nat} {g : Gv} (he : PL B X a ta) (hg : PLG B X tg sl g) (hs : swapsWithSole [tg] a pos.line X.env = pure false := by rfl) (hw : swappedStores [tg] a X.env = pure none := by rfl)
    (h1 : (assignEach [tg] X.env).map (·.2) = [assign tg X.env] := by rfl) : PLS B X (.Assign [tg] a pos) (sAs ta g) :=
  PLS.wk (ps_asg he.p hg.p hs hw h1) fun E σ H => as_up
theorem lset {i : Nat} {x : Str} {pos' : Pos} (hN : X.N.Nodup) (hi : X.N[i]? = some x) (hx : Loc X.env.scope x) (he : PL B X a ta) (hs : swapsWith a (some (.Name x pos')) pos.line X.env = pure false := by rfl) (hf : X.fn x = true ∨ X.env.scope.names.lookup x = some .local := by first | exact .inl rfl | exact .inr rfl | assumption) :
    PLS B X (.Assign [.Name x pos'] a pos) (sAs ta (gN i)) :=
  PLS.wk (ps_set hN hi hx he.p hs hf) fun E σ H h => by
    obtain ⟨ρ, ι, S, er, hr, f, ρ', S', h, q⟩ := h
    obtain ⟨⟨x, S1⟩, h1, h⟩ := bd h
    obtain ⟨⟨ρ1, S2⟩, h2, h⟩ := bd h
    cases h
    cases h2
    exact up_then er hr h1 fun v ι1 H1 f1 er1 r1 hr1 => q _ ι1 H1 f1 (er1.set i r1) hr1
def sAug (i : Nat) (r : R2v) (te : Ev) : Sv := fun ρ S => match ρ[i]? with
  | some (some d) => (te ρ S).bind fun p => (r d p.1 p.2).bind fun q => some (.nx, ρ.set i (some q.1), q.2)
  | _ => none
def forRun (chk : Option (Nat × List D)) (g : Gv) (tb : Sv) : List D → Sv
  | [], ρ, S => if okC chk S = true then some (.nx, ρ, S) else none
  | d :: ds, ρ, S => if okC chk S = true then (g d ρ S).bind fun p => (tb p.1 p.2).bind fun q => match q.1 with
    | .nx => forRun chk g tb ds q.2.1 q.2.2
    | .ct => forRun chk g tb ds q.2.1 q.2.2
    | .bk => some (.nx, q.2)
    | .rt d => some (.rt d, q.2)
    else none
def sFor (ti : Iv) (g : Gv) (tb : Sv) : Sv := fun ρ S => (ti ρ S).bind fun p => forRun p.1.chk g tb p.1.items ρ p.2
theorem lfor {tg iter : Expr} {ti : Iv} {sl : List Nat} {g : Gv} (hc : X.calm = true) (hi : PLI B X tg iter ti) (hg : PLG B X tg sl g) (hb : PLSs B X sts t)
    (hp : PassesOwn (model X.prog X.w) X.A X.env X.xe) (hs : ∀ x, foldedSetIterable iter X.env x = pure x := by intro _; rfl) : PLS B X (.For tg iter sts [] pos) (sFor ti g t) :=
  PLS.wk (ps_for hp hc hi.p hg.p hb.p hs) fun E σ H ⟨ρ, ι, S, er, hr, f, ρ', S', h, q⟩ => by
    obtain ⟨⟨it, S1⟩, h1, h⟩ := bd h
    refine ⟨ρ, ι, S, er, hr, it, S1, h1, fun J ι1 H1 f1 hr1 hJ => ?_⟩
    have h : forRun it.chk g t it.items ρ S1 = some (f, ρ', S') := h
    refine ⟨fun i m σ2 H2 => m = it.items.length - i ∧ i ≤ it.items.length ∧ ∃ ρ2 ι2 S2, Fr ι1 S1 H1 ι2 S2 H2 ∧ EnvR X.K ι2 H2 σ2 ρ2 ∧ HR X.K B ι2 S2 H2 ∧ forRun it.chk g t (it.items.drop i) ρ2 S2 = some (f, ρ', S'),
      ⟨_, rfl, Nat.zero_le _, ρ, ι1, S1, .refl, er.ext (f1.ext hr), hr1, h⟩, ?_⟩
    rintro i m σ2 H2 ⟨rfl, hle, ρ2, ι2, S2, f2, er2, hr2, h2⟩
    have E2 := f2.ext hr1
    by_cases hlt : i < it.items.length
    · rw [List.drop_eq_getElem_cons hlt] at h2
      unfold forRun at h2
      split at h2
      · rename_i ok
        obtain ⟨⟨ρ3, S3⟩, h3, h2⟩ := bd h2
        obtain ⟨⟨fl, ρ4, S4⟩, h4, h2⟩ := bd h2
        have hd : it.items[i]? = some it.items[i] := List.getElem?_eq_getElem hlt
        refine .inr ⟨hJ.go i ι2 S2 H2 _ E2 hr2 ok hd, fun σ5 H5 => ∃ ι5, (fl = .nx ∨ fl = .ct) ∧ Fr ι1 S1 H1 ι5 S4 H5 ∧ EnvR X.K ι5 H5 σ5 ρ4 ∧ HR X.K B ι5 S4 H5, ?_, fun x H3 hy => ?_⟩
        · rintro σ5 H5 ⟨ι5, hfl, f5, er5, hr5⟩
          refine ⟨_, ?_, rfl, hlt, ρ4, ι5, S4, f5, er5, hr5, ?_⟩
          · omega
          · rcases hfl with rfl | rfl
            · exact h2
            · exact h2
        · obtain ⟨f3, hr3, rx⟩ := hJ.yld i ι2 S2 H2 _ x H3 E2 hr2 ok hd hy
          refine ⟨_, ρ2, ι2, S2, rx, er2.ext (f3.ext hr2), hr3, ρ3, S3, h3, fun σ6 ι6 H6 f6 er6 hr6 _ => ?_⟩
          have f16 := (f2.trans f3).trans f6
          refine ⟨ρ3, ι6, S3, er6, hr6, fl, ρ4, S4, h4, ?_⟩
          cases fl with
          | nx => exact fun σ7 ι7 H7 f7 er7 hr7 => ⟨ι7, .inl rfl, f16.trans f7, er7, hr7⟩
          | ct => exact fun σ7 ι7 H7 f7 er7 hr7 => ⟨ι7, .inr rfl, f16.trans f7, er7, hr7⟩
          | bk => cases h2; exact fun σ7 ι7 H7 f7 er7 hr7 => q σ7 ι7 H7 ((f1.trans f16).trans f7) er7 hr7
          | rt d => cases h2; exact fun v ι7 H7 f7 er7 hr7 => q v ι7 H7 ((f1.trans f16).trans f7) er7 hr7
      · cases h2
    · have e : i = it.items.length := by omega
      subst e
      rw [List.drop_length] at h2
      unfold forRun at h2
      split at h2
      · rename_i ok
        cases h2
        exact .inl ⟨hJ.stop ι2 _ H2 E2 hr2 ok, q σ2 ι2 H2 (f1.trans f2) er2 hr2⟩
      · cases h2
def whRun (c : Tv) (tb : Sv) : Nat → Sv
  | 0, _, _ => none
  | n + 1, ρ, S => (c ρ S).bind fun p => if p.1 = true then (tb ρ p.2).bind fun q => match q.1 with
      | .nx => whRun c tb n q.2.1 q.2.2
      | .ct => whRun c tb n q.2.1 q.2.2
      | .bk => some (.nx, q.2)
      | .rt d => some (.rt d, q.2)
    else some (.nx, ρ, p.2)
def turns : Nat := 1000000
def sWh (c : Tv) (tb : Sv) : Sv := whRun c tb turns
theorem lwh (hc : PLT B X c lA) (hb : PLSs B X sts t) (hp : PassesOwn (model X.prog X.w) X.A X.env X.xe) : PLS B X (.While c sts [] pos) (sWh lA t) :=
  PLS.wk (ps_while hp hc.p hb.p) fun E σ H ⟨ρ, ι, S, er, hr, f, ρ', S', h, q⟩ => by
    have h : whRun lA t turns ρ S = some (f, ρ', S') := h
    refine ⟨fun m σ2 H2 => ∃ ρ2 ι2 S2, Fr ι S H ι2 S2 H2 ∧ EnvR X.K ι2 H2 σ2 ρ2 ∧ HR X.K B ι2 S2 H2 ∧ whRun lA t m ρ2 S2 = some (f, ρ', S'), ⟨turns, ρ, ι, S, .refl, er, hr, h⟩, ?_⟩
    rintro m σ2 H2 ⟨ρ2, ι2, S2, f2, er2, hr2, h2⟩
    cases m with
    | zero => cases h2
    | succ m =>
      unfold whRun at h2
      obtain ⟨⟨k, S3⟩, h3, h2⟩ := bd h2
      refine upT_then er2 hr2 h3 fun ι3 H3 f3 er3 hr3 => ?_
      have f13 := f2.trans f3
      cases k with
      | false =>
        simp only [Bool.false_eq_true, if_false] at h2 ⊢
        cases h2
        exact q σ2 ι3 H3 f13 er3 hr3
      | true =>
        simp only [if_true] at h2 ⊢
        obtain ⟨⟨fl, ρ4, S4⟩, h4, h2⟩ := bd h2
        refine ⟨fun σ5 H5 => ∃ ι5, (fl = .nx ∨ fl = .ct) ∧ Fr ι S H ι5 S4 H5 ∧ EnvR X.K ι5 H5 σ5 ρ4 ∧ HR X.K B ι5 S4 H5, ?_, ρ2, ι3, S3, er3, hr3, fl, ρ4, S4, h4, ?_⟩
        · rintro σ5 H5 ⟨ι5, hfl, f5, er5, hr5⟩
          refine ⟨m, Nat.lt_succ_self _, ρ4, ι5, S4, f5, er5, hr5, ?_⟩
          rcases hfl with rfl | rfl
          · exact h2
          · exact h2
        · cases fl with
          | nx => exact fun σ7 ι7 H7 f7 er7 hr7 => ⟨ι7, .inl rfl, f13.trans f7, er7, hr7⟩
          | ct => exact fun σ7 ι7 H7 f7 er7 hr7 => ⟨ι7, .inr rfl, f13.trans f7, er7, hr7⟩
          | bk => cases h2; exact fun σ7 ι7 H7 f7 er7 hr7 => q σ7 ι7 H7 (f13.trans f7) er7 hr7
          | rt d => cases h2; exact fun v ι7 H7 f7 er7 hr7 => q v ι7 H7 (f13.trans f7) er7 hr7
end
def wipeR (ρ : En) : List Nat → En
  | [] => ρ
  | v :: vs => (wipeR ρ vs).set v none
def lcRun (chk : Option (Nat × List D)) (g : Gv) (tt : Tv) (te : Ev) (ρ : En) (L : Nat) : List D → Sto → Option Sto
  | [], S => if okC chk S = true then some S else none
  | d :: ds, S => if okC chk S = true then (g d ρ S).bind fun p => (tt p.1 p.2).bind fun q => if q.1 = true then (te p.1 q.2).bind fun y => (wrL y.2 L).bind fun acc =>
        if acc.length < sizeLine then lcRun chk g tt te ρ L ds (y.2.set L (.lst (acc ++ [y.1]))) else none
      else lcRun chk g tt te ρ L ds q.2
    else none
def eLc (ti : Iv) (g : Gv) (tt : Tv) (te : Ev) (vs : List Nat) : Ev := fun ρ S => (ti ρ S).bind fun p => (lcRun p.1.chk g tt te (wipeR ρ vs) p.2.length p.1.items (p.2 ++ [.lst []])).map fun S' => (.ref p.2.length, S')
def bYes : Tv := fun _ S => some (true, S)
structure PLTs (B : Bs) (X : Cx) (ifs : List Expr) (t : Tv) : Prop where
  p : PTs X ifs (upT X.K B t)
section
variable {X : Cx} {a b c : Expr} {ta tb tc : Ev} {pos : Pos} {st : Stmt} {sts sts' : List Stmt} {t u : Sv} {lA : Tv}
theorem ltsnil : PLTs B X [] bYes := ⟨fun pins s σ H Q I h => pts_nil pins s σ H Q I (by
  obtain ⟨ρ, ι, S, er, hr, d, S', h, q⟩ := h
  cases h
  exact q ι H .refl hr)⟩
theorem EnvR.wipe {K : PySem.W.Frag} {ι : Lm} {H : Hp} {σ : St} {ρ : En} (h : EnvR K ι H σ ρ) : ∀ vs : List Nat, EnvR K ι H (wipe σ vs) (wipeR ρ vs)
  | [] => h
  | v :: vs => (EnvR.wipe h vs).setN v
theorem wipe_at (σ : St) (j : Nat) : ∀ vs : List Nat, (wipe σ vs)[j]? = if j ∈ vs ∧ j < σ.length then some none else σ[j]?
  | [] => by simp [wipe]
  | v :: vs => by
    show ((wipe σ vs).set v none)[j]? = _
    rw [List.getElem?_set, wipe_length, wipe_at σ j vs]
    by_cases e : v = j
    · subst e
      by_cases h : v < σ.length
      · simp [h]
      · simp [h, List.getElem?_eq_none (Nat.le_of_not_lt h)]
    · have e' : j ≠ v := fun z => e z.symm
      simp [e, e']
theorem wipe_same {σ σ2 : St} {vs sl : List Nat} (h : Same sl (wipe σ vs) σ2) (hs : ∀ j ∈ sl, j ∈ vs) : wipe σ2 vs = wipe σ vs := by
  apply List.ext_getElem?
  intro j
  have hl : σ2.length = σ.length := by rw [h.1, wipe_length]
  rw [wipe_at, wipe_at, hl]
  by_cases e : j ∈ vs ∧ j < σ.length
  · rw [if_pos e, if_pos e]
  · rw [if_neg e, if_neg e]
    by_cases z : j ∈ vs
    · have hj : ¬ j < σ.length := fun w => e ⟨z, w⟩
      rw [List.getElem?_eq_none (by omega), List.getElem?_eq_none (by omega)]
    · rw [h.2 j fun w => z (hs j w), wipe_at, if_neg fun w => z w.1]
variable {elt tg iter : Expr} {ifs : List Expr} {scope : Scope} {own : List (Str × Nat)} {ti : Iv} {g : Gv} {sl : List Nat}
end
abbrev Fv := List D → Sto → Option (D × Sto)
def upF (K : PySem.W.Frag) (B : Bs) (n : Nat) (F : Fv) : Sp := fun vs H Q _ => vs.length = n ∧ ∃ ds ι S, Rps K ι H ds vs ∧ HR K B ι S H ∧ ∃ d S', F ds S = some (d, S') ∧ dn K B ι S H Q d S'
def fnRun (n : Nat) (t : Sv) : Fv := fun ds S => (t (ds.map some ++ List.replicate (n - ds.length) none) S).bind fun p => match p.1 with
  | .rt d => some (d, p.2.2)
  | .nx => some (.non, p.2.2)
  | _ => none
section
variable {X : Cx} {a b c : Expr} {ta tb tc : Ev} {pos : Pos} {es : List Expr} {tr : Av} {k : Nat} {f : Addr} {fd : FuncData} {ps : List Str} {F : Fv} {x : Str} {p : Pos}
def eCall (F : Fv) (t : Av) : Ev := fun ρ S => (t ρ S).bind fun p => F p.1 p.2
theorem lcall (G : FnOk X.prog X.w X.K X.mg X.base CX0 k f fd ps (upF X.K B ps.length F)) (hr : Room k X.A) (hg : Gl X x) (hm : X.mg x = some (.ref f)) (hk : PySem.W.keepIn X.K (.ref f) = true) (hb : Binds X.K fd ps [])
    (ha : PLA B X (a :: es) tr) (hdb : (x == ("__debug__" : Str)) = false := by decide) (he : starEach (a :: es) X.env = (false, eval a X.env) :: starEach es X.env := by rfl) (hpl : (backTo pos (starEach es X.env)).any (·.1) = false := by rfl)
    (hl : (a :: es).length = ps.length := by rfl) (hal : ∀ ρ S ds S', tr ρ S = some (ds, S') → ds.length = (a :: es).length) :
    PL B X (.Call (.Name x p) (a :: es) [] pos) (eCall F tr) :=
  PL.wk (pe_call G hr hg hm hk hb .nil (E := E0) pass0 ha.p hdb he hpl) fun σ H Q ⟨ρ, ι, S, er, hr, d, S', h, q⟩ => by
    obtain ⟨⟨xs, S1⟩, h1, h⟩ := bd h
    refine upA_then er hr h1 fun vs ι1 H1 f1 er1 r1 hr1 => ?_
    refine ⟨?_, xs, ι1, S1, by rw [List.append_nil]; exact r1, hr1, d, S', h, q.fr f1⟩
    rw [List.append_nil, ← r1.length, hal _ _ _ _ h1]
    exact hl
theorem al_nil : ∀ ρ S ds S', aNil ρ S = some (ds, S') → ds.length = ([] : List Expr).length := fun ρ S ds S' h => by cases h; rfl
theorem al_cons {n : Nat} (h : ∀ ρ S ds S', tr ρ S = some (ds, S') → ds.length = n) : ∀ ρ S ds S', aCons ta tr ρ S = some (ds, S') → ds.length = n + 1 := fun ρ S ds S' e => by
  obtain ⟨⟨x, S1⟩, h1, e⟩ := bd e
  obtain ⟨⟨xs, S2⟩, h2, e⟩ := bd e
  cases e
  rw [List.length_cons, h _ _ _ _ h2]
end
section
open PySem.Spec PyProof.Rows
variable {P : Program} {w : World} {K : PySem.W.Frag} {mg : Str → Option Value} {base : Heap}
theorem start_env {ι : Lm} {H : Hp} {N : List Str} : ∀ {ds : List D} {vs : List V}, Rps K ι H ds vs → ∀ n, EnvR K ι H (vs.map some ++ List.replicate n none) (ds.map some ++ List.replicate n none) := fun {ds vs} r n =>
  ⟨by simp [r.length], fun i d e => by
    by_cases hi : i < ds.length
    · rw [List.getElem?_append_left (by simpa using hi), List.getElem?_map] at e
      obtain ⟨d', e1, e2⟩ := mp e
      cases e2
      obtain ⟨v, e3, rv⟩ := r.at e1
      refine ⟨v, ?_, rv⟩
      rw [List.getElem?_append_left (by rw [List.length_map, ← r.length]; exact hi), List.getElem?_map, e3]; rfl
    · rw [List.getElem?_append_right (by simpa using hi), List.getElem?_replicate] at e
      split at e
      · cases e
      · cases e⟩
theorem fok {x qual : Str} {st : Stmt} {f : Addr} {fd : FuncData} {N ps : List Str} {k : Nat} {t : Sv} (F : Fun K x qual st f fd) (S : FnScope N ps (defScope st))
    (hbody : ∀ (cdv : Value) (A : Around) (outer : List Env) (s : Shared) (H : Hp) (E : XK), fd.code = cdv → Room k (A.deeper (envOfC qual (defScope st) s.heap.objs.size f cdv)) →
      PLSs B (cxOf CX0 P w K mg base N qual (defScope st) f cdv A outer s H E).nox (defBody st) t) : FnOk P w K mg base CX0 (k + 1) f fd ps (upF K B ps.length (fnRun N.length t)) := by
  refine F.okC S (fun vs H Q E h => h.1) fun cdv A outer s H vs Q E hcd hr h => ?_
  obtain ⟨hl, ds, ι, So, r, hrr, d, S', h, q⟩ := h
  refine ⟨_, (hbody cdv A outer s H E hcd hr).p, ?_⟩
  obtain ⟨⟨fl, ρ1, S1⟩, h1, h⟩ := bd h
  refine ⟨_, ι, So, ?_, hrr, fl, ρ1, S1, h1, ?_⟩
  · unfold L2.start
    rw [r.length]
    exact start_env (N := N) r _
  · cases fl with
    | rt d1 => cases h; exact q
    | nx => cases h; exact fun σ' ι' H' f' er' hr' => q .non ι' H' f' rfl hr'
    | bk => cases h
    | ct => cases h
end
end DL
set_option Elab.async false
set_option linter.all false
set_option maxRecDepth 100000
set_option autoImplicit false
namespace DL
open PySem L2
variable {B : Bs}
section
variable {X : Cx} {a b c : Expr} {ta tb tc : Ev} {pos : Pos} {es : List Expr} {tr : Av} {tg iter : Expr}
theorem PE.or {e : Expr} {t t' : TE} (h : PE X e t) (h' : PE X e t') : PE X e (fun σ H Q => t σ H Q ∨ t' σ H Q) := fun pins s σ H Q I q => q.elim (h pins s σ H Q I) (h' pins s σ H Q I)
theorem PT.or {e : Expr} {t t' : TT} (h : PT X e t) (h' : PT X e t') : PT X e (fun σ H Q => t σ H Q ∨ t' σ H Q) := fun pins s σ H Q I q => q.elim (h pins s σ H Q I) (h' pins s σ H Q I)
theorem PI.or {t t' : TI} (h : PI X tg iter t) (h' : PI X tg iter t') : PI X tg iter (fun σ H Q => t σ H Q ∨ t' σ H Q) := fun pins s σ H Q I q => q.elim (h pins s σ H Q I) (h' pins s σ H Q I)
def iAny (t : Ev) : Iv := fun ρ S => (t ρ S).bind fun p => match p.1 with
  | .ref l => (rdL p.2 l).map fun xs => (⟨xs, some (l, xs)⟩, p.2)
  | .tup xs => some (⟨xs, none⟩, p.2)
  | _ => none
theorem liany (hl : PL B X a ta) : PLI B X tg a (iAny ta) := PLI.wk (PI.or (liseq hl).p (litup hl).p) fun σ H R ⟨ρ, ι, S, er, hr, it, S', h, q⟩ => by
  obtain ⟨⟨x, S1⟩, h1, h⟩ := bd h
  cases x <;> simp only [reduceCtorEq] at h
  · exact .inl ⟨ρ, ι, S, er, hr, it, S', by unfold iSeq; rw [h1]; exact h, q⟩
  · exact .inr ⟨ρ, ι, S, er, hr, it, S', by unfold iTup; rw [h1]; exact h, q⟩
def oIxA : R2v := fun x y S => match x with
  | .ref l => if (rdD S l).isSome = true then oDg x y S else oIx x y S
  | _ => oIx x y S
theorem oIxA_or (x y : D) (S : Sto) : oIxA x y S = oDg x y S ∨ oIxA x y S = oIx x y S := by
  unfold oIxA
  split
  · split
    · exact .inl rfl
    · exact .inr rfl
  · exact .inr rfl
theorem lixa (hu : X.A.units + 1 < cLine) (ha : PL B X a ta) (hb : PL B X b tb) (hs : PlainIx b := by exact fun _ _ => rfl) : PL B X (.Subscript a b pos) (eOp oIxA ta tb) :=
  PL.wk (PE.or (ldget hu ha hb hs).p (lix ha hb hs).p) fun σ H Q ⟨ρ, ι, S, er, hr, d, S', h, q⟩ => by
    obtain ⟨x, S1, y, S2, h1, h2, h3⟩ := eOp_some h
    rcases oIxA_or x y S2 with e | e
    · exact .inl ⟨ρ, ι, S, er, hr, d, S', by unfold eOp; rw [h1]; simp only [Option.bind_some, h2]; rw [← e]; exact h3, q⟩
    · exact .inr ⟨ρ, ι, S, er, hr, d, S', by unfold eOp; rw [h1]; simp only [Option.bind_some, h2]; rw [← e]; exact h3, q⟩
def oInA (neg : Bool) : R2v := fun x y S => match y with
  | .ref l => if (rdD S l).isSome = true then oDin neg x y S else oIn neg x y S
  | _ => oIn neg x y S
def visB (sc : Scope) (x : Str) : Bool := match sc.names.lookup x with
  | some .local => true
  | some .cell => true
  | some .free => true
  | _ => false
def locB (sc : Scope) (x : Str) : Bool := match sc.names.lookup x with
  | some .local => true
  | some .cell => true
  | _ => false
theorem vis_of {sc : Scope} {x : Str} (h : visB sc x = true) : Vis sc x := by
  unfold visB at h
  split at h
  · rename_i e; exact .inl e
  · rename_i e; exact .inr (.inl e)
  · rename_i e; exact .inr (.inr e)
  · cases h
theorem loc_of {sc : Scope} {x : Str} (h : locB sc x = true) : Loc sc x := by
  unfold locB at h
  split at h
  · rename_i e; exact .inl e
  · rename_i e; exact .inr e
  · cases h
theorem lv {x : Str} (i : Nat) (hN : X.N[i]? = some x) (hv : visB X.env.scope x = true) (hd : (x == ("__debug__" : Str)) = false := by decide) (hcd : (x == ("__classdict__" : Str)) = false := by decide) : PL B X (.Name x pos) (eV i) := lvar hN (vis_of hv) hd hcd
def genVals (te : Ev) (ρ : En) (S : Sto) : List D → Option (List D)
  | [] => some []
  | d :: ds => (te (some d :: ρ) (view S)).bind fun p => (genVals te ρ S ds).map fun vs => p.1 :: vs
def blsD : List D → Option (List Bool)
  | [] => some []
  | .bl i :: r => (blsD r).map fun is => i :: is
  | _ => none
def eAllG (ti : Iv) (te : Ev) : Ev := fun ρ S => (ti ρ S).bind fun p => if okC p.1.chk p.2 = true then (genVals te ρ p.2 p.1.items).bind fun vs => (blsD vs).map fun bs => (.bl (bs.all fun b => b), p.2) else none
def eSumG (ti : Iv) (te : Ev) : Ev := fun ρ S => (ti ρ S).bind fun p => if okC p.1.chk p.2 = true then (genVals te ρ p.2 p.1.items).bind fun vs => (intsD vs).map fun ns => (.int ns.sum, p.2) else none
theorem genVals_at {te : Ev} {ρ : En} {S : Sto} : ∀ {ds vs : List D}, genVals te ρ S ds = some vs → vs.length = ds.length ∧ ∀ (i : Nat) d, ds[i]? = some d → ∃ v S', te (some d :: ρ) (view S) = some (v, S') ∧ vs[i]? = some v
  | [], vs, h => by cases h; exact ⟨rfl, fun i d e => by simp at e⟩
  | d :: ds, vs, h => by
    obtain ⟨⟨v, S1⟩, h1, h⟩ := bd h
    obtain ⟨us, h2, rfl⟩ := mp h
    obtain ⟨ih1, ih2⟩ := genVals_at h2
    refine ⟨by simp [ih1], fun i e he => ?_⟩
    cases i with
    | zero => simp at he; subst he; exact ⟨v, S1, h1, rfl⟩
    | succ i => simp at he; obtain ⟨w, S2, h3, h4⟩ := ih2 i e he; exact ⟨w, S2, h3, by simpa using h4⟩
theorem gen_rd {te : Ev} {ρ : En} {S : Sto} {K : PySem.W.Frag} {ι : Lm} {H : Hp} {σ : St} {J : It} {it : Itm} {vs : List D} {us : List V} {xs : List V} (er : EnvR K ι H σ ρ) (hr : HR K B ι S H) (hJ : ItR K B ι H J it) (ok : okC it.chk S = true) (hxs : Rps K ι H it.items xs)
    (hy : ∀ (i : Nat) y H', J.yld i H y H' → H' = H ∧ xs[i]? = some y) (h : genVals te ρ S it.items = some vs) (hu : ∀ (i : Nat) d v ι' H', vs[i]? = some d → Rp K ι' H' d v → us[i]? = some v) : GenRd (upE K B te) J xs us H σ := by
  obtain ⟨hl, hv⟩ := genVals_at h
  refine ⟨fun i hi => ?_, hy, ?_, fun i y e => ?_, hr.nd⟩
  · obtain ⟨d, e, _⟩ := hxs.atV (List.getElem?_eq_getElem hi)
    exact hJ.go i ι S H d ⟨fun _ _ z => z, fun _ _ z => z, fun _ _ z n => ⟨z, n⟩⟩ hr ok e
  · rw [← hxs.length]
    exact hJ.stop ι S H ⟨fun _ _ z => z, fun _ _ z => z, fun _ _ z n => ⟨z, n⟩⟩ hr ok
  · obtain ⟨d, e1, r1⟩ := hxs.atV e
    obtain ⟨v, S', h1, h2⟩ := hv i d e1
    exact ⟨_, ι, view S, er.push r1, hr.view, v, S', h1, fun u ι' H' f r hr' => ⟨hu i v u ι' H' h2 r, f.view hr⟩⟩
def ItP (K : PySem.W.Frag) (B : Bs) (ι : Lm) (H : Hp) (J : It) (it : Itm) : Prop := ∀ S, HR K B ι S H → okC it.chk S = true → ∃ xs, Rps K ι H it.items xs ∧ ∀ (i : Nat) y H', J.yld i H y H' → H' = H ∧ xs[i]? = some y
def upIG (K : PySem.W.Frag) (B : Bs) (t : Iv) : TI := fun σ H R => ∃ ρ ι S, EnvR K ι H σ ρ ∧ HR K B ι S H ∧ ∃ it S', t ρ S = some (it, S') ∧ ∀ J ι' H', Fr ι S H ι' S' H' → HR K B ι' S' H' → ItR K B ι' H' J it → ItP K B ι' H' J it → R J H'
structure PLIG (B : Bs) (X : Cx) (tg iter : Expr) (t : Iv) : Prop where
  p : PI X tg iter (upIG X.K B t)
theorem PLIG.wk {t : TI} {t' : Iv} (h : PI X tg iter t) (i : ∀ σ H R, upIG X.K B t' σ H R → t σ H R) : PLIG B X tg iter t' := ⟨PI.weak h i⟩
theorem itP_list {K : PySem.W.Frag} {ι0 : Lm} {H0 : Hp} {l : Nat} {a : Addr} {xs : List D} (e : ι0[l]? = some a) : ItP K B ι0 H0 (Itl K a) ⟨xs, some (l, xs)⟩ := fun S hr ok => by
  obtain ⟨a', vs, e1, hq, rr⟩ := hr.refL (v := .ref a) ⟨a, e, rfl⟩ (ok_rd ok)
  cases e1
  exact ⟨vs, rr, fun i y H' h => ⟨h.1, h.2 vs hq⟩⟩
theorem itP_tup {K : PySem.W.Frag} {ι0 : Lm} {H0 : Hp} {a : Addr} {xs : List D} {vs : List V} (hq : SqT K H0 a vs) (rr : Rps K ι0 H0 xs vs) : ItP K B ι0 H0 (Itt K a) ⟨xs, none⟩ := fun S hr ok =>
  ⟨vs, rr, fun i y H' h => ⟨h.1, h.2 vs hq⟩⟩
theorem ligseq (hl : PL B X a ta) : PLIG B X tg a (iSeq ta) := PLIG.wk (pi_list hl.p) fun σ H R ⟨ρ, ι, S, er, hr, it, S', h, q⟩ => by
  obtain ⟨⟨x, S1⟩, h1, h⟩ := bd h
  refine up_then er hr h1 fun v ι1 H1 f1 er1 r1 hr1 => ?_
  cases x <;> simp only [reduceCtorEq] at h
  obtain ⟨xs, e, h⟩ := mp h
  cases h
  obtain ⟨a1, e1, rfl⟩ := r1
  obtain ⟨a2, vs, e2, hq, rr⟩ := hr1.refL (v := .ref a1) ⟨a1, e1, rfl⟩ e
  cases e2
  exact ⟨a1, rfl, ⟨vs, hq⟩, q _ _ _ f1 hr1 (itR_list e1) (itP_list e1)⟩
theorem ligtup (hl : PL B X a ta) : PLIG B X tg a (iTup ta) := PLIG.wk (pi_tup hl.p) fun σ H R ⟨ρ, ι, S, er, hr, it, S', h, q⟩ => by
  obtain ⟨⟨x, S1⟩, h1, h⟩ := bd h
  refine up_then er hr h1 fun v ι1 H1 f1 er1 r1 hr1 => ?_
  cases x <;> simp only [reduceCtorEq] at h
  cases h
  obtain ⟨a1, vs, rfl, hq, rr⟩ := r1
  exact ⟨a1, rfl, ⟨vs, hq⟩, q _ _ _ f1 hr1 (itR_tup hq rr) (itP_tup hq rr)⟩
theorem ligany (hl : PL B X a ta) : PLIG B X tg a (iAny ta) := PLIG.wk (PI.or (ligseq hl).p (ligtup hl).p) fun σ H R ⟨ρ, ι, S, er, hr, it, S', h, q⟩ => by
  obtain ⟨⟨x, S1⟩, h1, h⟩ := bd h
  cases x <;> simp only [reduceCtorEq] at h
  · exact .inl ⟨ρ, ι, S, er, hr, it, S', by unfold iSeq; rw [h1]; exact h, q⟩
  · exact .inr ⟨ρ, ι, S, er, hr, it, S', by unfold iTup; rw [h1]; exact h, q⟩
variable {elt : Expr} {x : Str} {px : Pos} {scope : Scope} {gpos p : Pos} {ti : Iv} {te : Ev} {cc P : Addr}
theorem rint {K : PySem.W.Frag} {bs : List Int} (i : Nat) (d : D) (v : V) (ι' : Lm) (H' : Hp) (e : (bs.map D.int)[i]? = some d) (r : Rp K ι' H' d v) : (bs.map V.int)[i]? = some v := by
  rw [List.getElem?_map] at e ⊢
  obtain ⟨k, e1, rfl⟩ := mp e
  rw [e1, show v = .int k from r]; rfl
theorem lsumG (S : GenScope x X.N scope X.env.scope) (hd : X.A.handled = none) (hroom : X.A.depth < recursionLimit) (hcode : X.env.code = .ref cc) (C : CodeOk X.base X.mg cc P) (hP : P ∈ B.tabs) (hg : Gl X "sum") (hm : X.mg "sum" = none) (hi : PLIG B X (.Name x px) iter ti)
    (he : ∀ s H it fp code, PL B (genX X elt x px iter scope gpos s H it fp code) elt te)
    (hs : ∀ v, genFold iter X.env v = pure v := by intro _; rfl) (hst : starEach [gexp elt x px iter scope gpos] X.env = [(false, eval (gexp elt x px iter scope gpos) X.env)] := by rfl) :
    PL B X (.Call (.Name "sum" p) [gexp elt x px iter scope gpos] [] pos) (eSumG ti te) :=
  PL.wk (pe_sumGen (te := upE X.K B te) S hd hroom hcode C hg hm hi.p (fun s H C cl fp => (he s H C cl fp).p) hs hst) fun σ H Q ⟨ρ, ι, S, er, hr, d, S', h, q⟩ => by
    obtain ⟨⟨it, S1⟩, h1, h⟩ := bd h
    split at h
    · rename_i ok
      obtain ⟨vs, h2, h⟩ := bd h
      obtain ⟨bs, h3, h⟩ := mp h
      cases h
      refine ⟨ρ, ι, S, er, hr, it, S1, h1, fun J ι1 H1 f1 hr1 hJ hp => ?_⟩
      obtain ⟨xs, rx, hy⟩ := hp S1 hr1 ok
      have hvs := intsD_map h3
      refine ⟨(hr1.tb P hP).2, xs, bs, ?_, gen_rd (er.ext (f1.ext hr)) hr1 hJ ok rx hy h2 (by rw [hvs]; exact rint), q _ _ _ f1 rfl hr1⟩
      rw [← rx.length, ← (genVals_at h2).1, hvs, List.length_map]
    · cases h
end
section
variable {P : Program} {w : World} {K : PySem.W.Frag} {mg : Str → Option Value} {base : Heap}
theorem fok0 {f : Addr} {fd : FuncData} {ps : List Str} {k : Nat} : FnOk P w K mg base CX0 k f fd ps (upF K B ps.length fun _ _ => none) :=
  ⟨fun vs H Q E h => h.1, fun A outer s H args us vs Q E hr he hb hv hs => by
    obtain ⟨_, ds, ι, S, r, hrr, d, S', h, q⟩ := hs
    cases h⟩
def noLists (K : PySem.W.Frag) : Bool := K.all fun p => match p.2.cls with
  | .type n => !(n == "list")
  | _ => true
theorem rd_of {H : Hp} {a : Addr} {xs : List V} (hK : noLists K = true) (h : SqL K H a xs) : Rd H a (.lst xs) := by
  rcases h with h | ⟨o, its, n, hk, hc, _⟩
  · exact h
  · have h2 := List.all_eq_true.mp hK (a, o) (PySem.W.mem_of_lookupK hk)
    simp only [hc] at h2
    exact absurd h2 (by decide)
end
theorem bt_len : bootBuiltins "len" = some (.builtin "len") := by decide +kernel
theorem bt_min : bootBuiltins "min" = some (.builtin "min") := by decide +kernel
theorem bt_max : bootBuiltins "max" = some (.builtin "max") := by decide +kernel
theorem bt_sum : bootBuiltins "sum" = some (.builtin "sum") := by decide +kernel
theorem bt_isinstance : bootBuiltins "isinstance" = some (.builtin "isinstance") := by decide +kernel
theorem bt_int : bootBuiltins "int" = some (.type "int") := by decide +kernel
theorem bt_bool : bootBuiltins "bool" = some (.type "bool") := by decide +kernel
theorem bt_tuple : bootBuiltins "tuple" = some (.type "tuple") := by decide +kernel
theorem bt_list : bootBuiltins "list" = some (.type "list") := by decide +kernel
end DL
namespace DL
open PySem L2
def genC (x : Str) (N : List Str) (scope outer : Scope) : Bool :=
  !scope.isCoroutine && (match scope.kind with | .function => true | _ => false) && (scope.names.all fun y => match y.2 with | .cell => false | _ => true)
    && (match scope.names.lookup (".0" : Str) with | some .local => true | _ => false) && (match scope.names.lookup x with | some .local => true | _ => false)
    && (scope.names.all fun y => match y.2 with
      | .free => (match outer.names.lookup y.1 with | some .cell => true | some .free => true | _ => false)
      | _ => true)
    && (N.all fun y => decide (y = x) || match scope.names.lookup y with | some .local => false | _ => true) && decide ((x :: shade x N).Nodup) && decide (x ≠ ".0") && (match scope.names.lookup ("" : Str) with | none => true | _ => false)
theorem genScope_of {x : Str} {N : List Str} {scope outer : Scope} (h : genC x N scope outer = true) : GenScope x N scope outer := by
  unfold genC at h
  simp only [Bool.and_eq_true, decide_eq_true_eq] at h
  obtain ⟨⟨⟨⟨⟨⟨⟨⟨⟨h1, h2⟩, h3⟩, h4⟩, h5⟩, h6⟩, h7⟩, h8⟩, h9⟩, h10⟩ := h
  refine ⟨by simpa using h1, ?_, fun y hy e => ?_, ?_, ?_, fun y hy e => ?_, fun y hy ne e => ?_, h8, ?_, h9⟩
  · split at h2
    · assumption
    · cases h2
  · have := List.all_eq_true.mp h3 y hy
    rw [e] at this; cases this
  · split at h4
    · assumption
    · cases h4
  · split at h5
    · assumption
    · cases h5
  · have := List.all_eq_true.mp h6 y hy
    rw [e] at this
    simp only at this
    split at this
    · rename_i z; exact .inl z
    · rename_i z; exact .inr z
    · cases this
  · have := List.all_eq_true.mp h7 y hy
    rw [e, decide_eq_false ne] at this; cases this
  · split at h10
    · assumption
    · cases h10
end DL
namespace DL
open PySem L2
variable {B : Bs} {X : Cx}
def oAddI : R2v := oI (fun _ _ => true) fun i j => .int (i + j)
end DL
set_option Elab.async false
set_option linter.all false
set_option maxRecDepth 100000
set_option autoImplicit false
namespace DL
open PySem L2
def bnd {α β : Type} (x : Option α) (f : α → Option β) : Option β := x.bind f
@[simp] theorem bnd_some {α β : Type} {a : α} {f : α → Option β} : bnd (some a) f = f a := id rfl
@[simp] theorem bnd_none {α β : Type} {f : α → Option β} : bnd (none : Option α) f = none := id rfl
section
variable {ρ : En} {S : Sto} {ta tb tc : Ev} {tr : Av} {r r' : R2v} {t u : Sv} {lA lB : Tv} {d x y : D} {ds : List D}
def kV (S : Sto) : Option (Option D) → Option (D × Sto)
  | some (some d) => some (d, S)
  | _ => none
@[simp] theorem kV_s : DL.kV S (some (some d)) = some (d, S) := id rfl
@[simp] theorem eV_ap {i : Nat} : eV i ρ S = DL.kV S ρ[i]? := by unfold eV DL.kV; cases ρ[i]? with | none => rfl | some o => cases o <;> rfl
@[simp] theorem eC_ap : eC d ρ S = some (d, S) := id rfl
def kOp1 (r : R2v) (tb : Ev) (ρ : En) (p : D × Sto) : Option (D × Sto) := (tb ρ p.2).bind fun q => r p.1 q.1 q.2
def kOp2 (r : R2v) (x : D) (q : D × Sto) : Option (D × Sto) := r x q.1 q.2
@[simp] theorem eOp_ap : eOp r ta tb ρ S = bnd (ta ρ S) (kOp1 r tb ρ) := id rfl
@[simp] theorem kOp1_ap : kOp1 r tb ρ (x, S) = bnd (tb ρ S) (kOp2 r x) := id rfl
@[simp] theorem kOp2_ap : kOp2 r x (y, S) = r x y S := id rfl
def kCh3 (r' : R2v) (tc : Ev) (ρ : En) (y : D) (z : D × Sto) : Option (D × Sto) := match z.1 with
  | .bl true => (tc ρ z.2).bind fun w => r' y w.1 w.2
  | .bl false => some (.bl false, z.2)
  | _ => none
def kCh2 (r r' : R2v) (tc : Ev) (ρ : En) (x : D) (q : D × Sto) : Option (D × Sto) := (r x q.1 q.2).bind (kCh3 r' tc ρ q.1)
def kCh1 (r r' : R2v) (tb tc : Ev) (ρ : En) (p : D × Sto) : Option (D × Sto) := (tb ρ p.2).bind (kCh2 r r' tc ρ p.1)
@[simp] theorem eChain_ap : eChain r r' ta tb tc ρ S = bnd (ta ρ S) (kCh1 r r' tb tc ρ) := id rfl
@[simp] theorem kCh1_ap : kCh1 r r' tb tc ρ (x, S) = bnd (tb ρ S) (kCh2 r r' tc ρ x) := id rfl
@[simp] theorem kCh2_ap : kCh2 r r' tc ρ x (y, S) = bnd (r x y S) (kCh3 r' tc ρ y) := id rfl
@[simp] theorem kCh3_t : kCh3 r' tc ρ y (.bl true, S) = bnd (tc ρ S) (kOp2 r' y) := id rfl
@[simp] theorem kCh3_f : kCh3 r' tc ρ y (.bl false, S) = some (.bl false, S) := id rfl
def kNeg (p : D × Sto) : Option (D × Sto) := match p.1 with
  | .int i => some (.int (-i), p.2)
  | _ => none
@[simp] theorem eNeg_ap : eNeg ta ρ S = bnd (ta ρ S) kNeg := id rfl
@[simp] theorem kNeg_ap {i : Int} : kNeg (.int i, S) = some (.int (-i), S) := id rfl
def kAnd (tb : Ev) (ρ : En) (p : D × Sto) : Option (D × Sto) := match p.1 with
  | .bl true => tb ρ p.2
  | .bl false => some (.bl false, p.2)
  | _ => none
@[simp] theorem eAnd_ap : eAnd ta tb ρ S = bnd (ta ρ S) (kAnd tb ρ) := id rfl
@[simp] theorem kAnd_t : kAnd tb ρ (.bl true, S) = tb ρ S := id rfl
@[simp] theorem kAnd_f : kAnd tb ρ (.bl false, S) = some (.bl false, S) := id rfl
def kOr (tb : Ev) (ρ : En) (p : D × Sto) : Option (D × Sto) := match p.1 with
  | .bl true => some (.bl true, p.2)
  | .bl false => tb ρ p.2
  | _ => none
@[simp] theorem eOr_ap : eOr ta tb ρ S = bnd (ta ρ S) (kOr tb ρ) := id rfl
@[simp] theorem kOr_t : kOr tb ρ (.bl true, S) = some (.bl true, S) := id rfl
@[simp] theorem kOr_f : kOr tb ρ (.bl false, S) = tb ρ S := id rfl
def kNot (p : D × Sto) : Option (D × Sto) := match p.1 with
  | .bl k => some (.bl (!k), p.2)
  | _ => none
@[simp] theorem eNot_ap : eNot ta ρ S = bnd (ta ρ S) kNot := id rfl
@[simp] theorem kNot_ap {k : Bool} : kNot (.bl k, S) = some (.bl (!k), S) := id rfl
def kT (p : D × Sto) : Option (Bool × Sto) := match p.1 with
  | .bl k => some (k, p.2)
  | _ => none
@[simp] theorem bT_ap : bT ta ρ S = bnd (ta ρ S) kT := id rfl
@[simp] theorem kT_ap {k : Bool} : kT (.bl k, S) = some (k, S) := id rfl
def kBand (lB : Tv) (ρ : En) (p : Bool × Sto) : Option (Bool × Sto) := if p.1 = true then lB ρ p.2 else some (false, p.2)
@[simp] theorem bAnd_ap : bAnd lA lB ρ S = bnd (lA ρ S) (kBand lB ρ) := id rfl
@[simp] theorem kBand_t : kBand lB ρ (true, S) = lB ρ S := id rfl
@[simp] theorem kBand_f : kBand lB ρ (false, S) = some (false, S) := id rfl
def kBor (lB : Tv) (ρ : En) (p : Bool × Sto) : Option (Bool × Sto) := if p.1 = true then some (true, p.2) else lB ρ p.2
@[simp] theorem bOr_ap : bOr lA lB ρ S = bnd (lA ρ S) (kBor lB ρ) := id rfl
@[simp] theorem kBor_t : kBor lB ρ (true, S) = some (true, S) := id rfl
@[simp] theorem kBor_f : kBor lB ρ (false, S) = lB ρ S := id rfl
def kBnot (p : Bool × Sto) : Option (Bool × Sto) := some (!p.1, p.2)
@[simp] theorem bNot_ap : bNot lA ρ S = bnd (lA ρ S) kBnot := id rfl
@[simp] theorem kBnot_ap {k : Bool} : kBnot (k, S) = some (!k, S) := id rfl
def kTru (p : D × Sto) : Option (Bool × Sto) := (truD p.2 p.1).map fun k => (k, p.2)
@[simp] theorem bTru_ap : bTru ta ρ S = bnd (ta ρ S) kTru := id rfl
@[simp] theorem kTru_bl {k : Bool} : kTru (.bl k, S) = some (k, S) := id rfl
@[simp] theorem kTru_int {i : Int} : kTru (.int i, S) = some (i != 0, S) := id rfl
@[simp] theorem bYes_ap : bYes ρ S = some (true, S) := id rfl
def kIf (ta tb : Ev) (ρ : En) (p : Bool × Sto) : Option (D × Sto) := if p.1 = true then ta ρ p.2 else tb ρ p.2
@[simp] theorem eIf_ap : eIf lA ta tb ρ S = bnd (lA ρ S) (kIf ta tb ρ) := id rfl
@[simp] theorem kIf_t : kIf ta tb ρ (true, S) = ta ρ S := id rfl
@[simp] theorem kIf_f : kIf ta tb ρ (false, S) = tb ρ S := id rfl
def kA1 (tr : Av) (ρ : En) (p : D × Sto) : Option (List D × Sto) := (tr ρ p.2).bind fun q => some (p.1 :: q.1, q.2)
def kA2 (x : D) (q : List D × Sto) : Option (List D × Sto) := some (x :: q.1, q.2)
@[simp] theorem aNil_ap : aNil ρ S = some ([], S) := id rfl
@[simp] theorem aCons_ap : aCons ta tr ρ S = bnd (ta ρ S) (kA1 tr ρ) := id rfl
@[simp] theorem kA1_ap : kA1 tr ρ (x, S) = bnd (tr ρ S) (kA2 x) := id rfl
@[simp] theorem kA2_ap : kA2 x (ds, S) = some (x :: ds, S) := id rfl
def kTup (p : List D × Sto) : Option (D × Sto) := if p.1.length ≤ sizeLine then some (.tup p.1, p.2) else none
def kLst (p : List D × Sto) : Option (D × Sto) := if p.1.length ≤ sizeLine then some (.ref p.2.length, p.2 ++ [.lst p.1]) else none
@[simp] theorem eTup_ap : eTup tr ρ S = bnd (tr ρ S) kTup := id rfl
@[simp] theorem eLst_ap : eLst tr ρ S = bnd (tr ρ S) kLst := id rfl
theorem kTup_ap (h : ds.length ≤ 16777216) : kTup (ds, S) = some (.tup ds, S) := if_pos (by rw [sizeLine_eq]; exact h)
theorem kLst_ap (h : ds.length ≤ 16777216) : kLst (ds, S) = some (.ref S.length, S ++ [.lst ds]) := if_pos (by rw [sizeLine_eq]; exact h)
section
variable {a b c e f g h i : D}
@[simp] theorem kTup_0 : kTup ([], S) = some (.tup [], S) := kTup_ap (by simp)
@[simp] theorem kTup_1 : kTup ([a], S) = some (.tup [a], S) := kTup_ap (by simp)
@[simp] theorem kTup_2 : kTup ([a, b], S) = some (.tup [a, b], S) := kTup_ap (by simp)
@[simp] theorem kTup_3 : kTup ([a, b, c], S) = some (.tup [a, b, c], S) := kTup_ap (by simp)
@[simp] theorem kTup_4 : kTup ([a, b, c, e], S) = some (.tup [a, b, c, e], S) := kTup_ap (by simp)
@[simp] theorem kTup_5 : kTup ([a, b, c, e, f], S) = some (.tup [a, b, c, e, f], S) := kTup_ap (by simp)
@[simp] theorem kLst_0 : kLst ([], S) = some (.ref S.length, S ++ [.lst []]) := kLst_ap (by simp)
@[simp] theorem kLst_1 : kLst ([a], S) = some (.ref S.length, S ++ [.lst [a]]) := kLst_ap (by simp)
@[simp] theorem kLst_2 : kLst ([a, b], S) = some (.ref S.length, S ++ [.lst [a, b]]) := kLst_ap (by simp)
@[simp] theorem kLst_3 : kLst ([a, b, c], S) = some (.ref S.length, S ++ [.lst [a, b, c]]) := kLst_ap (by simp)
@[simp] theorem kLst_4 : kLst ([a, b, c, e], S) = some (.ref S.length, S ++ [.lst [a, b, c, e]]) := kLst_ap (by simp)
@[simp] theorem kLst_5 : kLst ([a, b, c, e, f], S) = some (.ref S.length, S ++ [.lst [a, b, c, e, f]]) := kLst_ap (by simp)
@[simp] theorem kLst_8 : kLst ([a, b, c, e, f, g, h, i], S) = some (.ref S.length, S ++ [.lst [a, b, c, e, f, g, h, i]]) := kLst_ap (by simp)
end
@[simp] theorem eD0_ap : eD0 ρ S = some (.ref S.length, S ++ [.dic []]) := id rfl
@[simp] theorem oNo_ap : oNo ρ S = some (none, S) := id rfl
def kYes (p : D × Sto) : Option (Option Int × Sto) := match p.1 with
  | .int i => some (some i, p.2)
  | _ => none
@[simp] theorem oYes_ap : oYes ta ρ S = bnd (ta ρ S) kYes := id rfl
@[simp] theorem kYes_ap {i : Int} : kYes (.int i, S) = some (some i, S) := id rfl
def kSl1 (lo hi : Ov) (ρ : En) (p : D × Sto) : Option (D × Sto) := (lo ρ p.2).bind fun q => (hi ρ q.2).bind fun r => slD p.1 q.1 r.1 r.2
def kSl2 (hi : Ov) (ρ : En) (x : D) (q : Option Int × Sto) : Option (D × Sto) := (hi ρ q.2).bind fun r => slD x q.1 r.1 r.2
def kSl3 (x : D) (lo : Option Int) (q : Option Int × Sto) : Option (D × Sto) := slD x lo q.1 q.2
@[simp] theorem eSl_ap {lo hi : Ov} : eSl ta lo hi ρ S = bnd (ta ρ S) (kSl1 lo hi ρ) := id rfl
@[simp] theorem kSl1_ap {lo hi : Ov} : kSl1 lo hi ρ (x, S) = bnd (lo ρ S) (kSl2 hi ρ x) := id rfl
@[simp] theorem kSl2_ap {hi : Ov} {o : Option Int} : kSl2 hi ρ x (o, S) = bnd (hi ρ S) (kSl3 x o) := id rfl
@[simp] theorem kSl3_ap {o o' : Option Int} : kSl3 x o (o', S) = slD x o o' S := id rfl
def kCB (c : RCv) (p : List D × Sto) : Option (D × Sto) := c p.1 p.2
@[simp] theorem eCB_ap {c : RCv} : eCB c tr ρ S = bnd (tr ρ S) (kCB c) := id rfl
@[simp] theorem eCall_ap {F : Fv} : eCall F tr ρ S = bnd (tr ρ S) (kCB F) := id rfl
@[simp] theorem kCB_ap {c : RCv} : kCB c (ds, S) = c ds S := id rfl
def kM1 (m : RMv) (tr : Av) (ρ : En) (p : D × Sto) : Option (D × Sto) := match p.1 with
  | .ref l => if (rdL p.2 l).isSome = true then (tr ρ p.2).bind fun q => m (.ref l) q.1 q.2 else none
  | _ => none
def kM2 (m : RMv) (l : Nat) (q : List D × Sto) : Option (D × Sto) := m (.ref l) q.1 q.2
@[simp] theorem eM_ap {m : RMv} : eM m ta tr ρ S = bnd (ta ρ S) (kM1 m tr ρ) := id rfl
theorem kM1_ap {m : RMv} {l : Nat} {xs : List D} (h : rdL S l = some xs) : kM1 m tr ρ (.ref l, S) = bnd (tr ρ S) (kM2 m l) := by
  show (if (rdL S l).isSome = true then _ else _) = _
  rw [if_pos (by rw [h]; rfl)]; rfl
@[simp] theorem kM2_ap {m : RMv} {l : Nat} : kM2 m l (ds, S) = m (.ref l) ds S := id rfl
def kEnum (p : D × Sto) : Option (D × Sto) := match p.1 with
  | .ref l => (rdL p.2 l).bind fun xs => if xs.length ≤ sizeLine then some (.ref p.2.length, p.2 ++ [.lst (pairsD 0 xs)]) else none
  | _ => none
@[simp] theorem eListEnum_ap : eListEnum ta ρ S = bnd (ta ρ S) kEnum := id rfl
theorem kEnum_ap {l : Nat} {xs : List D} (h : rdL S l = some xs) (hz : xs.length ≤ 16777216) : kEnum (.ref l, S) = some (.ref S.length, S ++ [.lst (pairsD 0 xs)]) := by
  show (rdL S l).bind _ = _
  rw [h]
  exact if_pos (by rw [sizeLine_eq]; exact hz)
@[simp] theorem gN_ap {i : Nat} : gN i d ρ S = some (ρ.set i (some d), S) := id rfl
@[simp] theorem gsNil_ap : gsNil [] ρ S = some (ρ, S) := id rfl
def kGs (gs : Gvs) (ds : List D) (p : En × Sto) : Option (En × Sto) := gs ds p.1 p.2
@[simp] theorem gsCons_ap {g : Gv} {gs : Gvs} : gsCons g gs (d :: ds) ρ S = bnd (g d ρ S) (kGs gs ds) := id rfl
@[simp] theorem kGs_ap {gs : Gvs} : kGs gs ds (ρ, S) = gs ds ρ S := id rfl
@[simp] theorem gT_2 {gs : Gvs} : gT 2 gs (.tup [x, y]) ρ S = gs [x, y] ρ S := id rfl
@[simp] theorem gT_3 {gs : Gvs} : gT 3 gs (.tup [x, y, d]) ρ S = gs [x, y, d] ρ S := id rfl
def kGS1 (tb : Ev) (ρ : En) (d : D) (p : D × Sto) : Option (En × Sto) := (tb ρ p.2).bind fun q => (setD p.1 q.1 d q.2).map fun S' => (ρ, S')
def kGS2 (ρ : En) (d x : D) (q : D × Sto) : Option (En × Sto) := (setD x q.1 d q.2).map fun S' => (ρ, S')
@[simp] theorem gS_ap : gS ta tb d ρ S = bnd (ta ρ S) (kGS1 tb ρ d) := id rfl
@[simp] theorem kGS1_ap : kGS1 tb ρ d (x, S) = bnd (tb ρ S) (kGS2 ρ d x) := id rfl
theorem kGS2_ap : kGS2 ρ d x (y, S) = (setD x y d S).map fun S' => (ρ, S') := id rfl
theorem kGS2_l {l : Nat} {xs : List D} {n : Nat} (h : wrL S l = some xs) (hn : n < xs.length) : kGS2 ρ d (.ref l) (.int n, S) = some (ρ, S.set l (.lst (xs.set n d))) := by
  rw [kGS2_ap]
  show ((match wrL S l with | some xs => _ | none => _ : Option Sto)).map _ = _
  rw [h]
  show ((ixN xs.length (n : Int)).map _).map _ = _
  unfold ixN
  rw [if_pos (by omega), if_pos (by omega)]; rfl
def kAny (p : D × Sto) : Option (Itm × Sto) := match p.1 with
  | .ref l => (rdL p.2 l).map fun xs => (⟨xs, some (l, xs)⟩, p.2)
  | .tup xs => some (⟨xs, none⟩, p.2)
  | _ => none
@[simp] theorem iAny_ap : iAny ta ρ S = bnd (ta ρ S) kAny := id rfl
@[simp] theorem kAny_t : kAny (.tup ds, S) = some (⟨ds, none⟩, S) := id rfl
theorem kAny_l {l : Nat} {xs : List D} (h : rdL S l = some xs) : kAny (.ref l, S) = some (⟨xs, some (l, xs)⟩, S) := by
  show (rdL S l).map _ = _
  rw [h]; rfl
def kRng1 (p : D × Sto) : Option (Itm × Sto) := match p.1 with
  | .int j => if i62 j = true then some (⟨rngD 0 j.toNat, none⟩, p.2) else none
  | _ => none
@[simp] theorem iRng1_ap : DL.iRng1 ta ρ S = bnd (ta ρ S) kRng1 := id rfl
theorem kRng1_ap {j : Int} (h : i62 j = true) : kRng1 (.int j, S) = some (⟨rngD 0 j.toNat, none⟩, S) := if_pos h
def kRng2a (tb : Ev) (ρ : En) (p : D × Sto) : Option (Itm × Sto) := (tb ρ p.2).bind fun q => match p.1, q.1 with
  | .int i, .int j => if (i62 i && i62 j) = true then some (⟨rngD i (j - i).toNat, none⟩, q.2) else none
  | _, _ => none
def kRng2b (x : D) (q : D × Sto) : Option (Itm × Sto) := match x, q.1 with
  | .int i, .int j => if (i62 i && i62 j) = true then some (⟨rngD i (j - i).toNat, none⟩, q.2) else none
  | _, _ => none
@[simp] theorem iRng2_ap : DL.iRng2 ta tb ρ S = bnd (ta ρ S) (kRng2a tb ρ) := id rfl
@[simp] theorem kRng2a_ap : kRng2a tb ρ (x, S) = bnd (tb ρ S) (kRng2b x) := id rfl
@[simp] theorem sNil_ap : sNil ρ S = some (.nx, ρ, S) := id rfl
def kSeq (u : Sv) (p : Fl × En × Sto) : Option (Fl × En × Sto) := match p.1 with
  | .nx => u p.2.1 p.2.2
  | f => some (f, p.2)
@[simp] theorem sSeq_ap : sSeq t u ρ S = bnd (t ρ S) (kSeq u) := id rfl
@[simp] theorem kSeq_n : kSeq u (.nx, ρ, S) = u ρ S := id rfl
@[simp] theorem kSeq_r : kSeq u (.rt d, ρ, S) = some (.rt d, ρ, S) := id rfl
@[simp] theorem kSeq_b : kSeq u (.bk, ρ, S) = some (.bk, ρ, S) := id rfl
@[simp] theorem kSeq_c : kSeq u (.ct, ρ, S) = some (.ct, ρ, S) := id rfl
@[simp] theorem sPass_ap : sPass ρ S = some (.nx, ρ, S) := id rfl
@[simp] theorem sBrk_ap : sBrk ρ S = some (.bk, ρ, S) := id rfl
@[simp] theorem sCont_ap : sCont ρ S = some (.ct, ρ, S) := id rfl
def kEx (ρ : En) (p : D × Sto) : Option (Fl × En × Sto) := some (.nx, ρ, p.2)
@[simp] theorem sEx_ap : sEx ta ρ S = bnd (ta ρ S) (kEx ρ) := id rfl
@[simp] theorem kEx_ap : kEx ρ (x, S) = some (.nx, ρ, S) := id rfl
def kRt (ρ : En) (p : D × Sto) : Option (Fl × En × Sto) := some (.rt p.1, ρ, p.2)
@[simp] theorem sRt_ap : sRt ta ρ S = bnd (ta ρ S) (kRt ρ) := id rfl
@[simp] theorem kRt_ap : kRt ρ (x, S) = some (.rt x, ρ, S) := id rfl
@[simp] theorem sRtN_ap : sRtN ρ S = some (.rt .non, ρ, S) := id rfl
def kSif (t u : Sv) (ρ : En) (p : Bool × Sto) : Option (Fl × En × Sto) := if p.1 = true then t ρ p.2 else u ρ p.2
@[simp] theorem sIf_ap : sIf lA t u ρ S = bnd (lA ρ S) (kSif t u ρ) := id rfl
@[simp] theorem kSif_t : kSif t u ρ (true, S) = t ρ S := id rfl
@[simp] theorem kSif_f : kSif t u ρ (false, S) = u ρ S := id rfl
def kAs1 (g : Gv) (ρ : En) (p : D × Sto) : Option (Fl × En × Sto) := (g p.1 ρ p.2).bind fun q => some (.nx, q.1, q.2)
def kAs2 (q : En × Sto) : Option (Fl × En × Sto) := some (.nx, q.1, q.2)
@[simp] theorem sAs_ap {g : Gv} : sAs ta g ρ S = bnd (ta ρ S) (kAs1 g ρ) := id rfl
@[simp] theorem kAs1_ap {g : Gv} : kAs1 g ρ (x, S) = bnd (g x ρ S) kAs2 := id rfl
@[simp] theorem kAs2_ap : kAs2 (ρ, S) = some (.nx, ρ, S) := id rfl
def kAug1 (r : R2v) (i : Nat) (d : D) (ρ : En) (p : D × Sto) : Option (Fl × En × Sto) := (r d p.1 p.2).bind fun q => some (.nx, ρ.set i (some q.1), q.2)
def kAug2 (i : Nat) (ρ : En) (q : D × Sto) : Option (Fl × En × Sto) := some (.nx, ρ.set i (some q.1), q.2)
def kAug0 (r : R2v) (i : Nat) (ta : Ev) (ρ : En) (S : Sto) : Option (Option D) → Option (Fl × En × Sto)
  | some (some d) => (ta ρ S).bind (kAug1 r i d ρ)
  | _ => none
@[simp] theorem sAug_ap {i : Nat} : sAug i r ta ρ S = kAug0 r i ta ρ S ρ[i]? := by unfold sAug kAug0; cases ρ[i]? with | none => rfl | some o => cases o <;> rfl
@[simp] theorem kAug0_ap {i : Nat} : kAug0 r i ta ρ S (some (some d)) = bnd (ta ρ S) (kAug1 r i d ρ) := id rfl
@[simp] theorem kAug1_ap {i : Nat} : kAug1 r i d ρ (x, S) = bnd (r d x S) (kAug2 i ρ) := id rfl
@[simp] theorem kAug2_ap {i : Nat} : kAug2 i ρ (x, S) = some (.nx, ρ.set i (some x), S) := id rfl
def kFor (g : Gv) (t : Sv) (ρ : En) (p : Itm × Sto) : Option (Fl × En × Sto) := forRun p.1.chk g t p.1.items ρ p.2
@[simp] theorem sFor_ap {ti : Iv} {g : Gv} : sFor ti g t ρ S = bnd (ti ρ S) (kFor g t ρ) := id rfl
@[simp] theorem kFor_ap {g : Gv} {c : Option (Nat × List D)} : kFor g t ρ (⟨ds, c⟩, S) = forRun c g t ds ρ S := id rfl
@[simp] theorem sWh_ap : sWh lA t ρ S = whRun lA t turns ρ S := id rfl
def kLc (g : Gv) (lA : Tv) (ta : Ev) (ρ : En) (p : Itm × Sto) : Option (D × Sto) := (lcRun p.1.chk g lA ta ρ p.2.length p.1.items (p.2 ++ [.lst []])).map fun S' => (.ref p.2.length, S')
@[simp] theorem eLc_ap {ti : Iv} {g : Gv} {vs : List Nat} : eLc ti g lA ta vs ρ S = bnd (ti ρ S) (kLc g lA ta (wipeR ρ vs)) := id rfl
def kFn (p : Fl × En × Sto) : Option (D × Sto) := match p.1 with
  | .rt d => some (d, p.2.2)
  | .nx => some (.non, p.2.2)
  | _ => none
theorem fnRun_ap {n : Nat} : fnRun n t ds S = bnd (t (ds.map some ++ List.replicate (n - ds.length) none) S) kFn := id rfl
@[simp] theorem kFn_r : kFn (.rt d, ρ, S) = some (d, S) := id rfl
@[simp] theorem kFn_n : kFn (.nx, ρ, S) = some (.non, S) := id rfl
end
section
variable {S : Sto} {i j : Int}
@[simp] theorem oAdd_int : oAdd (.int i) (.int j) S = some (.int (i + j), S) := id rfl
@[simp] theorem oSub_int : oSub (.int i) (.int j) S = some (.int (i - j), S) := id rfl
@[simp] theorem oAddI_int : oAddI (.int i) (.int j) S = some (.int (i + j), S) := id rfl
theorem oMul_int : oMul (.int i) (.int j) S = if cMul i j = true then some (.int (i * j), S) else none := rfl
theorem oMod_int : oMod (.int i) (.int j) S = if decide (0 < j) = true then some (.int (i % j), S) else none := rfl
theorem oFdiv_int : oFdiv (.int i) (.int j) S = if (decide (0 < j) && decide (j < 1073741824)) = true then some (.int (i / j), S) else none := rfl
theorem oMod_pos (h : 0 < j) : oMod (.int i) (.int j) S = some (.int (i % j), S) := by rw [oMod_int, if_pos (decide_eq_true h)]
theorem oFdiv_pos (h : 0 < j) (h2 : j < 1073741824) : oFdiv (.int i) (.int j) S = some (.int (i / j), S) := by
  rw [oFdiv_int, if_pos (by simp [h, h2])]
theorem cMul_l (h : -(2 ^ 64) < i) (h2 : i < 2 ^ 64) : cMul i j = true := by unfold cMul; simp only [Bool.or_eq_true, Bool.and_eq_true, decide_eq_true_eq]; exact .inl ⟨h, h2⟩
theorem cMul_r (h : -(2 ^ 64) < j) (h2 : j < 2 ^ 64) : cMul i j = true := by unfold cMul; simp only [Bool.or_eq_true, Bool.and_eq_true, decide_eq_true_eq]; exact .inr ⟨h, h2⟩
theorem oMul_l (h : -(2 ^ 64) < i) (h2 : i < 2 ^ 64) : oMul (.int i) (.int j) S = some (.int (i * j), S) := by rw [oMul_int, if_pos (cMul_l h h2)]
theorem oMul_r (h : -(2 ^ 64) < j) (h2 : j < 2 ^ 64) : oMul (.int i) (.int j) S = some (.int (i * j), S) := by rw [oMul_int, if_pos (cMul_r h h2)]
theorem p64 : (2 : Int) ^ 64 = 18446744073709551616 := by decide
theorem oMul_sl (h : -18446744073709551616 < i) (h2 : i < 18446744073709551616) : oMul (.int i) (.int j) S = some (.int (i * j), S) := oMul_l (by rw [p64]; exact h) (by rw [p64]; exact h2)
theorem oMul_sr (h : -18446744073709551616 < j) (h2 : j < 18446744073709551616) : oMul (.int i) (.int j) S = some (.int (i * j), S) := oMul_r (by rw [p64]; exact h) (by rw [p64]; exact h2)
@[simp] theorem oLt_int : oLt (.int i) (.int j) S = some (.bl (decide (i < j)), S) := id rfl
@[simp] theorem oLe_int : oLe (.int i) (.int j) S = some (.bl (decide (i ≤ j)), S) := id rfl
@[simp] theorem oGt_int : oGt (.int i) (.int j) S = some (.bl (decide (j < i)), S) := id rfl
@[simp] theorem oGe_int : oGe (.int i) (.int j) S = some (.bl (decide (j ≤ i)), S) := id rfl
theorem oPow_int (h0 : 0 ≤ j) (h1 : j ≤ 1000000) (h2 : i.natAbs < 2 ^ 64) : oPow (.int i) (.int j) S = some (.int (i ^ j.toNat), S) := by
  show (if cPow i j = true then _ else _) = _
  rw [if_pos (by unfold cPow; simp [h0, h1]; omega)]
@[simp] theorem eqO_int : eqO (.int i) (.int j) S = some (decide (i = j)) := by simp [eqO, scalD]
@[simp] theorem eqO_str {x y : Str} : eqO (.str x) (.str y) S = some (decide (x = y)) := by simp [eqO, scalD]
@[simp] theorem eqO_bl {x y : Bool} : eqO (.bl x) (.bl y) S = some (decide (x = y)) := by simp [eqO, scalD]
@[simp] theorem eqO_si {x : Str} : eqO (.str x) (.int i) S = some false := by simp [eqO, scalD]
@[simp] theorem eqO_is {x : Str} : eqO (.int i) (.str x) S = some false := by simp [eqO, scalD]
theorem oEq_of {x y : D} {k : Bool} (h : eqO x y S = some k) : oEq x y S = some (.bl k, S) := by unfold oEq; rw [h]; rfl
theorem oNe_of {x y : D} {k : Bool} (h : eqO x y S = some k) : oNe x y S = some (.bl (!k), S) := by unfold oNe; rw [h]; rfl
@[simp] theorem oEq_int : oEq (.int i) (.int j) S = some (.bl (decide (i = j)), S) := oEq_of eqO_int
@[simp] theorem oEq_str {x y : Str} : oEq (.str x) (.str y) S = some (.bl (decide (x = y)), S) := oEq_of eqO_str
@[simp] theorem oEq_bl {x y : Bool} : oEq (.bl x) (.bl y) S = some (.bl (decide (x = y)), S) := oEq_of eqO_bl
@[simp] theorem oEq_si {x : Str} : oEq (.str x) (.int i) S = some (.bl false, S) := oEq_of eqO_si
@[simp] theorem oEq_is {x : Str} : oEq (.int i) (.str x) S = some (.bl false, S) := oEq_of eqO_is
@[simp] theorem oNe_int : oNe (.int i) (.int j) S = some (.bl (!decide (i = j)), S) := oNe_of eqO_int
@[simp] theorem oNe_str {x y : Str} : oNe (.str x) (.str y) S = some (.bl (!decide (x = y)), S) := oNe_of eqO_str
@[simp] theorem oNe_bl {x y : Bool} : oNe (.bl x) (.bl y) S = some (.bl (!decide (x = y)), S) := oNe_of eqO_bl
@[simp] theorem cMax_int : cMax [.int i, .int j] S = some (.int (if j > i then j else i), S) := id rfl
@[simp] theorem cMin_int : cMin [.int i, .int j] S = some (.int (if j < i then j else i), S) := id rfl
@[simp] theorem cAbs_int : cAbs [.int i] S = some (.int (if i < 0 then -i else i), S) := id rfl
@[simp] theorem cInt_int : cInt [.int i] S = some (.int i, S) := id rfl
@[simp] theorem cInt_bl {k : Bool} : cInt [.bl k] S = some (.int (if k then 1 else 0), S) := id rfl
@[simp] theorem cLen_tup {xs : List D} : cLen [.tup xs] S = some (.int xs.length, S) := id rfl
theorem cLen_ref {l : Nat} {xs : List D} (h : rdL S l = some xs) : cLen [.ref l] S = some (.int xs.length, S) := by show (rdL S l).map _ = _; rw [h]; rfl
@[simp] theorem cTuple_tup {xs : List D} : cTuple [.tup xs] S = some (.tup xs, S) := id rfl
theorem cTuple_ref {l : Nat} {xs : List D} (h : rdL S l = some xs) : cTuple [.ref l] S = some (.tup xs, S) := by show (rdL S l).map _ = _; rw [h]; rfl
@[simp] theorem cList_tup {xs : List D} : cList [.tup xs] S = some (.ref S.length, S ++ [.lst xs]) := id rfl
@[simp] theorem seqD_tup {xs : List D} : seqD S (.tup xs) = some xs := id rfl
@[simp] theorem seqD_ref {l : Nat} : seqD S (.ref l) = rdL S l := id rfl
def kAt (S : Sto) : Option D → Option (D × Sto)
  | some d => some (d, S)
  | none => none
@[simp] theorem kAt_s {d : D} : kAt S (some d) = some (d, S) := id rfl
theorem kAt_m {o : Option D} : (o.map fun d => (d, S)) = kAt S o := by cases o <;> rfl
@[simp] theorem oIxA_tup {xs : List D} : oIxA (.tup xs) (.int i) S = kAt S (atI xs i) := by rw [← kAt_m]; rfl
theorem rdL_lst {l : Nat} {xs : List D} (h : S[l]? = some (.lst xs)) : rdL S l = some xs := by unfold rdL; rw [h]
theorem rdL_rol {l : Nat} {xs : List D} (h : S[l]? = some (.rol xs)) : rdL S l = some xs := by unfold rdL; rw [h]
theorem wrL_lst {l : Nat} {xs : List D} (h : S[l]? = some (.lst xs)) : wrL S l = some xs := by unfold wrL; rw [h]
theorem rdD_no {l : Nat} {xs : List D} (h : rdL S l = some xs) : rdD S l = none := by
  obtain ⟨m, e, q⟩ := rdL_some h
  unfold rdD; rw [e]
  rcases q with rfl | rfl <;> rfl
theorem oIxA_ref {l : Nat} {xs : List D} (h : rdL S l = some xs) : oIxA (.ref l) (.int i) S = kAt S (atI xs i) := by
  rw [← kAt_m]
  show (if (rdD S l).isSome = true then _ else _) = _
  rw [rdD_no h, if_neg (by simp)]
  show ((rdL S l).bind _) = _
  rw [h]; rfl
@[simp] theorem atI_n {α : Type} {xs : List α} {n : Nat} : atI xs (n : Int) = xs[n]? := by
  unfold atI ixN
  rw [if_pos (by omega)]
  by_cases h : n < xs.length
  · rw [if_pos (by omega)]; rfl
  · rw [if_neg (by omega)]
    rw [List.getElem?_eq_none (by omega)]; rfl
theorem atI_neg1 {α : Type} {xs : List α} (h : xs ≠ []) : atI xs (-1) = xs[xs.length - 1]? := by
  unfold atI ixN
  have : 0 < xs.length := by cases xs with | nil => exact absurd rfl h | cons _ _ => simp
  rw [if_neg (by omega), if_pos (by omega)]
  show xs[((-1 : Int) + xs.length).toNat]? = _
  congr 1; omega
end
def Ok {α : Type} (m : Option (α × Sto)) (Q : α → Sto → Prop) : Prop := ∃ a S, m = some (a, S) ∧ Q a S
section
variable {α β : Type} {m : Option (α × Sto)} {Q Q' : α → Sto → Prop}
theorem Ok.mono (h : Ok m Q) (i : ∀ a S, Q a S → Q' a S) : Ok m Q' := let ⟨a, S, e, q⟩ := h; ⟨a, S, e, i a S q⟩
@[simp] theorem Ok_some {a : α} {S : Sto} : Ok (some (a, S)) Q = Q a S := propext ⟨fun ⟨b, T, e, q⟩ => by cases e; exact q, fun q => ⟨a, S, rfl, q⟩⟩
@[simp] theorem Ok_none : Ok none Q = False := propext ⟨fun ⟨b, T, e, q⟩ => (by cases e), False.elim⟩
theorem Ok_bnd {n : Option (β × Sto)} {f : β × Sto → Option (α × Sto)} : Ok (bnd n f) Q = Ok n fun b S => Ok (f (b, S)) Q := propext ⟨fun ⟨a, S, e, q⟩ => by
  obtain ⟨⟨b, T⟩, e1, e2⟩ := bd e
  exact ⟨b, T, e1, a, S, e2, q⟩, fun ⟨b, T, e1, a, S, e2, q⟩ => ⟨a, S, by rw [e1]; exact e2, q⟩⟩
theorem Ok.eq {a : α} {S : Sto} (e : m = some (a, S)) (q : Q a S) : Ok m Q := ⟨a, S, e, q⟩
end
def OkS (m : Option (Fl × En × Sto)) (Q : Fl → En → Sto → Prop) : Prop := ∃ f ρ S, m = some (f, ρ, S) ∧ Q f ρ S
section
variable {α β : Type} {m : Option (Fl × En × Sto)} {Q Q' : Fl → En → Sto → Prop} {R : α → Sto → Prop}
theorem OkS.mono (h : OkS m Q) (i : ∀ f ρ S, Q f ρ S → Q' f ρ S) : OkS m Q' := let ⟨a, b, S, e, q⟩ := h; ⟨a, b, S, e, i a b S q⟩
theorem OkS.eq {f : Fl} {ρ : En} {S : Sto} (e : m = some (f, ρ, S)) (q : Q f ρ S) : OkS m Q := ⟨f, ρ, S, e, q⟩
@[simp] theorem OkS_some {f : Fl} {ρ : En} {S : Sto} : OkS (some (f, ρ, S)) Q = Q f ρ S := propext ⟨fun ⟨_, _, _, e, q⟩ => by cases e; exact q, fun q => ⟨f, ρ, S, rfl, q⟩⟩
theorem Ok_bndS {n : Option (Fl × En × Sto)} {f : Fl × En × Sto → Option (α × Sto)} : Ok (bnd n f) R = OkS n fun a ρ S => Ok (f (a, ρ, S)) R := propext ⟨fun ⟨a, S, e, q⟩ => by
  obtain ⟨⟨b, ρ, T⟩, e1, e2⟩ := bd e
  exact ⟨b, ρ, T, e1, a, S, e2, q⟩, fun ⟨b, ρ, T, e1, a, S, e2, q⟩ => ⟨a, S, by unfold bnd; rw [e1]; exact e2, q⟩⟩
theorem OkS_bnd {n : Option (β × Sto)} {f : β × Sto → Option (Fl × En × Sto)} : OkS (bnd n f) Q = Ok n fun b S => OkS (f (b, S)) Q := propext ⟨fun ⟨a, r, S, e, q⟩ => by
  obtain ⟨⟨b, T⟩, e1, e2⟩ := bd e
  exact ⟨b, T, e1, a, r, S, e2, q⟩, fun ⟨b, T, e1, a, r, S, e2, q⟩ => ⟨a, r, S, by unfold bnd; rw [e1]; exact e2, q⟩⟩
theorem OkS_bndS {n : Option (Fl × En × Sto)} {f : Fl × En × Sto → Option (Fl × En × Sto)} : OkS (bnd n f) Q = OkS n fun b ρ S => OkS (f (b, ρ, S)) Q := propext ⟨fun ⟨a, r, S, e, q⟩ => by
  obtain ⟨⟨b, ρ, T⟩, e1, e2⟩ := bd e
  exact ⟨b, ρ, T, e1, a, r, S, e2, q⟩, fun ⟨b, ρ, T, e1, a, r, S, e2, q⟩ => ⟨a, r, S, by unfold bnd; rw [e1]; exact e2, q⟩⟩
end
end DL
set_option Elab.async false
set_option linter.all false
set_option maxRecDepth 100000
namespace L2
open PySem PySem.Spec PyProof.Rows
section
variable {prog : Program} {w : World} {A : Around} {E : Value → Shared → Prop} {s : Shared} {it t : Addr} {i : Nat} {items : Array Value} {x : Value}
end
section
variable {prog : Program} {w : World} {A : Around} {E : Value → Shared → Prop} {s : Shared} {z TI TO i1 i2 t1 t2 : Addr} {i : Nat} {xs ys : Array Value} {x y : Value}
theorem Tup.keep {h h' : Heap} {t b : Addr} {xs : Array Value} (p : h.IsTuple t xs) (k : Heap.SameBut b h h') (hb : t ≠ b) : h'.IsTuple t xs := let ⟨o, e, r⟩ := p; ⟨o, (k.2 t hb).trans e, r⟩
end
end L2
set_option Elab.async false
set_option linter.all false
set_option maxRecDepth 100000
namespace L2
open PySem PySem.Spec PyProof.Rows
end L2
set_option Elab.async false
set_option linter.all false
set_option maxRecDepth 100000
namespace L2
open PySem PySem.Spec PyProof.Rows
end L2
set_option Elab.async false
set_option linter.all false
set_option maxRecDepth 100000
namespace L2
open PySem PySem.Spec PyProof.Rows
end L2
set_option Elab.async false
set_option linter.all false
set_option maxRecDepth 100000
set_option autoImplicit false
namespace DL
open PySem PySem.Spec PyProof.Rows L2
def zipD : List D → List D → List D
  | x :: xs, y :: ys => .tup [x, y] :: zipD xs ys
  | _, _ => []
def eListZip (t : Av) : Ev := fun ρ S => (t ρ S).bind fun p => match p.1 with
  | [.tup xs, .tup ys] => if xs.length = ys.length then some (.ref p.2.length, p.2 ++ [.lst (zipD xs ys)]) else none
  | _ => none
section
variable {B : Bs} {X : Cx} {a a2 : Expr} {tr : Av} {p pos : Pos}
end
section
variable {ρ : En} {S : Sto} {tr : Av}
def kZip (p : List D × Sto) : Option (D × Sto) := match p.1 with
  | [.tup xs, .tup ys] => if xs.length = ys.length then some (.ref p.2.length, p.2 ++ [.lst (zipD xs ys)]) else none
  | _ => none
@[simp] theorem eListZip_ap : eListZip tr ρ S = bnd (tr ρ S) kZip := id rfl
end
end DL
set_option Elab.async false
set_option linter.all false
set_option maxRecDepth 100000
set_option autoImplicit false
namespace DL
open PySem PySem.Spec PyProof.Rows L2
def mergeD (kvs more : List (Key × D)) : List (Key × D) := more.foldl (fun acc kv => putD acc kv.1 kv.2) kvs
abbrev Pv := En → Sto → Option (List (Key × D) × Sto)
def pNil : Pv := fun _ S => some ([], S)
def pCons (tk tv : Ev) (tr : Pv) : Pv := fun ρ S => (tk ρ S).bind fun p => (keyD p.1).bind fun k => (tv ρ p.2).bind fun q => (tr ρ q.2).bind fun r => some ((k, q.1) :: r.1, r.2)
def upP (K : PySem.W.Frag) (B : Bs) (t : Pv) (σ : L2.St) (H : Hp) (Q : List (V × V) → Hp → Prop) : Prop :=
  ∃ ρ ι S, EnvR K ι H σ ρ ∧ HR K B ι S H ∧ ∃ kvs S', t ρ S = some (kvs, S') ∧ ∀ ws ι' H', Fr ι S H ι' S' H' → RpK K ι' H' kvs ws → HR K B ι' S' H' → Q (ws.map fun kv => (L2.kV kv.1, kv.2)) H'
structure PLP (B : Bs) (X : Cx) (pos : Pos) (keys : List (Option Expr)) (values : List Expr) (t : Pv) : Prop where
  p : ∃ trs, PPs X pos keys values trs ∧ ∀ σ H Q, upP X.K B t σ H Q → tPairs trs σ H Q
section
variable {B : Bs} {X : Cx} {pos : Pos} {keys : List (Option Expr)} {values : List Expr} {k v : Expr} {tk tv : Ev} {tp : Pv}
def eDisp (t : Pv) : Ev := fun ρ S => (t ρ (S ++ [.dic []])).bind fun p => match p.2[S.length]? with
  | some (.dic []) => if p.1.length ≤ 15 then some (.ref S.length, p.2.set S.length (.dic (mergeD [] p.1))) else none
  | _ => none
end
end DL
set_option Elab.async false
set_option linter.all false
set_option maxRecDepth 100000
set_option autoImplicit false
namespace DL
open PySem PySem.Spec PyProof.Rows L2
section
variable {B : Bs} {X : Cx} {e : Expr} {td : Ev} {sts : List Stmt} {t : Sv} {pos : Pos}
end
end DL
set_option Elab.async false
set_option linter.all false
set_option maxRecDepth 100000
set_option autoImplicit false
namespace DL
open PySem PySem.Spec PyProof.Rows L2
section
variable {ρ : En} {S : Sto} {tk tv td : Ev} {tp : Pv} {g : Gv} {t : Sv} {d x : D} {l : Nat} {kvs : List (Key × D)} {k : Key}
def kP1 (tv : Ev) (tr : Pv) (ρ : En) (p : D × Sto) : Option (List (Key × D) × Sto) := (keyD p.1).bind fun k => (tv ρ p.2).bind fun q => (tr ρ q.2).bind fun r => some ((k, q.1) :: r.1, r.2)
def kP2 (tr : Pv) (k : Key) (ρ : En) (q : D × Sto) : Option (List (Key × D) × Sto) := (tr ρ q.2).bind fun r => some ((k, q.1) :: r.1, r.2)
def kP3 (k : Key) (d : D) (r : List (Key × D) × Sto) : Option (List (Key × D) × Sto) := some ((k, d) :: r.1, r.2)
@[simp] theorem pNil_ap : pNil ρ S = some ([], S) := id rfl
@[simp] theorem pCons_ap : pCons tk tv tp ρ S = bnd (tk ρ S) (kP1 tv tp ρ) := id rfl
@[simp] theorem kP1_int {i : Int} : kP1 tv tp ρ (.int i, S) = bnd (tv ρ S) (kP2 tp (.inl i) ρ) := id rfl
@[simp] theorem kP1_str {y : Str} : kP1 tv tp ρ (.str y, S) = bnd (tv ρ S) (kP2 tp (.inr y) ρ) := id rfl
@[simp] theorem kP2_ap : kP2 tp k ρ (d, S) = bnd (tp ρ S) (kP3 k d) := id rfl
@[simp] theorem kP3_ap : kP3 k d (kvs, S) = some ((k, d) :: kvs, S) := id rfl
def kDisp (L : Nat) (p : List (Key × D) × Sto) : Option (D × Sto) := match p.2[L]? with
  | some (.dic []) => if p.1.length ≤ 15 then some (.ref L, p.2.set L (.dic (mergeD [] p.1))) else none
  | _ => none
@[simp] theorem eDisp_ap : eDisp tp ρ S = bnd (tp ρ (S ++ [.dic []])) (kDisp S.length) := id rfl
end
end DL
set_option Elab.async false
set_option linter.all false
set_option maxRecDepth 100000
set_option autoImplicit false
namespace DL
open PySem PySem.Spec PyProof.Rows L2
section
variable {prog : Program} {w : World} {A : Around} {E : Value → Shared → Prop} {s : Shared}
theorem eq_bool {a b : Bool} {Q : Bool → Shared → Prop} (h : Q (decide (a = b)) s) : wpAny (model prog w) A (eqBool (.bool a) (.bool b)) Q E s :=
  PySem.SeqAt.EqAt.bool_bool a b prog w E Q (by cases a <;> cases b <;> exact h)
end
section
variable {prog : Program} {w : World} {K : Type} [DecidableEq K] {knd : HeapKind prog w K} {A : Around} {E : Value → Shared → Prop}
end
end DL
set_option Elab.async false
set_option linter.all false
set_option maxRecDepth 100000
set_option autoImplicit false
namespace DL
open PySem PySem.Spec PyProof.Rows L2
section
variable {X : Cx} {pos apos cpos : Pos}
end
end DL
set_option Elab.async false
set_option linter.all false
set_option maxRecDepth 100000
set_option autoImplicit false
namespace DL
open PySem PySem.Spec PyProof.Rows L2
section
variable {B : Bs} {K : PySem.W.Frag} {ι : Lm} {S : Sto} {H H' : Hp}
theorem Ext.sm (m : Sm H H') : Ext K ι H ι H' := ⟨fun _ _ e => e, fun a vs e => by
  rcases e with (e | ⟨ob, e⟩) | e
  · exact .inl (.inl (m _ _ e))
  · exact .inl (.inr ⟨ob, m _ _ e⟩)
  · exact .inr e, fun c φ e n => ⟨m _ _ e, n⟩⟩
theorem ObR.some {a : Addr} {m : MO} (h : ObR K B ι H a m) : ∃ o, H a = some o := by
  cases m with
  | lst _ => obtain ⟨_, z, _⟩ := h; exact ⟨_, z⟩
  | dic _ => obtain ⟨_, z, _⟩ := h; exact ⟨_, z⟩
  | rol _ => obtain ⟨_, z | ⟨ob, z⟩, _⟩ := h <;> exact ⟨_, z⟩
  | rod _ => obtain ⟨_, z | ⟨ob, z⟩, _⟩ := h <;> exact ⟨_, z⟩
  | x _ => obtain ⟨_, z, _⟩ := ObX.some (show ObX K B ι H a _ from h); exact ⟨_, z⟩
theorem HR.sm (h : HR K B ι S H) (m : Sm H H') (nd : Nd H') : HR K B ι S H' where
  len := h.len
  nodup := h.nodup
  ob := fun l o a e q => by
    have x := h.ob l o a e q
    obtain ⟨u, hu⟩ := x.some
    exact x.ext (.sm m) ((m _ _ hu).trans hu.symm)
  nd := nd
  tb := fun P hP => ⟨(h.tb P hP).1, m _ _ (h.tb P hP).2⟩
theorem Fr.sm (h : HR K B ι S H) (m : Sm H H') : Fr ι S H ι S H' where
  pre := ⟨[], by simp⟩
  hid := fun a u e g => ⟨m _ _ e, g⟩
  rd := fun i k a e r q => by
    obtain ⟨u, hu⟩ := (h.ob i k a e q).some
    exact ⟨(m _ _ hu).trans hu.symm, e⟩
end
section
variable {B : Bs} {X : Cx} {pos apos cpos : Pos} {a b : Expr} {ta tb : Ev}
end
end DL
set_option Elab.async false
set_option linter.all false
set_option maxRecDepth 100000
set_option autoImplicit false
namespace DL
open PySem PySem.Spec PyProof.Rows L2
section
variable {B : Bs} {X : Cx} {pos : Pos} {elt tg iter : Expr} {ifs : List Expr} {scope : Scope} {own : List (Str × Nat)} {td ta : Ev} {g : Gv} {lA : Tv} {sl : List Nat}
end
end DL
set_option Elab.async false
set_option linter.all false
set_option maxRecDepth 100000
set_option autoImplicit false
namespace RevT
open PySem PySem.Spec PyProof.Rows
theorem owner_rv : Manifest.owners.lookup (String.ofList ['d', 'e', 's', 'r', 'e', 'v', 'e', 'r'].reverse) = some Manifest.sig_reversed := by kernel_rfl
theorem slot_next : Slot "reversed" "__next__" "reversed.__next__" :=
  .of (owner := "reversed") (n := "__next__") (by rw [typeLookup_type, builtinLookup_eq_fast]; kernel_rfl) (by decide +kernel) (by decide +kernel) (by decide +kernel)
    (by first | exact .inl (by decide +kernel) | exact .inr (by decide +kernel)) (by rw [isSubtype_type]; kernel_rfl)
theorem slot_iter : Slot "reversed" "__iter__" "reversed.__iter__" :=
  .of (owner := "reversed") (n := "__iter__") (by rw [typeLookup_type, builtinLookup_eq_fast]; kernel_rfl) (by decide +kernel) (by decide +kernel) (by decide +kernel)
    (by first | exact .inl (by decide +kernel) | exact .inr (by decide +kernel)) (by rw [isSubtype_type]; kernel_rfl)
theorem slot_hint : Slot "reversed" "__length_hint__" "reversed.__length_hint__" :=
  .of (owner := "reversed") (n := "__length_hint__") (by rw [typeLookup_type, builtinLookup_eq_fast]; kernel_rfl) (by decide +kernel) (by decide +kernel) (by decide +kernel)
    (by first | exact .inl (by decide +kernel) | exact .inr (by decide +kernel)) (by rw [isSubtype_type]; kernel_rfl)
theorem entry_next : entryFor table "reversed.__next__" = some Builtin.«reversed.__next__» := entryFor_of_tree (by kernel_rfl)
theorem entry_hint : entryFor table "reversed.__length_hint__" = some Builtin.«reversed.__length_hint__» := entryFor_of_tree (by kernel_rfl)
theorem entry_iter : entryFor table "reversed.__iter__" = some Builtin.«dict_keyiterator.__iter__» :=
  entryFor_alias (id' := "dict_keyiterator.__iter__") (by kernel_rfl) (by first | rfl | decide +kernel | (unfold String.splitOn; simp +decide [String.splitOnAux])) (by decide +kernel) (by kernel_rfl)
theorem args_next (a : Value) : argsOk "reversed.__next__" ⟨[a], []⟩ := by
  unfold argsOk; rw [signature?_of (id := "reversed.__next__") (n := ['_', '_', 't', 'x', 'e', 'n', '_', '_']) (o := ['d', 'e', 's', 'r', 'e', 'v', 'e', 'r']) (by kernel_rfl) owner_rv]; kernel_rfl
theorem args_iter (a : Value) : argsOk "reversed.__iter__" ⟨[a], []⟩ := by
  unfold argsOk; rw [signature?_of (id := "reversed.__iter__") (n := ['_', '_', 'r', 'e', 't', 'i', '_', '_']) (o := ['d', 'e', 's', 'r', 'e', 'v', 'e', 'r']) (by kernel_rfl) owner_rv]; kernel_rfl
theorem args_hint (a : Value) : argsOk "reversed.__length_hint__" ⟨[a], []⟩ := by
  unfold argsOk; rw [signature?_of (id := "reversed.__length_hint__") (n := ['_', '_', 't', 'n', 'i', 'h', '_', 'h', 't', 'g', 'n', 'e', 'l', '_', '_']) (o := ['d', 'e', 's', 'r', 'e', 'v', 'e', 'r']) (by kernel_rfl) owner_rv]; kernel_rfl
theorem nolen : typeLookup (.type "reversed") "__len__" = pure none := by rw [typeLookup_type, builtinLookup_eq_fast]; kernel_rfl
theorem tup_norev : typeLookup (.type "tuple") "__reversed__" = pure none := by rw [typeLookup_type, builtinLookup_eq_fast]; kernel_rfl
theorem tup_nodict : isSubtype (.type "tuple") (.type "dict") = pure false := by rw [isSubtype_type]; kernel_rfl
section
variable {prog : Program} {w : World} {A : Around} {E : Value → Shared → Prop} {s : Shared}
def rvObj (t : Addr) (i : Int) : Obj := { cls := .type "reversed", data := .fields #[.ref t, rawInt i] }
def IsRv (h : Heap) (a t : Addr) (i : Int) : Prop := ∃ o, h.get? a = some o ∧ o.cls = .type "reversed" ∧ o.data = .fields #[.ref t, rawInt i]
theorem IsRv.typeIs {a t : Addr} {i : Int} (x : IsRv s.heap a t i) : s.TypeIs (.ref a) "reversed" := let ⟨o, ho, hc, _⟩ := x; ⟨o, ho, hc⟩
theorem IsRv.at {h h' : Heap} {a t : Addr} {i : Int} (x : IsRv h a t i) (e : ∀ o, h.get? a = some o → h'.get? a = some o) : IsRv h' a t i := let ⟨o, ho, r⟩ := x; ⟨o, e _ ho, r⟩
theorem isTup_at {h h' : Heap} {a : Addr} {items : Array Value} (x : IsTup h a items) (e : ∀ o, h.get? a = some o → h'.get? a = some o) : IsTup h' a items := by
  obtain ⟨o, ho, r⟩ := x
  exact ⟨o, e _ ho, r⟩
theorem code_new {t : Addr} {items : Array Value} {Q₁ : Value → Shared → Prop} (ht : IsTup s.heap t items) (hn : items.size ≤ sizeLine)
    (h : ∀ tk, Q₁ (.ref s.heap.objs.size) { s with heap := s.heap.push (rvObj t ((items.size : Int) - 1)), toks := tk }) :
    codeAny (model prog w) A (.call (.builtin "reversed.__new__") ⟨[.type "reversed", .ref t], []⟩) (wants Q₁ E) s := by
  refine codeAny_of_tree ?_
  show wpAny _ A.in1 (do checkBuiltinCall "reversed.__new__" ⟨[.type "reversed", .ref t], []⟩; again (.builtin "reversed.__new__" ⟨[.type "reversed", .ref t], []⟩)) _ _ s
  refine wpAny_bind (wpAny_of_eq (F.newCall_reversed_1 _) (wpAny_pure ⟨plainId_quiet F.plain_reversed_new _, codeAny_builtin F.entry_reversed_new ?_⟩))
  rw [Around.under_plainId F.plain_reversed_new _]
  unfold Builtin.«reversed.__new__»
  refine wpAny_bind (wpAny_of_eq (newClass_reversed _) ?_)
  try dsimp only
  refine wpAny_bind (wpAny_of_eq (a := ()) (by first | rfl | kernel_rfl) ?_)
  refine wpAny_bind (wpAny_of_eq (a := ()) (by first | rfl | kernel_rfl) ?_)
  try dsimp only
  refine wpAny_bind (wpAny_specialOf ht.typeIs tup_norev ?_)
  try dsimp only
  refine wpAny_bind ?_
  wp_delta
  refine wpAny_bind (wpAny_isInstance (T := "tuple") (b := false) ht.typeIs tup_nodict ?_)
  try dsimp only
  first | rw [if_neg (by decide)] | skip
  refine wpAny_bind (wpAny_specialOf ht.typeIs slot_tuple_getitem.lookup ?_)
  try dsimp only
  refine wpAny_ite_true (by decide +kernel) ?_
  refine wpAny_pure ?_
  refine wpAny_ite_false (by decide) ?_
  have sl : sizeLine = 16777216 := rfl
  refine wpAny_bind (len_tuple ht (by omega) ?_)
  refine wpAny_bind (wpAny_of_eq (a := some ((items.size : Nat) : Int)) rfl ?_)
  try dsimp only
  refine wpAny_bind (m := Builtin.SmallTypes.newRecord (Value.type "reversed") [Value.ref t, rawInt ((items.size : Int) - 1)]) ?_
  unfold Builtin.SmallTypes.newRecord
  try dsimp only
  refine wpAny_newObj_type ?_ (by size_fits)
  exact wpAny_pure (h _)
theorem slot_init : Slot "reversed" "__init__" "object.__init__" :=
  .of (owner := "object") (n := "__init__") (by rw [typeLookup_type, builtinLookup_eq_fast]; kernel_rfl) (by decide +kernel) (by decide +kernel) (by decide +kernel)
    (by first | exact .inl (by decide +kernel) | exact .inr (by decide +kernel)) (by rw [isSubtype_type]; kernel_rfl)
theorem called_rv : TypeCalled "reversed" "reversed.__new__" "object.__init__" :=
  ⟨by decide +kernel, by decide +kernel, ⟨_, _, F.mro_reversed⟩, F.made_reversed, by decide +kernel, F.sub_reversed_self, slot_init⟩
theorem call_new {t : Addr} {items : Array Value} {Q : Value → Shared → Prop} (ht : IsTup s.heap t items) (hn : items.size ≤ sizeLine)
    (h : ∀ tk, Q (.ref s.heap.objs.size) { s with heap := s.heap.push (rvObj t ((items.size : Int) - 1)), toks := tk }) : wpAny (model prog w) A (call (.type "reversed") [.ref t]) Q E s := by
  refine callType_codes (Q₁ := fun obj s₁ => s₁.TypeIs obj "reversed" ∧ Q obj s₁) called_rv (F.typeCall_reversed_1 _) F.entry_object_init
    (code_new ht hn fun tk => ⟨⟨_, Heap.get?_push_size _ rfl, rfl⟩, h tk⟩) fun obj s₁ h₁ => ?_
  exact ⟨h₁.1, F.args_object_init_2 obj _, object_init_meets called_rv.init.lookup called_rv.made (by decide) prog w A.in1 _ s₁ ⟨h₁.1, rfl, h₁.2⟩⟩
theorem next_item {it t : Addr} {i : Nat} {items : Array Value} {x : Value} {Q : Option Value → Shared → Prop} (hit : IsRv s.heap it t (i : Int)) (ht : IsTup s.heap t items) (hi62 : (i : Int) < 2 ^ 63) (hx : items[i]? = some x)
    (hQ : ∀ h' tk, IsRv h' it t ((i : Int) - 1) → Heap.SameBut it s.heap h' → Q (some x) { s with heap := h', toks := tk }) : wpAny (model prog w) A (pyNext (.ref it)) Q E s := by
  obtain ⟨o, ho, hc, hd⟩ := id hit
  have hlt : i < items.size := by
    rcases Nat.lt_or_ge i items.size with z | z
    · exact z
    · rw [Array.getElem?_eq_none z] at hx; cases hx
  unfold pyNext
  refine wpAny_bind (wpAny_attempt (wpAny_callSpecial?_slot (name := Str.ofString "__next__") hit.typeIs slot_next
    (wpAny_call_entry slot_next hit.typeIs entry_next ?_ (args_next _))))
  unfold Builtin.«reversed.__next__»
  refine wpAny_bind (wpAny_of_eq (a := (Value.ref it, [])) rfl ?_)
  try dsimp only
  refine wpAny_bind (wpAny_field ho hd (x := .ref t) rfl ?_)
  refine wpAny_bind (wpAny_field ho hd (x := rawInt (i : Int)) rfl ?_)
  try dsimp only [rawInt]
  refine wpAny_ite_false (decide_eq_false (by omega)) ?_
  refine wpAny_bind (wpAny_specialOf ht.typeIs slot_tuple_getitem.lookup ?_)
  refine wpAny_ite_false (by simp) ?_
  refine wpAny_bind (wpAny_mkInt ?_)
  refine wpAny_bind (wpAny_attempt (getItem_tuple (s := { s with toks := s.toks + 1 }) ht (by omega) hi62 (j := i) (x := x) ?_ hx ?_))
  · unfold seqIndex?
    simp
    omega
  try dsimp only
  refine wpAny_bind (wpAny_field (s := { s with toks := s.toks + 1 }) ho hd (x := rawInt (i : Int)) rfl ?_)
  try dsimp only [rawInt]
  refine wpAny_bind (wpAny_setField (s := { s with toks := s.toks + 1 }) ho hd (by simp) ?_)
  first
  | refine wpAny_pure ⟨x, rfl, wpAny_pure (hQ _ _ ?_ (Heap.SameBut.update ..))⟩
  | refine wpAny_bind (wpAny_pure (wpAny_pure ⟨x, rfl, wpAny_pure (hQ _ _ ?_ (Heap.SameBut.update ..))⟩))
  exact ⟨_, Heap.get?_update_self _ ho (Obj.isFreed_of_fields (Obj.data_mapFields hd _)), (Obj.cls_mapFields ..).trans hc, by
    rw [Obj.data_mapFields hd]; simp; rfl⟩
theorem next_end {it t : Addr} {Q : Option Value → Shared → Prop} (hh : A.handled = none) (hit : IsRv s.heap it t (-1))
    (hQ : ∀ h', Heap.ExtBut it s.heap h' → Q none { s with heap := h' }) : wpAny (model prog w) A (pyNext (.ref it)) Q E s := by
  obtain ⟨o, ho, hc, hd⟩ := id hit
  unfold pyNext
  refine wpAny_bind (wpAny_attempt (wpAny_callSpecial?_slot (name := Str.ofString "__next__") hit.typeIs slot_next
    (wpAny_call_entry slot_next hit.typeIs entry_next ?_ (args_next _))))
  unfold Builtin.«reversed.__next__»
  refine wpAny_bind (wpAny_of_eq (a := (Value.ref it, [])) rfl ?_)
  try dsimp only
  refine wpAny_bind (wpAny_field ho hd (x := .ref t) rfl ?_)
  refine wpAny_bind (wpAny_field ho hd (x := rawInt (-1)) rfl ?_)
  try dsimp only [rawInt]
  refine wpAny_ite_true (by decide) ?_
  refine wpAny_bind (wpAny_rule ?_)
  refine wpAny_bind ?_
  wp_delta
  refine wpAny_bind (wpAny_setField ho hd (by simp) ?_)
  have hd2 : (Obj.mapFields (·.setIfInBounds 1 (rawInt (-1))) o).data = .fields #[.ref t, rawInt (-1)] := by rw [Obj.data_mapFields hd]; simp
  have ho2 := Heap.get?_update_self (Obj.mapFields (·.setIfInBounds 1 (rawInt (-1)))) ho (Obj.isFreed_of_fields hd2)
  refine wpAny_setField (s := { s with heap := s.heap.update it (Obj.mapFields (·.setIfInBounds 1 (rawInt (-1)))) }) ho2 hd2 (by simp) ?_
  refine wpAny_bind ?_
  first
  | show wpAny _ _ (newExc (.type "StopIteration") [] >>= _) _ _ _
  | (refine wpAny_bind ?_; show wpAny _ _ (newExc (.type "StopIteration") [] >>= _) _ _ _)
  refine wpAny_bind ?_
  simp only [newExc, newTuple]
  refine wpAny_bind (wpAny_newObj_type ?_ (by size_fits))
  refine wpAny_bind (m := firstArgMember _ _) (wpAny_of_eq (a := Value.none) (by first | rfl | (simp only [firstArgMember]; rfl)) ?_)
  refine wpAny_newObj_type ?_ (by size_fits)
  simp only [raiseNew]
  refine wpAny_bind (wpAny_handled ?_)
  first | rw [show A.in1.handled = none from hh] | rw [hh]
  refine wpAny_bind (wpAny_pure (wpAny_throw ?_))
  refine wpAny_bind (wpAny_isInstance (T := "StopIteration") (b := true) ⟨_, Heap.get?_push_size _ rfl, rfl⟩ isSubtype_stop ?_)
  refine wpAny_pure (hQ _ (((?_ : Heap.ExtBut it s.heap _).push _).push _))
  intro b ob hb e
  exact (Heap.get?_update_other _ _ (Ne.symm hb)).trans ((Heap.get?_update_other _ _ (Ne.symm hb)).trans e)
theorem py_iter {it t : Addr} {i : Int} {Q : Value → Shared → Prop} (hit : IsRv s.heap it t i) (h : Q (.ref it) s) : wpAny (model prog w) A (pyIter (.ref it)) Q E s := by
  refine wpAny_pyIter_slot hit.typeIs slot_iter (wpAny_call_entry slot_iter hit.typeIs entry_iter ?_ (args_iter _))
  show wpAny _ _ (ret (.ref it)) _ _ s
  exact wpAny_pure ⟨_, rfl, "reversed", _, hit.typeIs, slot_next.lookup, h⟩
theorem call_hint {it t : Addr} {items : Array Value} {Q : Value → Shared → Prop} (hit : IsRv s.heap it t ((items.size : Int) - 1)) (ht : IsTup s.heap t items) (hn : items.size ≤ sizeLine)
    (h : ∀ tk tk', Q (.int (items.size : Nat) tk) { s with toks := tk' }) : wpAny (model prog w) A (call (.builtin "reversed.__length_hint__") [.ref it]) Q E s := by
  obtain ⟨o, ho, hc, hd⟩ := id hit
  have sl : sizeLine = 16777216 := rfl
  refine wpAny_call_entry slot_hint hit.typeIs entry_hint ?_ (args_hint _)
  unfold Builtin.«reversed.__length_hint__»
  refine wpAny_bind (wpAny_of_eq (a := Value.ref it) rfl ?_)
  refine wpAny_bind (wpAny_field ho hd (x := .ref t) rfl ?_)
  refine wpAny_ite_false (by rfl) ?_
  refine wpAny_bind (len_tuple ht (by omega) ?_)
  refine wpAny_bind (wpAny_of_eq (a := some ((items.size : Nat) : Int)) rfl ?_)
  try dsimp only
  refine wpAny_bind (wpAny_field (s := { s with toks := s.toks + 1 + 1 }) ho hd (x := rawInt ((items.size : Int) - 1)) rfl ?_)
  try dsimp only [rawInt]
  refine wpAny_ite_false (decide_eq_false (by omega)) ?_
  refine wpAny_bind (wpAny_mkInt (wpAny_pure ⟨_, rfl, ?_⟩))
  rw [show (items.size : Int) - 1 + 1 = (items.size : Int) by omega]
  exact h _ _
end
theorem walks {prog : Program} {w : World} {A : Around} (hh : A.handled = none) (I t : Addr) (hne : t ≠ I) (items : Array Value) (hn : items.size ≤ sizeLine) :
    Walks prog w A I [I, t] [I] items.size (fun i v => items[items.size - 1 - i]? = some v) (fun i h => i ≤ items.size ∧ IsRv h I t ((items.size : Int) - 1 - (i : Int)) ∧ IsTup h t items) where
  sub := fun b hb => by simp at hb; simp [hb]
  frame := fun _ _ _ x hk => ⟨x.1, x.2.1.at fun o e => hk I (by simp) o e, isTup_at x.2.2 fun o e => hk t (by simp) o e⟩
  item := fun i s Q E hi x hQ => by
    have sl : sizeLine = 16777216 := rfl
    have e : (items.size : Int) - 1 - (i : Int) = ((items.size - 1 - i : Nat) : Int) := by omega
    have hit := x.2.1
    rw [e] at hit
    have hx : items[items.size - 1 - i]? = some (items[items.size - 1 - i]'(by omega)) := Array.getElem?_eq_getElem (by omega)
    refine next_item hit x.2.2 (by omega) hx fun h' tk hit' hs' => ?_
    have e2 : ((items.size - 1 - i : Nat) : Int) - 1 = (items.size : Int) - 1 - ((i + 1 : Nat) : Int) := by omega
    rw [e2] at hit'
    exact hQ _ h' tk hx ⟨hi, hit', isTup_at x.2.2 fun o eo => (hs'.2 t hne).trans eo⟩ fun b o hb eo => hs'.extBut b o (fun h => hb (by simp [h])) eo
  done := fun s Q E x hQ => by
    have e : (items.size : Int) - 1 - (items.size : Int) = -1 := by omega
    have hit := x.2.1
    rw [e] at hit
    exact next_end hh hit fun h' he' => hQ h' s.toks fun b o hb eo => he' b o (fun h => hb (by simp [h])) eo
  self := fun _ _ _ _ x hQ => py_iter x.2.1 hQ
end RevT
set_option Elab.async false
set_option linter.all false
set_option maxRecDepth 100000
set_option autoImplicit false
namespace L2
open PySem PySem.Spec PyProof.Rows
theorem rev_nolen : typeLookup (.type "list_reverseiterator") "__len__" = pure none := by rw [typeLookup_type, builtinLookup_eq_fast]; kernel_rfl
theorem rev_hint : typeLookup (.type "list_reverseiterator") "__length_hint__" = pure (some (.builtin "list_reverseiterator.__length_hint__")) := by rw [typeLookup_type, builtinLookup_eq_fast]; kernel_rfl
theorem sub_rev_self : isSubtype (.type "list_reverseiterator") (.type "list_reverseiterator") = pure true := by rw [isSubtype_type]; kernel_rfl
section
variable {prog : Program} {w : World} {A : Around} {E : Value → Shared → Prop} {s : Shared}
theorem extend_rev {R : Result → Shared → Prop} (hh : A.handled = none) {I l S : Addr} {items : Array Value} (res : Value) (c₀ : Nat) (hS : s.heap.get? S = some { cls := .type "list", data := .seq #[] c₀ }) (hI : s.heap.IsRevIter I l ((items.size : Int) - 1)) (hl : s.heap.IsList l items) (hlI : l ≠ I) (hSI : S ≠ I) (hSl : S ≠ l)
    (hR : ∀ h' tk acc' c', (∀ b o, b ≠ S → b ≠ I → s.heap.get? b = some o → h'.get? b = some o) → h'.get? S = some { cls := .type "list", dict := none, data := .seq acc' c', slots := #[] } →
      ItemsOf (fun i v => items[items.size - 1 - i]? = some v) acc' items.size → R (.ok (.ret res)) { s with heap := h', toks := tk }) (hn : items.size ≤ sizeLine) :
    wpAny (model prog w) A.in1 (Builtin.List.listExtendWith (.ref S) (.ref I) res)
      (fun fin s' => match fin with | .done f => R (.ok f) s' | .again c' => c'.quiet = true ∧ codeAny (model prog w) A c' R s') (fun e s' => R (.error e) s') s := by
  have hT := hI.typeIs
  unfold Builtin.List.listExtendWith
  refine wpAny_bind (wpAny_typeOf hT ?_)
  have h1 : Builtin.List.listSameRef (.ref S) (.ref I) = false := by simp [Builtin.List.listSameRef, hSI]
  have h2 : (Value.type "list_reverseiterator" == Value.type "list") = false := by decide
  have h3 : (Value.type "list_reverseiterator" == Value.type "tuple") = false := by decide
  simp only [h1, h2, h3, Bool.or_false, Bool.false_eq_true, if_false]
  refine wpAny_bind (wpAny_pyIter_revIter hI ?_)
  refine wpAny_bind (wpAny_holding ?_)
  unfold Builtin.List.listLengthHint
  refine wpAny_bind (wpAny_specialOf hT rev_nolen ?_)
  wp_delta
  refine wpAny_bind (wpAny_specialOf hT rev_hint ?_)
  wp_delta
  refine wpAny_bind (wpAny_isInstance (T := "list_reverseiterator") (b := true) hT sub_rev_self ?_)
  rw [if_neg (by decide)]
  refine wpAny_ite_true (by decide +kernel) ?_
  refine wpAny_ite_false (by decide +kernel) ?_
  refine wpAny_pure ?_
  refine wpAny_ite_false (by decide +kernel) ?_
  have hI0 : s.heap.IsRevIter I l ((items.size : Int) - 1 - ((0 : Nat) : Int)) := by simpa using hI
  refine wpAny_pure ⟨plainId_quiet F.plain_extend_loop _, codeAny_extend_loopS (Walks.listRev (A := A.in1) hh I l hlI items).toS hn S (by simp; exact ⟨hSI, hSl⟩) _ items.size 0 _ _ _ rfl (Nat.zero_le _) ⟨Nat.zero_le _, hI0, hl⟩ hS (ItemsOf.nil _) fun s' acc' c' hm hS' hacc => ?_⟩
  rw [Moved.eq_with hm]
  exact hR s'.heap s'.toks acc' c' (fun b ob hb hb2 e => hm.heap b ob (by simp; exact ⟨hb, hb2⟩) e) hS' hacc
theorem call_list_rev {Q : Value → Shared → Prop} (hh : A.handled = none) {I l : Addr} {items : Array Value} (hI : s.heap.IsRevIter I l ((items.size : Int) - 1)) (hl : s.heap.IsList l items) (hlI : l ≠ I) (hn : items.size ≤ sizeLine)
    (hQ : ∀ h' tk acc' c', (∀ b o, b ≠ I → s.heap.get? b = some o → h'.get? b = some o) →
      h'.get? s.heap.objs.size = some { cls := .type "list", dict := none, data := .seq acc' c', slots := #[] } → ItemsOf (fun i v => items[items.size - 1 - i]? = some v) acc' items.size → Q (.ref s.heap.objs.size) { s with heap := h', toks := tk }) :
    wpAny (model prog w) A (call (.type "list") [.ref I]) Q E s := by
  have lI : I < s.heap.objs.size := by obtain ⟨o, ho, _⟩ := hI; exact Heap.lt_size ho
  have ll : l < s.heap.objs.size := by obtain ⟨n, e, _⟩ := hl; exact Heap.lt_size e
  refine callType_codes (Q₁ := fun obj s₁ => obj = .ref s.heap.objs.size ∧ s₁ = { s with heap := s.heap.push { cls := .type "list", data := .seq #[] } }) F.called_list (F.typeCall_list_1 _) F.entry_list_init
    (code_list_new _ ⟨rfl, rfl⟩) fun obj s₁ h₁ => ?_
  obtain ⟨rfl, rfl⟩ := h₁
  have hS : (s.heap.push { cls := .type "list", data := .seq #[] }).get? s.heap.objs.size = some { cls := .type "list", data := .seq #[] } := Heap.get?_push_size _ rfl
  refine ⟨⟨_, hS, rfl⟩, F.args_list_init_2 _ _, ?_⟩
  show wpAny _ A.in1.in1 (do let old ← Builtin.List.listItems (.ref s.heap.objs.size); Builtin.List.listUpdate (.ref s.heap.objs.size) (fun _ => #[]); letGo old.toList.reverse; Builtin.List.listExtendWith (.ref s.heap.objs.size) (.ref I) .none) _ _ _
  refine wpAny_bind ?_
  unfold Builtin.List.listItems
  refine wpAny_bind (wpAny_seqItems hS rfl (wpAny_pure ?_))
  show wpAny _ A.in1.in1 (updateSeq s.heap.objs.size (fun _ => #[]) >>= fun _ => letGo (#[] : Array Value).toList.reverse >>= fun _ => Builtin.List.listExtendWith (.ref s.heap.objs.size) (.ref I) .none) _ _ _
  refine wpAny_bind (wpAny_updateSeq hS rfl ?_)
  have hS₂ := Heap.get?_update_self (Obj.mapSeq (fun _ => (#[] : Array Value))) hS rfl
  have oth : ∀ b o, b ≠ s.heap.objs.size → s.heap.get? b = some o → ((s.heap.push { cls := .type "list", data := .seq #[] }).update s.heap.objs.size (Obj.mapSeq (fun _ => (#[] : Array Value)))).get? b = some o :=
    fun b o hb e => (Heap.get?_update_other _ _ (Ne.symm hb)).trans (Heap.get?_push_of_some _ e)
  refine wpAny_bind (wpAny_letGo ?_)
  refine extend_rev (A := A.in1) (R := wants (fun r s₂ => r = .none ∧ Q (.ref s.heap.objs.size) s₂) E) hh (items := items) .none _ hS₂ (hI.at fun o e => oth _ _ (Nat.ne_of_lt lI) e) (hl.at fun o e => oth _ _ (Nat.ne_of_lt ll) e) hlI (Nat.ne_of_gt lI) (Nat.ne_of_gt ll) (fun h' tk acc' c' k hS' hacc => ⟨rfl, hQ h' tk acc' c' (fun b o hb e => k b o (Nat.ne_of_lt (Heap.lt_size e)) hb (oth b o (Nat.ne_of_lt (Heap.lt_size e)) e)) hS' hacc⟩) hn
theorem extend_rv {R : Result → Shared → Prop} (hh : A.handled = none) {I l S : Addr} {items : Array Value} (res : Value) (c₀ : Nat) (hS : s.heap.get? S = some { cls := .type "list", data := .seq #[] c₀ }) (hI : RevT.IsRv s.heap I l ((items.size : Int) - 1)) (hl : IsTup s.heap l items) (hlI : l ≠ I) (hSI : S ≠ I) (hSl : S ≠ l)
    (hR : ∀ h' tk acc' c', (∀ b o, b ≠ S → b ≠ I → s.heap.get? b = some o → h'.get? b = some o) → h'.get? S = some { cls := .type "list", dict := none, data := .seq acc' c', slots := #[] } →
      ItemsOf (fun i v => items[items.size - 1 - i]? = some v) acc' items.size → R (.ok (.ret res)) { s with heap := h', toks := tk }) (hn : items.size ≤ sizeLine) :
    wpAny (model prog w) A.in1 (Builtin.List.listExtendWith (.ref S) (.ref I) res)
      (fun fin s' => match fin with | .done f => R (.ok f) s' | .again c' => c'.quiet = true ∧ codeAny (model prog w) A c' R s') (fun e s' => R (.error e) s') s := by
  have hn' : items.size ≤ 16777216 := hn
  have hT := hI.typeIs
  unfold Builtin.List.listExtendWith
  refine wpAny_bind (wpAny_typeOf hT ?_)
  have h1 : Builtin.List.listSameRef (.ref S) (.ref I) = false := by simp [Builtin.List.listSameRef, hSI]
  have h2 : (Value.type "reversed" == Value.type "list") = false := by decide
  have h3 : (Value.type "reversed" == Value.type "tuple") = false := by decide
  simp only [h1, h2, h3, Bool.or_false, Bool.false_eq_true, if_false]
  refine wpAny_bind (RevT.py_iter hI ?_)
  refine wpAny_bind (wpAny_holding ?_)
  unfold Builtin.List.listLengthHint
  refine wpAny_bind (wpAny_specialOf hT RevT.nolen ?_)
  wp_delta
  refine wpAny_bind (wpAny_specialOf hT RevT.slot_hint.lookup ?_)
  wp_delta
  refine wpAny_bind (wpAny_isInstance (T := "reversed") (b := true) hT F.sub_reversed_self ?_)
  rw [if_neg (by decide)]
  refine wpAny_ite_false (by decide +kernel) ?_
  refine wpAny_bind (wpAny_rule ?_)
  refine wpAny_bind (wpAny_of_eq (RevT.slot_hint.bind _) ?_)
  try dsimp only
  refine wpAny_bind (wpAny_attempt (RevT.call_hint hI hl hn fun tk tk' => ?_))
  try dsimp only
  have ai : asInt? (Value.int ((items.size : Nat) : Int) tk) = pure (some ((items.size : Nat) : Int)) := rfl
  simp only [ai, pure_bind]
  have fits : Builtin.List.listFitsIndex ((items.size : Nat) : Int) = true := by
    unfold Builtin.List.listFitsIndex
    rw [Bool.and_eq_true]
    exact ⟨decide_eq_true (by omega), decide_eq_true (by omega)⟩
  rw [fits]
  refine wpAny_ite_false (by rfl) ?_
  refine wpAny_ite_false (decide_eq_false (by omega)) ?_
  have tl : Builtin.List.listTooLong ((items.size : Nat) : Int).toNat = false := by
    unfold Builtin.List.listTooLong
    rw [Int.toNat_natCast]
    exact decide_eq_false (by omega)
  rw [tl]
  refine wpAny_ite_false (by rfl) ?_
  refine wpAny_pure ?_
  clear hn' fits tl
  have hI0 : RevT.IsRv s.heap I l ((items.size : Int) - 1 - ((0 : Nat) : Int)) := by simpa using hI
  have W := RevT.walks (prog := prog) (w := w) (A := A.in1) hh I l hlI items hn
  have key : ∀ (h : Heap) (c₁ tk : Nat), RevT.IsRv h I l ((items.size : Int) - 1 - ((0 : Nat) : Int)) → IsTup h l items → (∀ b o, b ≠ S → s.heap.get? b = some o → h.get? b = some o) →
      h.get? S = some { cls := .type "list", data := .seq #[] c₁ } → codeAny (model prog w) A (.builtin "list.extend.loop" ⟨[.ref S, .ref I, res], []⟩) R { s with heap := h, toks := tk } := by
    intro h c₁ tk hi0 hl0 hk' hS₁
    refine codeAny_extend_loopS W.toS hn S (by simp; exact ⟨hSI, hSl⟩) res items.size 0 _ #[] c₁ rfl (Nat.zero_le _) ⟨Nat.zero_le _, hi0, hl0⟩ hS₁ (ItemsOf.nil _) fun s' acc' c' hm hS' hacc => ?_
    rw [Moved.eq_with hm]
    exact hR s'.heap s'.toks acc' c' (fun b ob hb hb2 e => hm.heap b ob (by simp; exact ⟨hb, hb2⟩) (hk' b ob hb e)) hS' hacc
  refine wpAny_ite_split (fun _ => ?_) (fun _ => wpAny_pure ⟨plainId_quiet F.plain_extend_loop _, key s.heap c₀ tk' hI0 hl (fun b o _ e => e) hS⟩)
  refine wpAny_bind (wpAny_rule ?_)
  refine wpAny_bind ?_
  show wpAny _ _ (updateSeq S (·.push .none) >>= fun _ => updateSeq S (·.pop)) _ _ _
  refine wpAny_bind (wpAny_updateSeq (s := { s with toks := tk' }) hS rfl ?_)
  have hS₂ := Heap.get?_update_self (Obj.mapSeq (·.push Value.none)) hS rfl
  refine wpAny_updateSeq (hz := by seq_fits) hS₂ rfl ?_
  have hS₃ := Heap.get?_update_self (Obj.mapSeq (·.pop)) hS₂ rfl
  have oth : ∀ b o, b ≠ S → s.heap.get? b = some o → ((s.heap.update S (Obj.mapSeq (·.push Value.none))).update S (Obj.mapSeq (·.pop))).get? b = some o :=
    fun b o hb e => (Heap.get?_update_other _ _ (Ne.symm hb)).trans ((Heap.get?_update_other _ _ (Ne.symm hb)).trans e)
  exact wpAny_pure ⟨plainId_quiet F.plain_extend_loop _, key _ _ tk' (hI0.at fun o e => oth _ _ (Ne.symm hSI) e) (RevT.isTup_at hl fun o e => oth _ _ (Ne.symm hSl) e) oth hS₃⟩
theorem call_list_rv {Q : Value → Shared → Prop} (hh : A.handled = none) {I l : Addr} {items : Array Value} (hI : RevT.IsRv s.heap I l ((items.size : Int) - 1)) (hl : IsTup s.heap l items) (hlI : l ≠ I) (hn : items.size ≤ sizeLine)
    (hQ : ∀ h' tk acc' c', (∀ b o, b ≠ I → s.heap.get? b = some o → h'.get? b = some o) →
      h'.get? s.heap.objs.size = some { cls := .type "list", dict := none, data := .seq acc' c', slots := #[] } → ItemsOf (fun i v => items[items.size - 1 - i]? = some v) acc' items.size → Q (.ref s.heap.objs.size) { s with heap := h', toks := tk }) :
    wpAny (model prog w) A (call (.type "list") [.ref I]) Q E s := by
  have lI : I < s.heap.objs.size := by obtain ⟨o, ho, _⟩ := hI; exact Heap.lt_size ho
  have ll : l < s.heap.objs.size := by obtain ⟨o, ho, _⟩ := hl; exact Heap.lt_size ho
  refine callType_codes (Q₁ := fun obj s₁ => obj = .ref s.heap.objs.size ∧ s₁ = { s with heap := s.heap.push { cls := .type "list", data := .seq #[] } }) F.called_list (F.typeCall_list_1 _) F.entry_list_init
    (code_list_new _ ⟨rfl, rfl⟩) fun obj s₁ h₁ => ?_
  obtain ⟨rfl, rfl⟩ := h₁
  have hS : (s.heap.push { cls := .type "list", data := .seq #[] }).get? s.heap.objs.size = some { cls := .type "list", data := .seq #[] } := Heap.get?_push_size _ rfl
  refine ⟨⟨_, hS, rfl⟩, F.args_list_init_2 _ _, ?_⟩
  show wpAny _ A.in1.in1 (do let old ← Builtin.List.listItems (.ref s.heap.objs.size); Builtin.List.listUpdate (.ref s.heap.objs.size) (fun _ => #[]); letGo old.toList.reverse; Builtin.List.listExtendWith (.ref s.heap.objs.size) (.ref I) .none) _ _ _
  refine wpAny_bind ?_
  unfold Builtin.List.listItems
  refine wpAny_bind (wpAny_seqItems hS rfl (wpAny_pure ?_))
  show wpAny _ A.in1.in1 (updateSeq s.heap.objs.size (fun _ => #[]) >>= fun _ => letGo (#[] : Array Value).toList.reverse >>= fun _ => Builtin.List.listExtendWith (.ref s.heap.objs.size) (.ref I) .none) _ _ _
  refine wpAny_bind (wpAny_updateSeq hS rfl ?_)
  have hS₂ := Heap.get?_update_self (Obj.mapSeq (fun _ => (#[] : Array Value))) hS rfl
  have oth : ∀ b o, b ≠ s.heap.objs.size → s.heap.get? b = some o → ((s.heap.push { cls := .type "list", data := .seq #[] }).update s.heap.objs.size (Obj.mapSeq (fun _ => (#[] : Array Value)))).get? b = some o :=
    fun b o hb e => (Heap.get?_update_other _ _ (Ne.symm hb)).trans (Heap.get?_push_of_some _ e)
  refine wpAny_bind (wpAny_letGo ?_)
  refine extend_rv (A := A.in1) (R := wants (fun r s₂ => r = .none ∧ Q (.ref s.heap.objs.size) s₂) E) hh (items := items) .none _ hS₂ (hI.at fun o e => oth _ _ (Nat.ne_of_lt lI) e) (RevT.isTup_at hl fun o e => oth _ _ (Nat.ne_of_lt ll) e) hlI (Nat.ne_of_gt lI) (Nat.ne_of_gt ll) (fun h' tk acc' c' k hS' hacc => ⟨rfl, hQ h' tk acc' c' (fun b o hb e => k b o (Nat.ne_of_lt (Heap.lt_size e)) hb (oth b o (Nat.ne_of_lt (Heap.lt_size e)) e)) hS' hacc⟩) hn
end
theorem boot_rev' : bootBuiltins "reversed" = some (.type "reversed") := by decide +kernel
def tListRev (K : PySem.W.Frag) (te : TE) : TE := fun σ H Q => te σ H fun x H1 => ∃ a xs, x = .ref a ∧ (SqL K H1 a xs ∨ SqT K H1 a xs) ∧ ∀ l, H1 l = none → Q (.ref l) (upd H1 l (.lst xs.reverse))
theorem pe_listRev {X : Cx} {e : Expr} {te : TE} {p p2 pos pos2 : Pos} (hc : X.calm = true) (hgl : Gl X "list") (hml : X.mg "list" = none) (hge : Gl X "reversed") (hme : X.mg "reversed" = none) (he : PE X e te)
    (hs : starEach [e] X.env = [(false, eval e X.env)] := by rfl) (hs2 : starEach [.Call (.Name "reversed" p2) [e] [] pos2] X.env = [(false, eval (.Call (.Name "reversed" p2) [e] [] pos2) X.env)] := by rfl) :
    PE X (.Call (.Name "list" p) [.Call (.Name "reversed" p2) [e] [] pos2] [] pos) (tListRev X.K te) := by
  intro pins s σ H Q I h
  refine wpAny_Call_Name_kw (ld_blt I hgl hml boot_list' ?_ (by decide) (by decide))
  refine PyProof.Rows.callWith_type1 ?_ hs2 rfl
  rw [hs2]
  refine Calls.spliced_cons ?_
  refine wpAny_Call_Name_kw (ld_blt I hge hme boot_rev' ?_ (by decide) (by decide))
  refine PyProof.Rows.callWith_type1 ?_ hs rfl
  rw [hs]
  refine Calls.spliced_cons (thn (he pins s σ H _ I h) fun u s1 ⟨x, H1, I1, r1, q1⟩ => Calls.spliced_nil ?_)
  obtain ⟨a, xs, rfl, hq, q⟩ := q1
  cases r1
  have vrev : ∀ {vs : List V} {us : List Value}, Vals vs us → Vals vs.reverse us.reverse := fun {vs us} r => by
    have app : ∀ {a b : List V} {c d : List Value}, Vals a c → Vals b d → Vals (a ++ b) (c ++ d) := fun {a b c d} r1 r2 => by
      induction r1 with
      | nil => exact r2
      | cons h t ih => exact .cons h ih
    induction r with
    | nil => exact .nil
    | cons h t ih => rw [List.reverse_cons, List.reverse_cons]; exact app ih (.cons h .nil)
  have erev : ∀ {its : List Value} {acc' : Array Value}, ItemsOf (fun i v => its.toArray[its.toArray.size - 1 - i]? = some v) acc' its.toArray.size → acc'.toList = its.reverse := fun {its acc'} hacc => by
    apply List.ext_getElem?
    intro j
    by_cases hj : j < its.length
    · have hj' : j < acc'.size := by rw [hacc.1]; simpa using hj
      have := hacc.2 j _ (Array.getElem?_eq_getElem hj')
      rw [Array.getElem?_toList, Array.getElem?_eq_getElem hj', List.getElem?_reverse hj]
      simpa using this.symm
    · rw [List.getElem?_eq_none (by rw [Array.length_toList, hacc.1]; simpa using hj), List.getElem?_eq_none (by simpa using hj)]
  have fI := I1.fpOk (H' := H1) (b := s1.heap.objs.size) (Nat.le_refl _) (I1.hok.fresh (Nat.le_refl _))
  rcases hq with hq | hq
  · obtain ⟨its, rv, pl, hzz⟩ := I1.list hq
    have hlen := rv.length
    refine call_reversed_list pl.isList ?_
    refine Calls.spliced_nil ?_
    have al : a < s1.heap.objs.size := by obtain ⟨n, e, _⟩ := pl.isList; exact Heap.lt_size e
    have I2 : Inv X pins σ H1 { s1 with heap := s1.heap.push (revObj a ((its.toArray.size : Int) - 1)) } := I1.kept (t' := s1.toks) fun b ob e => Heap.get?_push_of_some _ e
    have hsz : (s1.heap.push (revObj a ((its.toArray.size : Int) - 1))).objs.size = s1.heap.objs.size + 1 := Heap.size_push ..
    refine call_list_rev (I1.ok.hd hc) (I := s1.heap.objs.size) (l := a) (items := its.toArray) ⟨_, Heap.get?_push_size _ rfl, rfl, rfl⟩ (pl.isList.at fun o e => Heap.get?_push_of_some _ e) (Nat.ne_of_lt al) (by rw [List.size_toArray]; omega) fun h' tk acc' c' k hS' hacc => ?_
    have eacc := erev hacc
    refine ⟨.ref (s1.heap.push (revObj a ((its.toArray.size : Int) - 1))).objs.size, _, I2.laidT (t' := tk) (ch := [s1.heap.objs.size]) (o := .lst xs.reverse) (fun b hb => by rw [List.mem_singleton.mp hb]; exact fI) (fun b o hb e => k b o (by simpa using hb) e) (Nat.le_refl _) ⟨by rw [List.length_reverse]; exact hzz, its.reverse, c', vrev rv, ?_⟩, rfl, q _ (I1.hok.fresh (by rw [hsz]; exact Nat.le_succ _))⟩
    rw [hS', ← eacc]
  · obtain ⟨its, rv, pl, hzz⟩ := I1.tuple hq
    have hlen := rv.length
    refine RevT.call_new pl (by rw [List.size_toArray]; omega) fun tk0 => ?_
    refine Calls.spliced_nil ?_
    have al : a < s1.heap.objs.size := by obtain ⟨o, e, _⟩ := pl; exact Heap.lt_size e
    have I2 : Inv X pins σ H1 { s1 with heap := s1.heap.push (RevT.rvObj a ((its.toArray.size : Int) - 1)), toks := tk0 } := I1.kept (t' := tk0) fun b ob e => Heap.get?_push_of_some _ e
    have hsz : (s1.heap.push (RevT.rvObj a ((its.toArray.size : Int) - 1))).objs.size = s1.heap.objs.size + 1 := Heap.size_push ..
    refine call_list_rv (s := { s1 with heap := s1.heap.push (RevT.rvObj a ((its.toArray.size : Int) - 1)), toks := tk0 }) (I1.ok.hd hc) (I := s1.heap.objs.size) (l := a) (items := its.toArray) ⟨_, Heap.get?_push_size _ rfl, rfl, rfl⟩ (RevT.isTup_at pl fun o e => Heap.get?_push_of_some _ e) (Nat.ne_of_lt al) (by rw [List.size_toArray]; omega) fun h' tk acc' c' k hS' hacc => ?_
    have eacc := erev hacc
    refine ⟨.ref (s1.heap.push (RevT.rvObj a ((its.toArray.size : Int) - 1))).objs.size, _, I2.laidT (t' := tk) (ch := [s1.heap.objs.size]) (o := .lst xs.reverse) (fun b hb => by rw [List.mem_singleton.mp hb]; exact fI) (fun b o hb e => k b o (by simpa using hb) e) (Nat.le_refl _) ⟨by rw [List.length_reverse]; exact hzz, its.reverse, c', vrev rv, ?_⟩, rfl, q _ (I1.hok.fresh (by rw [hsz]; exact Nat.le_succ _))⟩
    rw [hS', ← eacc]
end L2
namespace DL
open PySem L2
section
variable {B : Bs} {X : Cx} {a : Expr} {ta : Ev} {p pos : Pos}
def eListRev (ta : Ev) : Ev := fun ρ S => (ta ρ S).bind fun p => (seqD p.2 p.1).bind fun xs => some (.ref p.2.length, p.2 ++ [.lst xs.reverse])
theorem llistRev {p2 pos2 : Pos} (hc : X.calm = true) (hgl : Gl X "list") (hml : X.mg "list" = none) (hge : Gl X "reversed") (hme : X.mg "reversed" = none) (ha : PL B X a ta)
    (hs : starEach [a] X.env = [(false, eval a X.env)] := by rfl) (hs2 : starEach [.Call (.Name "reversed" p2) [a] [] pos2] X.env = [(false, eval (.Call (.Name "reversed" p2) [a] [] pos2) X.env)] := by rfl) :
    PL B X (.Call (.Name "list" p) [.Call (.Name "reversed" p2) [a] [] pos2] [] pos) (eListRev ta) :=
  PL.wk (pe_listRev hc hgl hml hge hme ha.p hs hs2) fun σ H Q ⟨ρ, ι, S, er, hr, d, S', h, q⟩ => by
    obtain ⟨⟨x, S1⟩, h1, h⟩ := bd h
    obtain ⟨xs, e, h⟩ := bd h
    cases h
    refine up_then er hr h1 fun v ι1 H1 f1 er1 r1 hr1 => ?_
    obtain ⟨a1, vs, rfl, hq, rr⟩ := seqD_some hr1 r1 e
    exact ⟨a1, vs, rfl, hq, fun p n => (q.fr f1).lst hr1 rr.rev n⟩
variable {ρ : En} {S : Sto}
def kLRev (p : D × Sto) : Option (D × Sto) := (seqD p.2 p.1).bind fun xs => some (.ref p.2.length, p.2 ++ [.lst xs.reverse])
@[simp] theorem eListRev_ap : eListRev ta ρ S = bnd (ta ρ S) kLRev := id rfl
theorem kLRev_tup {xs : List D} : kLRev (.tup xs, S) = some (.ref S.length, S ++ [.lst xs.reverse]) := rfl
end
end DL
set_option Elab.async false
set_option linter.all false
set_option maxRecDepth 100000
set_option autoImplicit false
namespace L2
open PySem PySem.Spec PyProof.Rows
def pickL {α : Type} (xs : List α) (lo hi st : Option Int) : List α := (sliceRange (sliceBounds lo hi st xs.length).1 (sliceBounds lo hi st xs.length).2.1 (sliceBounds lo hi st xs.length).2.2).filterMap (xs[·]?)
end L2
namespace DL
open PySem L2
section
variable {B : Bs} {X : Cx} {a : Expr} {ta : Ev} {p pos p2 : Pos} {lo hi : Option Expr} {st : Expr} {tl th ts : Ov}
def slD3 (x : D) (lo hi st : Option Int) (S : Sto) : Option (D × Sto) := match x with
  | .ref l => if st = some 0 then none else (rdL S l).map fun xs => (.ref S.length, S ++ [.lst (pickL xs lo hi st)])
  | _ => none
def eSl3 (t : Ev) (lo hi st : Ov) : Ev := fun ρ S => (t ρ S).bind fun p => (lo ρ p.2).bind fun q => (hi ρ q.2).bind fun r => (st ρ r.2).bind fun c => slD3 p.1 q.1 r.1 c.1 c.2
variable {ρ : En} {S : Sto} {x : D}
def kS31 (lo hi st : Ov) (ρ : En) (p : D × Sto) : Option (D × Sto) := (lo ρ p.2).bind fun q => (hi ρ q.2).bind fun r => (st ρ r.2).bind fun c => slD3 p.1 q.1 r.1 c.1 c.2
def kS32 (hi st : Ov) (ρ : En) (x : D) (q : Option Int × Sto) : Option (D × Sto) := (hi ρ q.2).bind fun r => (st ρ r.2).bind fun c => slD3 x q.1 r.1 c.1 c.2
def kS33 (st : Ov) (ρ : En) (x : D) (l : Option Int) (r : Option Int × Sto) : Option (D × Sto) := (st ρ r.2).bind fun c => slD3 x l r.1 c.1 c.2
def kS34 (x : D) (l u : Option Int) (c : Option Int × Sto) : Option (D × Sto) := slD3 x l u c.1 c.2
@[simp] theorem eSl3_ap : eSl3 ta tl th ts ρ S = bnd (ta ρ S) (kS31 tl th ts ρ) := id rfl
@[simp] theorem kS31_ap : kS31 tl th ts ρ (x, S) = bnd (tl ρ S) (kS32 th ts ρ x) := id rfl
@[simp] theorem kS32_ap {l : Option Int} : kS32 th ts ρ x (l, S) = bnd (th ρ S) (kS33 ts ρ x l) := id rfl
@[simp] theorem kS33_ap {l u : Option Int} : kS33 ts ρ x l (u, S) = bnd (ts ρ S) (kS34 x l u) := id rfl
end
end DL
set_option Elab.async false
set_option linter.all false
set_option maxRecDepth 100000
set_option autoImplicit false
namespace L2
open PySem PySem.Spec PyProof.Rows
section
variable {X : Cx}
end
end L2
namespace DL
open PySem L2
def oEqE : R2v := fun x y S => match x, y with
  | .ref a, .ref b => (rdL S a).bind fun xs => (rdL S b).bind fun ys => match ys with
    | [] => some (.bl xs.isEmpty, S)
    | _ => none
  | .tup xs, .tup [] => some (.bl xs.isEmpty, S)
  | _, _ => none
def oNeE : R2v := fun x y S => match x, y with
  | .ref a, .ref b => (rdL S a).bind fun xs => (rdL S b).bind fun ys => match ys with
    | [] => some (.bl (!xs.isEmpty), S)
    | _ => none
  | _, _ => none
section
variable {B : Bs} {X : Cx}
variable {S : Sto}
@[simp] theorem oEqE_t {xs : List D} : oEqE (.tup xs) (.tup []) S = some (.bl xs.isEmpty, S) := id rfl
end
end DL
set_option Elab.async false
set_option linter.all false
set_option maxRecDepth 100000
set_option autoImplicit false
namespace HT
open PySem PySem.Spec PyProof.Rows
section
variable {prog : Program} {w : World} {A : Around} {E : Value → Shared → Prop} {s : Shared}
end
end HT
namespace L2
open PySem PySem.Spec PyProof.Rows
section
variable {X : Cx}
end
end L2
namespace DL
open PySem L2
def slW (x : D) (lo hi : Option Int) (S : Sto) : Option (D × Sto) := match x with
  | .tup xs => some (.tup (cutD xs lo hi), S)
  | .ref l => (rdL S l).map fun xs => (.ref S.length, S ++ [.lst (cutD xs lo hi)])
  | _ => none
def eSlW (t : Ev) (lo hi : Ov) : Ev := fun ρ S => (t ρ S).bind fun p => (lo ρ p.2).bind fun q => (hi ρ q.2).bind fun r => slW p.1 q.1 r.1 r.2
section
variable {B : Bs} {X : Cx} {a : Expr} {ta : Ev} {pos p2 : Pos} {lo hi : Option Expr} {tl th : Ov}
variable {ρ : En} {S : Sto} {x : D}
def kW1 (lo hi : Ov) (ρ : En) (p : D × Sto) : Option (D × Sto) := (lo ρ p.2).bind fun q => (hi ρ q.2).bind fun r => slW p.1 q.1 r.1 r.2
def kW2 (hi : Ov) (ρ : En) (x : D) (q : Option Int × Sto) : Option (D × Sto) := (hi ρ q.2).bind fun r => slW x q.1 r.1 r.2
def kW3 (x : D) (lo : Option Int) (q : Option Int × Sto) : Option (D × Sto) := slW x lo q.1 q.2
@[simp] theorem eSlW_ap : eSlW ta tl th ρ S = bnd (ta ρ S) (kW1 tl th ρ) := id rfl
@[simp] theorem kW1_ap : kW1 tl th ρ (x, S) = bnd (tl ρ S) (kW2 th ρ x) := id rfl
@[simp] theorem kW2_ap {o : Option Int} : kW2 th ρ x (o, S) = bnd (th ρ S) (kW3 x o) := id rfl
@[simp] theorem kW3_ap {o o' : Option Int} : kW3 x o (o', S) = slW x o o' S := id rfl
@[simp] theorem slW_t {xs : List D} {lo hi : Option Int} : slW (.tup xs) lo hi S = some (.tup (cutD xs lo hi), S) := id rfl
end
end DL
set_option Elab.async false
set_option linter.all false
set_option maxRecDepth 100000
set_option autoImplicit false
namespace L2
open PySem PySem.Spec PyProof.Rows
end L2
namespace DL
open PySem L2
section
variable {B : Bs} {X : Cx} {S : Sto}
end
end DL
set_option Elab.async false
set_option linter.all false
set_option maxRecDepth 100000
set_option autoImplicit false
namespace L2
open PySem PySem.Spec PyProof.Rows
section
variable {prog : Program} {w : World} {A : Around} {E : Value → Shared → Prop} {s : Shared}
end
section
variable {X : Cx} {pos : Pos}
end
end L2
namespace DL
open PySem L2
section
variable {B : Bs} {X : Cx} {pos : Pos} {es : List Expr}
variable {ρ : En} {S : Sto}
end
end DL
set_option Elab.async false
set_option linter.all false
set_option maxRecDepth 100000
set_option autoImplicit false
namespace DL
open PySem PySem.Spec PyProof.Rows L2
def okZ (c1 c2 : Nat × List D) (S : Sto) : Bool := decide (rdL S c1.1 = some c1.2) && decide (rdL S c2.1 = some c2.2)
def zRun (c1 c2 : Nat × List D) (g : Gv) (tb : Sv) : List D → Sv
  | [], ρ, S => if okZ c1 c2 S = true then some (.nx, ρ, S) else none
  | d :: ds, ρ, S => if okZ c1 c2 S = true then (g d ρ S).bind fun p => (tb p.1 p.2).bind fun q => match q.1 with
    | .nx => zRun c1 c2 g tb ds q.2.1 q.2.2
    | .ct => zRun c1 c2 g tb ds q.2.1 q.2.2
    | .bk => some (.nx, q.2)
    | .rt d => some (.rt d, q.2)
    else none
def zipE (xs ys : List D) : List D := List.zipWith (fun x y => .tup [x, y]) xs ys
def kZ (g : Gv) (t : Sv) (ρ : En) (p : List D × Sto) : Option (Fl × En × Sto) := match p.1 with
  | [.ref a, .ref b] => (rdL p.2 a).bind fun xs => (rdL p.2 b).bind fun ys => zRun (a, xs) (b, ys) g t (zipE xs ys) ρ p.2
  | _ => none
def sForZ (ta : Av) (g : Gv) (t : Sv) : Sv := fun ρ S => (ta ρ S).bind (kZ g t ρ)
section
variable {B : Bs} {X : Cx} {sts : List Stmt} {t : Sv} {pos : Pos}
variable {ρ : En} {S : Sto}
@[simp] theorem sForZ_ap {ta : Av} {g : Gv} : sForZ ta g t ρ S = bnd (ta ρ S) (kZ g t ρ) := id rfl
end
end DL
set_option Elab.async false
set_option linter.all false
set_option maxRecDepth 100000
set_option autoImplicit false
namespace DL
open PySem PySem.Spec PyProof.Rows L2
def kDg4 (l : Nat) (y : D) (r : D × Sto) : Option (D × Sto) := (keyD y).bind fun k => (rdD r.2 l).bind fun kvs => some ((getD kvs k).getD r.1, r.2)
def kDg3 (tx : Ev) (ρ : En) (l : Nat) (q : D × Sto) : Option (D × Sto) := (tx ρ q.2).bind (kDg4 l q.1)
def kDg2 (tk tx : Ev) (ρ : En) (p : D × Sto) : Option (D × Sto) := match p.1 with
  | .ref l => if (rdD p.2 l).isSome = true then (tk ρ p.2).bind (kDg3 tx ρ l) else none
  | _ => none
def eDGet (td tk tx : Ev) : Ev := fun ρ S => (td ρ S).bind (kDg2 tk tx ρ)
section
variable {B : Bs} {X : Cx} {o e f : Expr} {apos cpos : Pos} {td tk tx : Ev}
variable {ρ : En} {S : Sto}
@[simp] theorem eDGet_ap : eDGet td tk tx ρ S = bnd (td ρ S) (kDg2 tk tx ρ) := id rfl
@[simp] theorem kDg3_ap {l : Nat} {y : D} : kDg3 tx ρ l (y, S) = bnd (tx ρ S) (kDg4 l y) := id rfl
end
end DL
namespace L2
open PySem PySem.Spec PyProof.Rows
section
variable {X : Cx}
end
end L2
namespace DL
open PySem PySem.Spec PyProof.Rows L2
section
variable {B : Bs} {X : Cx} {S : Sto}
end
end DL
set_option Elab.async false
set_option linter.all false
set_option maxRecDepth 100000
set_option autoImplicit false
namespace PySem
section
open SeqAt
variable {A : Around} {s : Shared}
end
end PySem
namespace L2
open PySem PySem.Spec PyProof.Rows
end L2
namespace DL
open PySem L2
end DL
set_option Elab.async false
set_option linter.all false
set_option maxRecDepth 100000
set_option autoImplicit false
namespace DL
open PySem L2
variable {B : Bs}
def sNo : Sv := fun _ _ => none
@[simp] theorem sNo_ap {ρ : En} {S : Sto} : sNo ρ S = none := id rfl
def lc2Run (chk : Option (Nat × List D)) (g : Gv) (tt : Tv) (ti1 : Iv) (g1 : Gv) (tt1 : Tv) (te : Ev) (ρ : En) (vs1 : List Nat) (L : Nat) : List D → Sto → Option Sto
  | [], S => if okC chk S = true then some S else none
  | d :: ds, S => if okC chk S = true then (g d ρ S).bind fun p => (tt p.1 p.2).bind fun q => if q.1 = true then (ti1 p.1 q.2).bind fun w => (lcRun w.1.chk g1 tt1 te (wipeR p.1 vs1) L w.1.items w.2).bind fun S6 => lc2Run chk g tt ti1 g1 tt1 te ρ vs1 L ds S6
      else lc2Run chk g tt ti1 g1 tt1 te ρ vs1 L ds q.2
    else none
def eLc2 (ti : Iv) (g : Gv) (tt : Tv) (ti1 : Iv) (g1 : Gv) (tt1 : Tv) (te : Ev) (vs vs1 : List Nat) : Ev := fun ρ S => (ti ρ S).bind fun p => (lc2Run p.1.chk g tt ti1 g1 tt1 te (wipeR ρ vs) vs1 p.2.length p.1.items (p.2 ++ [.lst []])).map fun S' => (.ref p.2.length, S')
section
variable {X : Cx} {lA lA1 : Tv}
theorem lc2_up {ti ti1 : Iv} {sl sl1 : List Nat} {g g1 : Gv} {te : Ev} {vs vs1 : List Nat} (hsl : ∀ j ∈ sl, j ∈ vs) (hsl1 : ∀ j ∈ sl1, j ∈ vs1) {σ : St} {H : Hp} {Q : VK} :
    upE X.K B (eLc2 ti g lA ti1 g1 lA1 te vs vs1) σ H Q → tLc2 (upI X.K B ti) (upG X.K B sl g) (upT X.K B lA) (upI X.K B ti1) (upG X.K B sl1 g1) (upT X.K B lA1) (upE X.K B te) vs vs1 σ H Q := fun ⟨ρ, ι, S, er, hr, d, S', h, q⟩ => by
  obtain ⟨⟨it, S1⟩, h1, h⟩ := bd h
  obtain ⟨S9, h, h9⟩ := mp h
  cases h9
  refine ⟨ρ, ι, S, er, hr, it, S1, h1, fun J ι1 H1 f1 hr1 hJ D0 hD => ?_⟩
  have h : lc2Run it.chk g lA ti1 g1 lA1 te (wipeR ρ vs) vs1 S1.length it.items (S1 ++ [.lst []]) = some S' := h
  have fN : Fr ι1 S1 H1 (ι1 ++ [D0]) (S1 ++ [.lst []]) (upd H1 D0 (.lst [])) := .new hr1 hD
  have hrN : HR X.K B (ι1 ++ [D0]) (S1 ++ [.lst []]) (upd H1 D0 (.lst [])) := hr1.new hD ⟨[], upd_same, rfl⟩ trivial
  have atN : (ι1 ++ [D0])[S1.length]? = some D0 := new_at hr1
  have E1 := fN.ext hr1
  have er1 : EnvR X.K ι1 H1 (wipe σ vs) (wipeR ρ vs) := (er.ext (f1.ext hr)).wipe vs
  refine ⟨fun i m H2 => m = it.items.length - i ∧ i ≤ it.items.length ∧ ∃ ι2 S2, Fr (ι1 ++ [D0]) (S1 ++ [.lst []]) (upd H1 D0 (.lst [])) ι2 S2 H2 ∧ HR X.K B ι2 S2 H2 ∧ lc2Run it.chk g lA ti1 g1 lA1 te (wipeR ρ vs) vs1 S1.length (it.items.drop i) S2 = some S',
    ⟨_, rfl, Nat.zero_le _, _, _, .refl, hrN, h⟩, ?_⟩
  rintro i m H2 ⟨rfl, hle, ι2, S2, f2, hr2, h2⟩
  have F2 := fN.trans f2
  have E2 := F2.ext hr1
  have er2 : EnvR X.K ι2 H2 (wipe σ vs) (wipeR ρ vs) := er1.ext E2
  by_cases hlt : i < it.items.length
  · rw [List.drop_eq_getElem_cons hlt] at h2
    unfold lc2Run at h2
    split at h2
    · rename_i ok
      obtain ⟨⟨ρ3, S3⟩, h3, h2⟩ := bd h2
      obtain ⟨⟨k, S4⟩, h4, h2⟩ := bd h2
      have hd : it.items[i]? = some it.items[i] := List.getElem?_eq_getElem hlt
      refine .inr ⟨hJ.go i ι2 S2 H2 _ E2 hr2 ok hd, fun H5 => ∃ ι5 S5, Fr (ι1 ++ [D0]) (S1 ++ [.lst []]) (upd H1 D0 (.lst [])) ι5 S5 H5 ∧ HR X.K B ι5 S5 H5 ∧ lc2Run it.chk g lA ti1 g1 lA1 te (wipeR ρ vs) vs1 S1.length (it.items.drop (i + 1)) S5 = some S', ?_, fun x H3 hy => ?_⟩
      · rintro H5 ⟨ι5, S5, f5, hr5, h5⟩
        exact ⟨_, by omega, rfl, hlt, ι5, S5, f5, hr5, h5⟩
      · obtain ⟨f3, hr3, rx⟩ := hJ.yld i ι2 S2 H2 _ x H3 E2 hr2 ok hd hy
        refine ⟨_, wipeR ρ vs, ι2, S2, rx, er2.ext (f3.ext hr2), hr3, ρ3, S3, h3, fun σ6 ι6 H6 f6 er6 hr6 sm => ?_⟩
        have F6 := (f2.trans f3).trans f6
        refine ⟨wipe_same sm hsl, upT_then er6 hr6 h4 fun ι7 H7 f7 er7 hr7 => ?_⟩
        have F7 := F6.trans f7
        cases k with
        | false =>
          simp only [Bool.false_eq_true, if_false] at h2 ⊢
          exact ⟨ι7, S4, F7, hr7, h2⟩
        | true =>
          simp only [if_true] at h2 ⊢
          obtain ⟨⟨it1, T1⟩, g1', h2⟩ := bd h2
          obtain ⟨S6, g2, h2⟩ := bd h2
          refine ⟨ρ3, ι7, S4, er7, hr7, it1, T1, g1', fun J1 κ1 G1 e1 hk1 hJ1 => ?_⟩
          have ek1 : EnvR X.K κ1 G1 (wipe σ6 vs1) (wipeR ρ3 vs1) := (er7.ext (e1.ext hr7)).wipe vs1
          have g2 : lcRun it1.chk g1 lA1 te (wipeR ρ3 vs1) S1.length it1.items T1 = some S6 := g2
          refine ⟨fun j m H5 => m = it1.items.length - j ∧ j ≤ it1.items.length ∧ ∃ ι5 S5, Fr κ1 T1 G1 ι5 S5 H5 ∧ HR X.K B ι5 S5 H5 ∧ lcRun it1.chk g1 lA1 te (wipeR ρ3 vs1) S1.length (it1.items.drop j) S5 = some S6, ⟨_, rfl, Nat.zero_le _, _, _, .refl, hk1, g2⟩, ?_⟩
          rintro j m H5 ⟨rfl, hle1, ι5, S5, f5, hr5, h5⟩
          have E5 := f5.ext hk1
          have er5 : EnvR X.K ι5 H5 (wipe σ6 vs1) (wipeR ρ3 vs1) := ek1.ext E5
          by_cases hlt1 : j < it1.items.length
          · rw [List.drop_eq_getElem_cons hlt1] at h5
            unfold lcRun at h5
            split at h5
            · rename_i ok1
              obtain ⟨⟨ρ8, S8⟩, h8, h5⟩ := bd h5
              obtain ⟨⟨k1, S10⟩, h10, h5⟩ := bd h5
              have hd1 : it1.items[j]? = some it1.items[j] := List.getElem?_eq_getElem hlt1
              refine .inr ⟨hJ1.go j ι5 S5 H5 _ E5 hr5 ok1 hd1, fun H11 => ∃ ι11 S11, Fr κ1 T1 G1 ι11 S11 H11 ∧ HR X.K B ι11 S11 H11 ∧ lcRun it1.chk g1 lA1 te (wipeR ρ3 vs1) S1.length (it1.items.drop (j + 1)) S11 = some S6, ?_, fun x8 H8 hy8 => ?_⟩
              · rintro H11 ⟨ι11, S11, f11, hr11, h11⟩
                exact ⟨_, by omega, rfl, hlt1, ι11, S11, f11, hr11, h11⟩
              · obtain ⟨f8, hr8, rx8⟩ := hJ1.yld j ι5 S5 H5 _ x8 H8 E5 hr5 ok1 hd1 hy8
                refine ⟨_, wipeR ρ3 vs1, ι5, S5, rx8, er5.ext (f8.ext hr5), hr8, ρ8, S8, h8, fun σ9 ι9 H9 f9 er9 hr9 sm9 => ?_⟩
                have F9 := (f5.trans f8).trans f9
                refine ⟨wipe_same sm9 hsl1, upT_then er9 hr9 h10 fun ι10 H10 f10 er10 hr10 => ?_⟩
                have F10 := F9.trans f10
                cases k1 with
                | false =>
                  simp only [Bool.false_eq_true, if_false] at h5 ⊢
                  exact ⟨ι10, S10, F10, hr10, h5⟩
                | true =>
                  simp only [if_true] at h5 ⊢
                  obtain ⟨⟨y, S12⟩, h12, h5⟩ := bd h5
                  obtain ⟨acc, h6, h5⟩ := bd h5
                  split at h5
                  · rename_i hacc
                    refine up_then er10 hr10 h12 fun v ι13 H13 f13 er13 r13 hr13 => ?_
                    have F13 := F10.trans f13
                    have at13 : ι13[S1.length]? = some D0 := ((F7.trans e1).trans F13).pre_at atN
                    obtain ⟨a1, us, e1', e2, hH, rr⟩ := hr13.refW (v := .ref D0) ⟨D0, at13, rfl⟩ h6
                    cases e1'
                    refine ⟨us, hH, by rw [← rr.length]; exact hacc, ι13, S12.set S1.length (.lst (acc ++ [y])), F13.trans (.set hr13 at13 (wrL_some h6) rfl), hr13.set at13 ⟨_, upd_same, Rps.ext (.set hr13 at13) _ _ (rr.app ⟨v, [], rfl, r13, rfl⟩)⟩ trivial, h5⟩
                  · cases h5
            · cases h5
          · have e : j = it1.items.length := by omega
            subst e
            rw [List.drop_length] at h5
            unfold lcRun at h5
            split at h5
            · rename_i ok1
              cases h5
              exact .inl ⟨hJ1.stop ι5 _ H5 E5 hr5 ok1, ι5, _, (F7.trans e1).trans f5, hr5, h2⟩
            · cases h5
    · cases h2
  · have e : i = it.items.length := by omega
    subst e
    rw [List.drop_length] at h2
    unfold lc2Run at h2
    split at h2
    · rename_i ok
      cases h2
      exact .inl ⟨hJ.stop ι2 _ H2 E2 hr2 ok, q (.ref D0) ι2 H2 (f1.trans F2) ⟨D0, f2.pre_at atN, rfl⟩ hr2⟩
    · cases h2
variable {elt tg iter tg1 iter1 : Expr} {ifs ifs1 : List Expr} {scope : Scope} {own : List (Str × Nat)} {vs1 : List Nat} {ti ti1 : Iv} {g g1 : Gv} {sl sl1 : List Nat} {ta : Ev} {pos : Pos}
theorem llc2 (hc : X.calm = true) (hN : X.N.Nodup) (hi : PLI B X tg iter ti) (ok : BlkOk X.N X.env.scope scope own) (hsl : ∀ j ∈ sl, j ∈ own.map (·.2)) (hsl1 : ∀ j ∈ sl1, j ∈ vs1) (hv : ∀ i ∈ vs1, i ∈ own.map (·.2))
    (hg : ∀ (s : Shared) (H : Hp) (C : Addr) (cl : List (Str × Addr)) (fp : List Addr), PLG B (X.blk s H scope (compEnvC scope cl C X.env) fp) tg sl g)
    (ht : ∀ (s : Shared) (H : Hp) (C : Addr) (cl : List (Str × Addr)) (fp : List Addr), PLTs B (X.blk s H scope (compEnvC scope cl C X.env) fp) ifs lA)
    (hi1 : ∀ (s : Shared) (H : Hp) (C : Addr) (cl : List (Str × Addr)) (fp : List Addr), PLI B (X.blk s H scope (compEnvC scope cl C X.env) fp) tg1 iter1 ti1)
    (hg1 : ∀ (s : Shared) (H : Hp) (C : Addr) (cl : List (Str × Addr)) (fp : List Addr), PLG B (X.blk s H scope (compEnvC scope cl C X.env) fp) tg1 sl1 g1)
    (ht1 : ∀ (s : Shared) (H : Hp) (C : Addr) (cl : List (Str × Addr)) (fp : List Addr), PLTs B (X.blk s H scope (compEnvC scope cl C X.env) fp) ifs1 lA1)
    (he : ∀ (s : Shared) (H : Hp) (C : Addr) (cl : List (Str × Addr)) (fp : List Addr), PL B (X.blk s H scope (compEnvC scope cl C X.env) fp) elt ta) (hs : ∀ x, foldedSetIterable iter X.env x = pure x := by intro _; rfl) (hs1 : ∀ env x, foldedSetIterable iter1 env x = pure x := by intro _ _; rfl) :
    PL B X (.ListComp elt [⟨tg, iter, ifs, 0⟩, ⟨tg1, iter1, ifs1, 0⟩] scope pos) (eLc2 ti g lA ti1 g1 lA1 ta (own.map (·.2)) vs1) :=
  PL.wk (pe_lc2 (g := upG X.K B sl g) (tt := upT X.K B lA) (g1 := upG X.K B sl1 g1) (tt1 := upT X.K B lA1) (wi1 := upI X.K B ti1) (te := upE X.K B ta) hc hN hi.p ok hv (fun s H C cl fp => (hg s H C cl fp).p) (fun s H C cl fp => (ht s H C cl fp).p) (fun s H C cl fp => (hi1 s H C cl fp).p) (fun s H C cl fp => (hg1 s H C cl fp).p) (fun s H C cl fp => (ht1 s H C cl fp).p) (fun s H C cl fp => (he s H C cl fp).p) hs hs1) fun σ H Q => lc2_up hsl hsl1
end
end DL
set_option Elab.async false
set_option linter.all false
set_option maxRecDepth 100000
set_option autoImplicit false
namespace L2
open PySem PySem.Spec PyProof.Rows
end L2
namespace DL
open PySem L2
variable {B : Bs} {X : Cx}
def oNeT : R2v := fun x y S => match x, y with
  | .tup xs, .tup [] => some (.bl (!xs.isEmpty), S)
  | _, _ => none
@[simp] theorem oNeT_t {S : Sto} {xs : List D} : oNeT (.tup xs) (.tup []) S = some (.bl (!xs.isEmpty), S) := id rfl
end DL
set_option Elab.async false
set_option linter.all false
set_option maxRecDepth 100000
namespace L2
open PySem PySem.Spec PyProof.Rows
open AutoSeq1 (wpAny_loadPart')
section
variable {X : Cx} {A : Around} {fp : List Addr} {tn : Nat → Heap → Prop} {xs vals : List V} {H0 : Hp} {σ0 : St} {a : Addr} {g : Nat}
end
end L2
namespace L2
open PySem PySem.Spec PyProof.Rows
section
variable {X : Cx} {elt : Expr} {x : Str} {px : Pos} {iter : Expr} {scope : Scope} {gpos p pos : Pos} {wi : TI} {te : TE} {c P : Addr}
end
end L2
set_option Elab.async false
set_option linter.all false
set_option maxRecDepth 100000
set_option autoImplicit false
namespace L2
open PySem PySem.Spec PyProof.Rows
def CXr (P : Program) (w : World) : CXT := fun outer H s E e s' => ∃ (a t : Addr) (C : Value) (B : Heap) (H' : Hp),
  e = .ref a ∧ s'.os = s.os ∧ AllBare s'.gens ∧ Un (frs outer) [] H H' s.heap s'.heap ∧ HOk P w H' s'.heap ∧ Heap.FlyingW B outer a C (.ref t) s'.heap ∧
  (∀ b, b ∉ frs outer → (H' b ≠ none ∨ ∃ o, s.heap.get? b = some o) → ∃ o, B.get? b = some o) ∧ (∀ b ∈ frs outer, H' b = none) ∧ E C none H'
section
variable {P : Program} {w : World} {H H' : Hp} {h h1 h2 B : Heap} {l : List Env}
theorem objOk_there {a : Addr} {u : HO} (x : ObjOk P w H h a u) : ∃ o, h.get? a = some o := by
  induction u with
  | lst xs => obtain ⟨_, _, _, _, e⟩ := x; exact ⟨_, e⟩
  | tup xs => obtain ⟨_, _, _, o, e, _⟩ := x; exact ⟨_, e⟩
  | dK kvs => obtain ⟨_, _, _, _, o, _, _, e, _⟩ := x; exact ⟨_, e⟩
  | dT kvs => obtain ⟨_, _, _, _, o, _, _, e, _⟩ := x; exact ⟨_, e⟩
  | set S n => obtain ⟨o, _, _, _, e, _⟩ := x; exact ⟨_, e⟩
  | ins C dx fs => obtain ⟨_, _, _, e, _⟩ := x; exact ⟨_, e⟩
  | own _ => exact x
  | xd fs => obtain ⟨_, ⟨o, _, _, e, _⟩, _⟩ := x; exact ⟨_, e⟩
  | rng lo hi => obtain ⟨_, _, _, e⟩ := x; exact ⟨_, e⟩
  | frz o u => exact ⟨_, x.1⟩
  | tbl ps => exact ⟨_, x⟩
  | met f y => exact ⟨_, x⟩
  | ext φ => exact x.2.1
theorem un_on (un : Un (frs l) [] H H' h h1) (ok : HOk P w H' h1) (st1 : B.StaysIn h1) (st2 : B.StaysIn h2) (ff : h1.FunFrames B l) (cov : ∀ b, b ∉ frs l → (H' b ≠ none ∨ ∃ o, h.get? b = some o) → ∃ o, B.get? b = some o)
    (fr : ∀ b ∈ frs l, H' b = none) (up : h1.UpToSlots h2) : Un (frs l) [] H H' h h2 ∧ HOk P w H' h2 := by
  have fnf : ∀ b ∈ frs l, ∀ o, h1.get? b = some o → ∃ sl, h2.get? b = some { o with slots := sl } := fun b hb o e => by
    obtain ⟨_, o', e', nf⟩ := ff.mem hb
    rw [e] at e'; cases e'
    exact up b o e nf
  refine ⟨⟨fun b o e n hb hx => ?_, fun b o e n hb hx => ?_, un.free, fun b o e hx => ?_, un.tups, un.frzs, un.tbls⟩, fun a u e => ?_⟩
  · obtain ⟨o', e'⟩ := cov b hb (.inr ⟨o, e⟩)
    have q1 := un.keep b o e n hb hx
    have q2 := st1 b o' e'
    rw [q1] at q2; cases q2
    exact st2 b o e'
  · obtain ⟨sl, e1⟩ := un.slot b o e n hb hx
    obtain ⟨sl', e2⟩ := fnf b hb _ e1
    exact ⟨sl', e2⟩
  · by_cases hb : b ∈ frs l
    · obtain ⟨o', e1⟩ := un.there b o e hx
      obtain ⟨sl', e2⟩ := fnf b hb _ e1
      exact ⟨_, e2⟩
    · obtain ⟨o', e'⟩ := cov b hb (.inr ⟨o, e⟩)
      exact ⟨o', st2 b o' e'⟩
  · refine (ok a u e).stay (fun c v hc q => ?_) (fun _ q => q) fun _ _ q => q
    have tr : H' c ≠ none := by
      rcases hc with rfl | hc
      · rw [e]; simp
      · rw [hc]; simp
    have hb : c ∉ frs l := fun z => tr (fr c z)
    obtain ⟨o', e'⟩ := cov c hb (.inl tr)
    have q2 := st1 c o' e'
    rw [q] at q2; cases q2
    exact st2 c v e'
end
section
variable {X : Cx} {pins : List (Addr × Obj)} {σ : St} {H H' : Hp} {s s' : Shared} {E : XK}
structure Leaves (X : Cx) (E : XK) : Prop where
  xe : X.xe = fun e s' => wpAny (model X.prog X.w) X.A (leaving X.env e) (fun _ s'' => CXr X.prog X.w X.outer X.H_0 X.s_0 E e s'') (fun e' s'' => CXr X.prog X.w X.outer X.H_0 X.s_0 E e' s'') s'
  stk : X.stack = X.env :: X.outer
  frame : X.env.frame = some X.env.locals
  ex : X.ex = []
theorem leaves_cx {P : Program} {w : World} {K : PySem.W.Frag} {mg : Str → Option Value} {base : Heap} {N : List Str} {qual : Str} {scope : Scope} {f : Addr} {cd : Value} {A : Around} {outer : List Env} {H0 : Hp} : Leaves (cxOf (CXr P w) P w K mg base N qual scope f cd A outer s H0 E) E :=
  ⟨rfl, rfl, rfl, rfl⟩
theorem out_of (L : Leaves X E) (I : Inv X pins σ H s) {a t : Addr} {C : Value} {B : Heap} {h'' : Heap} (os : s'.os = s.os) (bare : AllBare s'.gens)
    (un2 : Un (frs X.stack) [] H H' s.heap h'') (ok2 : HOk X.prog X.w H' h'') (fl : Heap.FlyingW B X.outer a C (.ref t) h'') (cov : ∀ b, b ∉ frs X.stack → (H' b ≠ none ∨ ∃ o, s.heap.get? b = some o) → ∃ o, B.get? b = some o) (fr : ∀ b ∈ frs X.stack, H' b = none) (q : E C none H') :
    CXr X.prog X.w X.outer X.H_0 X.s_0 E (.ref a) { s' with heap := h'' } := by
  have I2 : Inv X pins σ H' { s' with heap := h'' } := I.call' (ch := []) os un2 ok2 bare fun b z => absurd z (by simp)
  have hsub : ∀ b ∈ frs X.outer, b ∈ frs X.stack := fun b hb => by
    rw [L.stk]
    unfold frs
    rw [List.filterMap_cons, L.frame]
    exact List.mem_cons_of_mem _ hb
  have base := I2.base
  rw [L.ex] at base
  refine ⟨a, t, C, B, H', rfl, I2.os, bare, base, ok2, fl, fun b hb hc => ?_, fun b hb => fr b (hsub b hb), q⟩
  have hl : b ∉ frs X.stack := fun z => by
    rw [L.stk] at z
    unfold frs at z
    rw [List.filterMap_cons, L.frame] at z
    rcases List.mem_cons.mp z with rfl | z
    · rcases hc with hc | ⟨o, e⟩
      · exact hc I2.free
      · exact absurd (Heap.lt_size e) (Nat.not_lt.mpr I.ok.above)
    · exact hb z
  refine cov b hl ?_
  rcases hc with hc | ⟨o, e⟩
  · exact .inl hc
  · have := I.base
    rw [L.ex] at this
    exact .inr (this.there b o e (by simp))
end
section
variable {K : PySem.W.Frag} {h : Heap} {C : Addr} {bmB : List Value} {newId : String}
def kSub (K : PySem.W.Frag) (C C2 : Addr) : Bool := match K.lookup C with
  | some ⟨_, _, .cls cd, _⟩ => cd.mro.contains (.ref C2)
  | _ => false
theorem exc_obj (X : K.In h) (q : PySem.W.excIn K C bmB newId = true) : ∃ (nm qn : Str) (N : Addr) (bs bm : List Value) (hdct : Bool) (sn : List Str) (sub : List Value) (ab : Bool) (col : Option Bool) (dd : Option Addr) (k0 k1 k2 k3 k5 : Option Value) (mN : Str → Option Value),
    h.get? C = some (excClassObj nm qn C N bs bm hdct sn sub ab col dd k0 k1 k2 k3 k5 newId) ∧ h.Ns N mN ∧ mN "__init__" = none ∧ OwnTail h bmB bm ∧ ∀ C2, (Value.ref C :: bm).contains (.ref C2) = kSub K C C2 := by
  unfold PySem.W.excIn at q
  split at q
  · rename_i dd cd sl ho
    split at q
    · rename_i C' bm k0 k1 k2 k3 n k5 hm hs
      simp only [Bool.and_eq_true, beq_iff_eq, Bool.not_eq_true'] at q
      obtain ⟨⟨⟨⟨⟨rfl, rfl⟩, hdel⟩, ht⟩, hok⟩, hni⟩ := q
      obtain ⟨nm, bs, mro, ns, qn, hd, sn, sub, ab, col, del⟩ := cd
      dsimp only at hm hdel hok hni
      subst hm hdel
      have hsl : sl = #[k0, k1, k2, k3, some (.builtin n), k5] := by
        obtain ⟨l⟩ := sl
        simp only at hs
        rw [hs]
      subst hsl
      exact ⟨nm, qn, ns, bs, bm, hd, sn, sub, ab, col, dd, k0, k1, k2, k3, k5, _, X _ _ ho, .of_isNs (PySem.W.isNs_of_in X hok), PySem.W.nsMap_none_of_in X hok hni, PySem.W.tail_of_in X ht, fun C2 => by unfold kSub; rw [ho]⟩
    · cases q
  · cases q
end
section
variable {X : Cx} {E : XK} {x : Str} {C : Addr} {bmB : List Value} {B newId initId : String} {z : Str} {np cpos pos cp : Pos} {ck : Nat}
def tRaise (C : Addr) (E : XK) : TS := fun _ _ H => E (.ref C) none H
theorem ps_raise (L : Leaves X E) (F : ExcBaseFacts B newId initId bmB) (hc : X.calm = true) (hg : Gl X x) (hm : X.mg x = some (.ref C)) (q : PySem.W.excIn X.K C bmB newId = true) (hdb : (x == ("__debug__" : Str)) = false := by decide) :
    PS X (.Raise (some (.Call (.Name x np) [.Constant (.str z) ck cp] [] cpos)) none pos) (tRaise C E) := by
  intro pins s σ H D I hE
  obtain ⟨nm, qn, N, bs, bm, hdct, sn, sub, ab, col, dd, k0, k1, k2, k3, k5, mN, hC, hN, hni, TL, _⟩ := exc_obj I.ok.mod.kin q
  refine wpAny_Raise_call_subT (C := C) (N := N) (nm := nm) (q := qn) (bs := bs) (bm := bm) (hdct := hdct) (sn := sn) (sub := sub) (ab := ab) (col := col) (dd := dd) (k0 := k0) (k1 := k1) (k2 := k2) (k3 := k3) (k5 := k5) F (TL.hasType F.hasBase) (I.ok.hd hc) rfl hni (ld_glob I hg hm ⟨rfl, ?_⟩ hdb)
  refine Calls.evalArgs_plain (thn ((pa_cons pe_str pa_nil : PA X [.Constant (.str z) ck cp] _) cpos pins s σ H (fun vs H1 => vs = [.str z] ∧ H1 = H) I ⟨rfl, rfl⟩) ?_)
  rintro us s1 ⟨vs, H1, I1, r, rfl, rfl⟩
  refine ⟨rfl, ?_, I1.bk _ _ hC, hN.keeps I1.bk, TL.keeps I1.bk, fun h' e hx => ?_⟩
  · show us.length ≤ _
    rw [← Vals.length r]; show 1 ≤ sizeLine; rw [sizeLine_eq]; decide
  have hin : ∀ env ∈ X.stack, ∀ b, env.frame = some b → b ∈ frs X.stack := fun env he b hb => List.mem_filterMap.mpr ⟨env, he, hb⟩
  have ff : s1.heap.FunFrames (PySem.W.hideAll s1.heap (frs X.stack)) X.stack := PySem.W.funFrames_hide I1.stack hin
  have st : (PySem.W.hideAll s1.heap (frs X.stack)).StaysIn s1.heap := fun b o q => PySem.W.of_hideAll _ q
  rw [L.xe]
  have ff' : s1.heap.FunFrames (PySem.W.hideAll s1.heap (frs X.stack)) (X.env :: X.outer) := by rw [← L.stk]; exact ff
  refine wpAny_leaves_madeW (base := PySem.W.hideAll s1.heap (frs X.stack)) (h := s1.heap) (by rw [I1.ok.frames, L.stk]) L.frame st ff' hx fun h'' t fl tup hn up => ?_
  have cov : ∀ b, b ∉ frs X.stack → (H1 b ≠ none ∨ ∃ o, s1.heap.get? b = some o) → ∃ o, (PySem.W.hideAll s1.heap (frs X.stack)).get? b = some o := fun b hb hc => by
    have : ∃ o, s1.heap.get? b = some o := by
      rcases hc with hc | hc
      · cases e : H1 b with
        | none => exact absurd e hc
        | some u => exact objOk_there (I1.hok b u e)
      · exact hc
    obtain ⟨o, e⟩ := this
    exact ⟨o, PySem.W.hideAll_get _ e hb⟩
  obtain ⟨un2, ok2⟩ := un_on (l := X.stack) (H := H1) (H' := H1) (Un.kept hx.keeps) (I1.hok.kept hx.keeps) (fun b o q => hx.keeps b o (st b o q)) fl.1 (ff.of_keeps fun b o hb _ => ⟨o, hx.keeps b o hb, rfl⟩) cov I1.stkFree up
  exact out_of (s' := { s1 with heap := h' }) L I1 rfl I1.bare un2 ok2 fl cov I1.stkFree hE
end
end L2
set_option Elab.async false
set_option linter.all false
set_option maxRecDepth 100000
set_option autoImplicit false
namespace PySem
section
variable {M : Model} {A : Around} {E : Value → Shared → Prop}
variable {nm q : Str} {C N : Addr} {bs bm : List Value} {hdct : Bool} {sn : List Str} {sub : List Value} {ab : Bool} {col : Option Bool} {dd : Option Addr} {k0 k1 k2 k3 k5 : Option Value} {newId : String}
variable {nm' q' : Str} {C2 N' : Addr} {bs' bm' : List Value} {hdct' : Bool} {sn' : List Str} {sub' : List Value} {ab' : Bool} {col' : Option Bool} {dd' : Option Addr} {k0' k1' k2' k3' k5' : Option Value} {newId' : String}
theorem matches_own {h : Heap} {g : Array GenState} {d : Drawn} {t : Nat} {os : OsState} {e : Addr} {oe : Obj} {b : Bool} {Q : Bool → Shared → Prop}
    (hC : h.get? C = some (excClassObj nm q C N bs bm hdct sn sub ab col dd k0 k1 k2 k3 k5 newId)) (hC2 : h.get? C2 = some (excClassObj nm' q' C2 N' bs' bm' hdct' sn' sub' ab' col' dd' k0' k1' k2' k3' k5' newId'))
    (he : h.get? e = some oe) (hcls : oe.cls = .ref C) (hbase : bm'.contains (.type "BaseException") = true) (hb : (Value.ref C :: bm).contains (.ref C2) = b)
    (hq : Q b ⟨h, g, d, t, os⟩) : wpAny M A (excMatches (.ref e) (.ref C2)) Q E ⟨h, g, d, t, os⟩ := by
  have hcB : (Value.ref C2 :: bm').contains (.type "BaseException") = true := by rw [List.contains_cons, hbase, Bool.or_true]
  have f := tc_notTuple
  unfold excMatches
  cases b with
  | true =>
    repeat (first | (with_reducible refine wpAny_loadPart_at he ?_; rw [hcls]) | with_reducible refine wpAny_loadPart_at hC2 ?_ | (with_reducible refine wpAny_isSubtype_exc hC2 ?_; rw [hcB]) | (with_reducible refine wpAny_isSubtype_exc hC ?_; rw [hb]) | wp_step)
    exact hq
  | false =>
    repeat (first | (with_reducible refine wpAny_loadPart_at he ?_; rw [hcls]) | with_reducible refine wpAny_loadPart_at hC2 ?_ | (with_reducible refine wpAny_isSubtype_exc hC2 ?_; rw [hcB]) | (with_reducible refine wpAny_isSubtype_exc hC ?_; rw [hb]) | wp_step)
    exact hq
end
end PySem
namespace L2
open PySem PySem.Spec PyProof.Rows
section
variable {P : Program} {w : World} {H : Hp} {h : Heap} {a : Addr} {o : HO}
theorem HOk.more (x : HOk P w H h) (hn : H a = none) (new : ObjOk P w (upd H a o) h a o) : HOk P w (upd H a o) h := fun b u e => by
  by_cases hb : b = a
  · subst hb
    rw [upd_same] at e; cases e
    exact new
  · rw [upd_ne hb] at e
    have up : ∀ c v, H c = some v → upd H a o c = some v := fun c v q => by
      rw [upd_ne (fun z => by rw [z, hn] at q; cases q)]; exact q
    exact (x b u e).stay (fun _ _ _ q => q) (fun c q => up c _ q) fun c _ q => up c _ q
end
abbrev Cx.held (X : Cx) (a : Addr) : Cx := { X with A := X.A.mark (some (.ref a)), calm := false }
section
variable {X : Cx} {pins : List (Addr × Obj)} {σ : St} {H : Hp} {s : Shared} {a : Addr}
theorem Cx.Ok.held (ok : X.Ok) : (X.held a).Ok :=
  ⟨ok.mod, ok.kind, ok.glob, ok.blt, ok.above, ok.inj, ok.has, ok.cab, (fun h => (by cases h)), ok.frames, ok.stk, ok.exf, ok.bs, ok.bsz, ok.noex, ok.exfs, ok.funs, ok.frf⟩
theorem Inv.held (I : Inv X pins σ H s) : Inv (X.held a) pins σ H s := ⟨I.ok.held, I.os, I.bare, I.base, I.loc, I.cell, I.free, I.freeC, I.pin, I.hok, I.len⟩
theorem Inv.unheld (ok : X.Ok) (I : Inv (X.held a) pins σ H s) : Inv X pins σ H s := ⟨ok, I.os, I.bare, I.base, I.loc, I.cell, I.free, I.freeC, I.pin, I.hok, I.len⟩
end
section
variable {X : Cx} {pins : List (Addr × Obj)} {σ : St} {H : Hp} {s s' : Shared} {E : XK} {cx n : Str} {C2 : Addr} {bmB : List Value} {newId : String} {np hp : Pos} {j : Nat} {b₀ : Stmt} {suite : List Stmt} {Q : Flow → Shared → Prop}
theorem flies_inv (stk : X.stack = X.env :: X.outer) (I : Inv X pins σ H s) {a t : Addr} {C : Value} {B : Heap} {H' : Hp} {h'' : Heap} (os : s'.os = s.os) (bare : AllBare s'.gens) (un : Un (frs X.stack) [] H H' s.heap s'.heap) (ok : HOk X.prog X.w H' s'.heap) (fl : Heap.FlyingW B X.stack a C (.ref t) s'.heap)
    (cov : ∀ b, b ∉ frs X.stack → (H' b ≠ none ∨ ∃ o, s.heap.get? b = some o) → ∃ o, B.get? b = some o) (fr : ∀ b ∈ frs X.stack, H' b = none) (st2 : B.StaysIn h'') (up : s'.heap.UpToSlots h'') : Inv X pins σ H' { s' with heap := h'' } := by
  obtain ⟨un2, ok2⟩ := un_on un ok fl.1 st2 fl.2.2.1 cov fr up
  exact I.call' (s' := { s' with heap := h'' }) (ch := []) os un2 ok2 bare fun b z => absurd z (by simp)
theorem name_goes {M : Model} {A : Around} {E : Value → Shared → Prop} {pos : Pos} {Q : Unit → Shared → Prop} (I : Inv X pins σ H s) (hN : X.N.Nodup) (hj : X.N[j]? = some n) (hl : X.env.scope.names.lookup n = some .local)
    (h : ∀ s', Inv X pins (σ.set j none) H s' → Q () s') : wpAny M A (do bindName X.env n .none; unbindBehindTheSuite X.env n pos) Q E s := by
  obtain ⟨m, hn, hlk⟩ := id I.loc
  have hcls : (X.env.scope.kind == .class || (X.env.scope.kind == .module && X.env.locals != X.env.globals)) = false := by rw [I.ok.kind]; rfl
  have hjσ : j < σ.length := by rw [I.len]; exact (List.getElem?_eq_some_iff.mp hj).1
  have cne := I.cne
  refine wpAny_nameGoes_keeps hl hn hcls fun h' v hn' hs => ?_
  obtain ⟨oL, _, _, hoL, _⟩ := id hn
  have tracked : HOk X.prog X.w H h' := fun b ob e => by
    refine (I.hok b ob e).stay (fun c w' hc q => (hs.2 c ?_).trans q) (fun _ q => q) fun _ _ q => q
    rintro rfl
    rcases hc with rfl | hc
    · rw [I.free] at e; cases e
    · have := I.free; rw [this] at hc; cases hc
  refine h _ ⟨I.ok, I.os, I.bare, ⟨fun b o e n hb hx => ?_, fun b o e n hb hx => ?_, I.base.free, fun b o e hx => ?_, I.base.tups, I.base.frzs, I.base.tbls⟩, ⟨_, hn', fun i y v' e1 e2 e3 => ?_⟩, fun y c e => ?_, I.free, I.freeC, fun p hp => ?_, tracked, by simpa using I.len⟩
  · exact (hs.2 b (Nat.ne_of_lt (Nat.lt_of_lt_of_le (Heap.lt_size e) I.ok.above))).trans (I.base.keep b o e n hb hx)
  · obtain ⟨sl, e1⟩ := I.base.slot b o e n hb hx
    exact ⟨sl, (hs.2 b (Nat.ne_of_lt (Nat.lt_of_lt_of_le (Heap.lt_size e) I.ok.above))).trans e1⟩
  · obtain ⟨o', e1⟩ := I.base.there b o e hx
    exact ⟨o', (hs.2 b (Nat.ne_of_lt (Nat.lt_of_lt_of_le (Heap.lt_size e) I.ok.above))).trans e1⟩
  · by_cases hi : i = j
    · subst hi
      rw [List.getElem?_set_self hjσ] at e2
      cases e2
    · rw [List.getElem?_set_ne (Ne.symm hi)] at e2
      obtain ⟨u', r', q⟩ := hlk i y v' e1 e2 e3
      refine ⟨u', r', ?_⟩
      rcases q with ⟨k, e⟩ | ⟨k, c, e, z⟩
      · refine .inl ⟨k, ?_⟩
        have : y ≠ n := fun e => hi (nodup_ix hN e1 (e ▸ hj))
        simp [this, e]
      · exact .inr ⟨k, c, e, z.sameBut hs (cne y c e)⟩
  · obtain ⟨v', z⟩ := I.cell y c e
    exact ⟨v', z.sameBut hs (cne y c e)⟩
  · obtain ⟨q1, q2, q3, q4⟩ := I.pin p hp
    exact ⟨(hs.2 _ q3).trans q1, q2, q3, q4⟩
end
end L2
set_option Elab.async false
set_option linter.all false
set_option maxRecDepth 100000
set_option autoImplicit false
namespace L2
open PySem PySem.Spec PyProof.Rows
section
variable {X : Cx} {pins : List (Addr × Obj)} {σ : St} {H : Hp} {s s' : Shared} {E : XK} {cx n : Str} {C2 : Addr} {bmB : List Value} {newId : String} {np hp : Pos} {j : Nat} {b₀ : Stmt} {suite : List Stmt}
theorem Inv.more {a : Addr} {o : HO} (I : Inv X pins σ H s) (hn : H a = none) (new : ObjOk X.prog X.w (upd H a o) s.heap a o) (h0 : X.s_0.heap.get? a = none) (hl : a ≠ X.env.locals) (hc : ∀ x c, X.env.cells.lookup x = some c → c ≠ a) (hp : ∀ p ∈ X.pn ++ pins, p.1 ≠ a) : Inv X pins σ (upd H a o) s := by
  have ne : ∀ b u, H b = some u → upd H a o b = some u := fun b u e => by
    rw [upd_ne (fun z => by rw [z, hn] at e; cases e)]; exact e
  refine ⟨I.ok, I.os, I.bare, ⟨I.base.keep, I.base.slot, fun b ob e n hx => ?_, I.base.there, fun b xs e => ne _ _ (I.base.tups b xs e), fun b ob u e => ne _ _ (I.base.frzs b ob u e), fun b ps e => ?_⟩, I.loc, I.cell, ?_, fun y c e => ?_, fun p hq => ?_, I.hok.more hn new, I.len⟩
  · rw [upd_ne (fun z => by rw [z, h0] at e; cases e)]
    exact I.base.free b ob e n hx
  · obtain ⟨more, q⟩ := I.base.tbls b ps e
    exact ⟨more, ne _ _ q⟩
  · rw [upd_ne (fun z => hl z.symm)]; exact I.free
  · rw [upd_ne (hc y c e)]; exact I.freeC y c e
  · obtain ⟨q1, q2, q3⟩ := I.pin p hq
    exact ⟨q1, by rw [upd_ne (hp p hq)]; exact q2, q3⟩
def ends_as (D : Ends) (j : Nat) : Ends where
  nx := fun σ H => D.nx (σ.set j none) H
  rt := D.rt
  bk := fun σ H => D.bk (σ.set j none) H
  ct := fun σ H => D.ct (σ.set j none) H
theorem caught_as {D : Ends} {t : TS} {e : Value} {Ex : Value → Shared → Prop} (stk : X.stack = X.env :: X.outer) (frm : X.env.frame = some X.env.locals) (hex : X.ex = []) (hN : X.N.Nodup) (hj : X.N[j]? = some n) (hl : X.env.scope.names.lookup n = some .local)
    (hg : Gl X cx) (hm : X.mg cx = some (.ref C2)) (q2 : PySem.W.excIn X.K C2 bmB newId = true) (hb : bmB.contains (.type "BaseException") = true)
    (hd : (cx == ("__debug__" : Str)) = false) (ht : ∀ a XE, PSs ((X.held a).wish XE) (b₀ :: suite) t) (I : Inv X pins σ H s) (ex : CXr X.prog X.w X.stack H s E e s')
    (hE : ∀ C H', E C none H' → ∃ C0 bmB0 newId0, C = .ref C0 ∧ PySem.W.excIn X.K C0 bmB0 newId0 = true ∧ kSub X.K C0 C2 = true ∧ ∀ a, H' a = none → t (ends_as D j) (σ.set j (some (.ref a))) (upd H' a (excAt a (.ref C0)))) :
    wpAny (model X.prog X.w) X.A (noteFrame e X.env) (fun _ s₂ => wpAny (model X.prog X.w) X.A (setFlight e none) (fun _ s₃ =>
      wpAny (model X.prog X.w) X.A (handleBy e X.env [.ExceptHandler (some (.Name cx np)) (some n) (b₀ :: suite) hp]) (SP X pins D) Ex s₃) Ex s₂) Ex s' := by
  obtain ⟨a, tt, C, B, H', rfl, os, bare, un, ok, fl, cov, fr, hq⟩ := ex
  obtain ⟨C0, bmB0, newId0, rfl, q0, sb, run⟩ := hE C H' hq
  have fl' := fl
  rw [stk] at fl'
  refine wpAny_looks_onW (by rw [I.ok.frames, stk]) frm fl' fun h4 hh4 sm4 => ?_
  refine wpAny_landsW hh4 fun h5 fl5 sm5' => ?_
  have sm5 := sm4.trans sm5'
  have I5 : Inv X pins σ H' { s' with heap := h5 } := flies_inv stk I os bare un ok fl cov fr fl5.1 sm5
  have an : H' a = none := by
    cases q : H' a with
    | none => rfl
    | some u =>
      have ha : a ∉ frs X.stack := fun z => by rw [fr a z] at q; cases q
      obtain ⟨o, e⟩ := cov a ha (.inl (by rw [q]; simp))
      have := fl.2.1
      rw [e] at this; cases this
  obtain ⟨oe, he, hec⟩ := fl5.there
  obtain ⟨nm, qn, N, bs, bm, hdct, sn, sub, ab, col, dd, k0, k1, k2, k3, k5, mN, hC0, _, _, _, mem⟩ := exc_obj I5.kIn q0
  obtain ⟨nm', qn', N', bs', bm', hdct', sn', sub', ab', col', dd', k0', k1', k2', k3', k5', mN', hC2, _, _, TL2, _⟩ := exc_obj I5.kIn q2
  refine wpAny_handleBy_cons (codeAny_handlers_test (ld_glob (X := X.held a) I5.held hg hm ?_ hd)) (by intro q; cases q)
  refine matches_own hC0 hC2 he hec (TL2.hasType hb) ((mem C2).trans sb) ?_
  refine codeAny_handlers_suite_as ?_
  refine lands_againW fl5 fun h6 fl6 sm6 => ?_
  have I6 : Inv X pins σ H' { s' with heap := h6 } := by
    exact flies_inv stk I os bare un ok fl cov fr fl6.1 (sm5.trans sm6)
  obtain ⟨oe6, ws, he6, hc6, hd6, _⟩ := fl6.first
  have nfr : a ∉ frs X.stack := fun z => by
    rw [stk] at z
    obtain ⟨_, o, e, nf⟩ := fl6.2.2.1.mem z
    rw [he6] at e; cases e
    exact nf ws hd6
  have nsa : s.heap.get? a = none := by
    cases q : s.heap.get? a with
    | none => rfl
    | some o =>
      obtain ⟨o', e⟩ := cov a nfr (.inr ⟨o, q⟩)
      have := fl.2.1
      rw [e] at this; cases this
  have locfr : X.env.locals ∈ frs X.stack := by
    rw [stk]; unfold frs; rw [List.filterMap_cons, frm]; exact List.mem_cons_self
  have I7 : Inv X pins σ (upd H' a (excAt a (.ref C0))) { s' with heap := h6 } := by
    refine I6.more an ⟨⟨oe6, ws, he6, hc6, hd6⟩, ⟨oe6, he6⟩, fun h1 h2 ⟨o, vs, e, c, d⟩ k => ⟨o, vs, k o e, c, d⟩⟩ ?_ (fun z => nfr (z ▸ locfr)) (fun y c e z => ?_) fun p hq z => ?_
    · cases q : X.s_0.heap.get? a with
      | none => rfl
      | some o =>
        obtain ⟨o', e⟩ := I.base.there a o q (by rw [hex]; simp)
        rw [nsa] at e; cases e
    · obtain ⟨v, o, e1, e2⟩ := I6.cell y c e
      rw [z] at e1
      rw [he6] at e1; cases e1
      rw [hd6] at e2; cases e2
    · have := (I.pin p hq).1
      rw [z, nsa] at this; cases this
  refine store_ok (X := X.held a) I7.held hN hj (.inl hl) (show RelV (V.ref a) (Value.ref a) from rfl) (fun s8 I8 => ?_) (.inr hl)
  refine wpAny_mono (ht a _ pins s8 _ _ (ends_as D j) (I8.wish _) (run a an)) (fun f s9 h9 => ?_) fun _ _ x => x
  cases f with
  | next =>
    obtain ⟨σ', H2, I9, q⟩ := h9
    exact name_goes (Inv.unheld I.ok I9.unwish) hN hj hl fun s10 I10 => ⟨_, H2, I10, q⟩
  | brk =>
    obtain ⟨σ', H2, I9, q⟩ := h9
    exact name_goes (Inv.unheld I.ok I9.unwish) hN hj hl fun s10 I10 => ⟨_, H2, I10, q⟩
  | cont =>
    obtain ⟨σ', H2, I9, q⟩ := h9
    exact name_goes (Inv.unheld I.ok I9.unwish) hN hj hl fun s10 I10 => ⟨_, H2, I10, q⟩
  | ret u =>
    obtain ⟨v, σ', H2, I9, r, q⟩ := h9
    exact name_goes (Inv.unheld I.ok I9.unwish) hN hj hl fun s10 I10 => ⟨v, _, H2, I10, r, q⟩
end
end L2
namespace L2
open PySem PySem.Spec PyProof.Rows
section
variable {X : Cx} {pins : List (Addr × Obj)} {σ : St} {H : Hp} {s s' : Shared} {E : XK} {cx n x fx : Str} {f C2 : Addr} {fd : FuncData} {ps : List Str} {sp : Sp} {dvs : List V} {ds : List Value} {bmB : List Value} {newId : String} {np hp p px apos cpos tpos : Pos} {i j k : Nat} {b₀ : Stmt} {suite : List Stmt} {e0 : Expr} {es : List Expr} {ta : TA} {t : TS}
def CatchE (K : PySem.W.Frag) (C2 : Addr) (j : Nat) (t : TS) (D : Ends) (σ : St) : XK := fun C _ H' => ∃ C0 bmB0 newId0, C = .ref C0 ∧ PySem.W.excIn K C0 bmB0 newId0 = true ∧ kSub K C0 C2 = true ∧ ∀ a, H' a = none → t (ends_as D j) (σ.set j (some (.ref a))) (upd H' a (excAt a (.ref C0)))
def tTryAs (K : PySem.W.Frag) (C2 : Addr) (i j : Nat) (sp : Sp) (dvs : List V) (ta : TA) (t : TS) : TS := fun D σ H => ta σ H fun vs H1 => sp (vs ++ dvs) H1 (fun v H2 => D.nx (σ.set i (some v)) H2) (CatchE K C2 j t D σ)
theorem ps_try_as (stk : X.stack = X.env :: X.outer) (frm : X.env.frame = some X.env.locals) (hex : X.ex = []) (hN : X.N.Nodup) (hi : X.N[i]? = some x) (hx : Loc X.env.scope x) (hj : X.N[j]? = some n) (hl : X.env.scope.names.lookup n = some .local)
    (hg : Gl X cx) (hm : X.mg cx = some (.ref C2)) (q2 : PySem.W.excIn X.K C2 bmB newId = true) (hb2 : bmB.contains (.type "BaseException") = true) (hd : (cx == ("__debug__" : Str)) = false)
    (F : FnOk X.prog X.w X.K X.mg X.base (CXr X.prog X.w) k f fd ps sp) (hr : Room k X.A) (hgf : Gl X fx) (hmf : X.mg fx = some (.ref f)) (hk : PySem.W.keepIn X.K (.ref f) = true) (hb : Binds X.K fd ps ds) (hdv : Vals dvs ds)
    (ha : ∀ XE, PA (X.wish XE) (e0 :: es) ta) (ht : ∀ a XE, PSs ((X.held a).wish XE) (b₀ :: suite) t) (hdb : (fx == ("__debug__" : Str)) = false := by decide)
    (hst : starEach (e0 :: es) X.env = (false, eval e0 X.env) :: starEach es X.env := by rfl) (hpl : (backTo cpos (starEach es X.env)).any (·.1) = false := by rfl)
    (hs : swapsWith (.Call (.Name fx p) (e0 :: es) [] cpos) (some (.Name x px)) apos.line X.env = pure false := by rfl) (hf : X.fn x = true ∨ X.env.scope.names.lookup x = some .local := by first | exact .inl rfl | exact .inr rfl | assumption) :
    PS X (.Try [.Assign [.Name x px] (.Call (.Name fx p) (e0 :: es) [] cpos) apos] [.ExceptHandler (some (.Name cx np)) (some n) (b₀ :: suite) hp] [] [] tpos) (tTryAs X.K C2 i j sp dvs ta t) := by
  intro pins s σ H D I h
  refine wpAny_Try_except ?_
  obtain ⟨XE, hXE⟩ : ∃ XE : Value → Shared → Prop, XE = fun e s₁ => wpAny (model X.prog X.w) X.A (noteFrame e X.env) (fun _ s₂ => wpAny (model X.prog X.w) X.A (setFlight e none) (fun _ s₃ =>
        wpAny (model X.prog X.w) X.A (handleBy e X.env [.ExceptHandler (some (.Name cx np)) (some n) (b₀ :: suite) hp]) (SP X pins D) X.xe s₃) X.xe s₂) X.xe s₁ := ⟨_, rfl⟩
  rw [← hXE]
  have body : wpAny (model X.prog X.w) X.A (exec (.Assign [.Name x px] (.Call (.Name fx p) (e0 :: es) [] cpos) apos) X.env) (fun fl s1 => fl = .next ∧ SP X pins D .next s1) XE s := by
    refine wpAny_Assign_Name ?_ hs
    refine wpAny_Call_Name_kw (ld_glob I hgf hmf ?_ hdb)
    refine PySem.W.callWith_K (h₀ := X.base) I.ok.mod.kin hk (thn (ha XE cpos pins s σ H _ (I.wish XE) h) fun us s1 ⟨vs, H1, I1w, r, q⟩ => ⟨I1w.unwish.kIn, ?_⟩) hst hpl
    have I1 := I1w.unwish
    have r2 : Vals (vs ++ dvs) (us ++ ds) := r.append hdv
    have hlen : (us ++ ds).length = ps.length := by rw [← r2.length]; exact F.len _ _ _ _ q
    refine wpAny_call (codeAny_mono (F.run X.A X.stack s1 H1 ⟨us, []⟩ (us ++ ds) (vs ++ dvs) _ _ hr I1.env0 (hb s1 us I1.kIn hlen) r2 q) fun res s' hq => ?_)
    cases res with
    | error e =>
      rw [hXE]
      exact caught_as stk frm hex hN hj hl hg hm q2 hb2 hd ht I1 hq fun C H' hE => hE
    | ok fl =>
      cases fl with
      | ret u =>
        obtain ⟨v, H2, I2, rv, q2⟩ := I1.after hq
        exact store_ok I2 hN hi hx rv (fun s2 I3 => ⟨rfl, _, H2, I3, q2⟩) hf
      | next => exact False.elim hq
      | brk => exact False.elim hq
      | cont => exact False.elim hq
  refine wpAny_execs_cons (thn body fun fl s1 q => ?_)
  obtain ⟨rfl, q⟩ := q
  exact wpAny_execs_nil (wpAny_execs_nil q)
end
end L2
set_option Elab.async false
set_option linter.all false
set_option maxRecDepth 100000
set_option autoImplicit false
namespace DL
open PySem L2
variable {B : Bs}
abbrev Xv := List D → Sto → Option ((D ⊕ Nat) × Sto)
abbrev Svx := En → Sto → Option (((Fl × En) ⊕ Nat) × Sto)
def dnX (K : PySem.W.Frag) (B : Bs) (ι : Lm) (S : Sto) (H : Hp) (E : XK) (n : Nat) (S' : Sto) : Prop := ∀ ι' H', Fr ι S H ι' S' H' → HR K B ι' S' H' → ∃ C, B.cls n = some C ∧ E (.ref C) none H'
def upFX (K : PySem.W.Frag) (B : Bs) (n : Nat) (F : Xv) : Sp := fun vs H Q E => vs.length = n ∧ ∃ ds ι S, Rps K ι H ds vs ∧ HR K B ι S H ∧ ((∃ d S', F ds S = some (.inl d, S') ∧ dn K B ι S H Q d S') ∨ (∃ m S', F ds S = some (.inr m, S') ∧ dnX K B ι S H E m S'))
def upSX (K : PySem.W.Frag) (B : Bs) (E : XK) (t : Svx) : TS := fun D σ H => ∃ ρ ι S, EnvR K ι H σ ρ ∧ HR K B ι S H ∧ ((∃ f ρ' S', t ρ S = some (.inl (f, ρ'), S') ∧ dnS K B ι S H D f ρ' S') ∨ (∃ m S', t ρ S = some (.inr m, S') ∧ dnX K B ι S H E m S'))
structure PLX (B : Bs) (X : Cx) (E : XK) (st : Stmt) (t : Svx) : Prop where
  p : PS X st (upSX X.K B E t)
structure PLXs (B : Bs) (X : Cx) (E : XK) (st : List Stmt) (t : Svx) : Prop where
  p : PSs X st (upSX X.K B E t)
theorem dnX.fr {K : PySem.W.Frag} {ι ι1 : Lm} {S S1 S2 : Sto} {H H1 : Hp} {E : XK} {m : Nat} (q : dnX K B ι S H E m S2) (f : Fr ι S H ι1 S1 H1) : dnX K B ι1 S1 H1 E m S2 := fun ι' H' g h => q ι' H' (f.trans g) h
section
variable {X : Cx} {E : XK} {st : Stmt} {sts sts' : List Stmt} {c : Expr} {pos : Pos} {lA : Tv}
def xLift (t : Sv) : Svx := fun ρ S => (t ρ S).map fun q => (.inl (q.1, q.2.1), q.2.2)
theorem lift_up {K : PySem.W.Frag} {t : Sv} {D : Ends} {σ : St} {H : Hp} : upSX K B E (xLift t) D σ H → upS K B t D σ H := fun ⟨ρ, ι, S, er, hr, h⟩ => by
  rcases h with ⟨f, ρ', S', h, q⟩ | ⟨m, S', h, q⟩
  · obtain ⟨⟨f1, ρ1, S1⟩, h1, e⟩ := mp h
    cases e
    exact ⟨ρ, ι, S, er, hr, f1, ρ1, S1, h1, q⟩
  · obtain ⟨_, _, e⟩ := mp h
    cases e
theorem lxlifts {t : Sv} (h : PLSs B X sts t) : PLXs B X E sts (xLift t) := ⟨PSs.weak h.p fun _ _ _ => lift_up⟩
theorem lxone {t : Svx} (h : PLX B X E st t) : PLXs B X E [st] t := ⟨pss_one h.p⟩
def xSeq (t u : Svx) : Svx := fun ρ S => (t ρ S).bind fun p => match p.1 with
  | .inl (.nx, ρ') => u ρ' p.2
  | r => some (r, p.2)
theorem lxcons {t u : Svx} (h1 : PLX B X E st t) (h2 : PLXs B X E sts u) : PLXs B X E (st :: sts) (xSeq t u) :=
  ⟨PSs.weak (pss_cons h1.p h2.p) fun D σ H ⟨ρ, ι, S, er, hr, h⟩ => by
    rcases h with ⟨f, ρ', S', h, q⟩ | ⟨m, S', h, q⟩
    · obtain ⟨⟨r, S1⟩, e1, h⟩ := bd h
      refine ⟨ρ, ι, S, er, hr, ?_⟩
      cases r with
      | inr m => cases h
      | inl fp =>
        obtain ⟨f1, ρ1⟩ := fp
        refine .inl ⟨f1, ρ1, S1, e1, ?_⟩
        cases f1 with
        | nx => exact fun σ1 ι1 H1 g er1 hr1 => ⟨ρ1, ι1, S1, er1, hr1, .inl ⟨f, ρ', S', h, q.fr g⟩⟩
        | rt d => cases h; exact q
        | bk => cases h; exact q
        | ct => cases h; exact q
    · obtain ⟨⟨r, S1⟩, e1, h⟩ := bd h
      refine ⟨ρ, ι, S, er, hr, ?_⟩
      cases r with
      | inr m1 => cases h; exact .inr ⟨_, _, e1, q⟩
      | inl fp =>
        obtain ⟨f1, ρ1⟩ := fp
        refine .inl ⟨f1, ρ1, S1, e1, ?_⟩
        cases f1 with
        | nx => exact fun σ1 ι1 H1 g er1 hr1 => ⟨ρ1, ι1, S1, er1, hr1, .inr ⟨m, S', h, q.fr g⟩⟩
        | rt d => cases h
        | bk => cases h
        | ct => cases h⟩
def xIf (lA : Tv) (t u : Svx) : Svx := fun ρ S => (lA ρ S).bind fun p => if p.1 = true then t ρ p.2 else u ρ p.2
theorem lxif {t u : Svx} (hc : PLT B X c lA) (ha : PLXs B X E sts t) (hb : PLXs B X E sts' u) : PLX B X E (.If c sts sts' pos) (xIf lA t u) :=
  ⟨PS.weak (ps_if hc.p ha.p hb.p) fun D σ H ⟨ρ, ι, S, er, hr, h⟩ => by
    rcases h with ⟨f, ρ', S', h, q⟩ | ⟨m, S', h, q⟩
    · obtain ⟨⟨x, S1⟩, h1, h⟩ := bd h
      refine upT_then er hr h1 fun ι1 H1 f1 er1 hr1 => ?_
      cases x with
      | true => rw [if_pos rfl] at h ⊢; exact ⟨ρ, ι1, S1, er1, hr1, .inl ⟨f, ρ', S', h, q.fr f1⟩⟩
      | false => rw [if_neg Bool.false_ne_true] at h ⊢; exact ⟨ρ, ι1, S1, er1, hr1, .inl ⟨f, ρ', S', h, q.fr f1⟩⟩
    · obtain ⟨⟨x, S1⟩, h1, h⟩ := bd h
      refine upT_then er hr h1 fun ι1 H1 f1 er1 hr1 => ?_
      cases x with
      | true => rw [if_pos rfl] at h ⊢; exact ⟨ρ, ι1, S1, er1, hr1, .inr ⟨m, S', h, q.fr f1⟩⟩
      | false => rw [if_neg Bool.false_ne_true] at h ⊢; exact ⟨ρ, ι1, S1, er1, hr1, .inr ⟨m, S', h, q.fr f1⟩⟩⟩
def xRs (n : Nat) : Svx := fun _ S => some (.inr n, S)
theorem lxraise {x : Str} {C : Addr} {bmB : List Value} {B' newId initId : String} {z : Str} {np cpos cp : Pos} {ck n : Nat} (L : Leaves X E) (F : ExcBaseFacts B' newId initId bmB) (hc : X.calm = true) (hg : Gl X x) (hm : X.mg x = some (.ref C)) (hB : B.cls n = some C) (q : PySem.W.excIn X.K C bmB newId = true) (hdb : (x == ("__debug__" : Str)) = false := by decide) :
    PLX B X E (.Raise (some (.Call (.Name x np) [.Constant (.str z) ck cp] [] cpos)) none pos) (xRs n) :=
  ⟨PS.weak (ps_raise L F hc hg hm q hdb) fun D σ H ⟨ρ, ι, S, er, hr, h⟩ => by
    rcases h with ⟨f, ρ', S', h, _⟩ | ⟨m, S', h, q⟩
    · cases h
    · cases h
      obtain ⟨C', e, h⟩ := q ι H .refl hr
      rw [hB] at e; cases e
      exact h⟩
end
def fnRunX (n : Nat) (t : Svx) : Xv := fun ds S => (t (ds.map some ++ List.replicate (n - ds.length) none) S).bind fun p => match p.1 with
  | .inl (.rt d, _) => some (.inl d, p.2)
  | .inl (.nx, _) => some (.inl .non, p.2)
  | .inr m => some (.inr m, p.2)
  | _ => none
section
variable {P : Program} {w : World} {K : PySem.W.Frag} {mg : Str → Option Value} {base : Heap}
open PyProof.Rows in
theorem fokX {x qual : Str} {st : Stmt} {f : Addr} {fd : FuncData} {N ps : List Str} {k : Nat} {t : Svx} (F : Fun K x qual st f fd) (S : FnScope N ps (defScope st))
    (hbody : ∀ (cdv : Value) (A : Around) (outer : List Env) (s : Shared) (H : Hp) (E : XK), fd.code = cdv → Room k (A.deeper (envOfC qual (defScope st) s.heap.objs.size f cdv)) →
      PLXs B (cxOf (CXr P w) P w K mg base N qual (defScope st) f cdv A outer s H E) E (defBody st) t) : FnOk P w K mg base (CXr P w) (k + 1) f fd ps (upFX K B ps.length (fnRunX N.length t)) := by
  obtain ⟨oc, od, kV, doc, pm, an, cdv, ct, osl, rfl, lk, hcd⟩ := F.ex
  refine fn_of lk hcd S (fun vs H Q E h => h.1) fun A outer s H vs Q E hr h => ?_
  obtain ⟨hl, ds, ι, So, r, hrr, h⟩ := h
  refine ⟨_, (hbody cdv A outer s H E rfl hr).p, ?_⟩
  have er : EnvR K ι H (L2.start N vs) (ds.map some ++ List.replicate (N.length - ds.length) none) := by
    unfold L2.start
    rw [r.length]
    exact start_env (N := N) r _
  rcases h with ⟨d, S', h, q⟩ | ⟨m, S', h, q⟩
  · obtain ⟨⟨r1, S1⟩, h1, h⟩ := bd h
    cases r1 with
    | inr m => cases h
    | inl fp =>
      obtain ⟨fl, ρ1⟩ := fp
      refine ⟨_, ι, So, er, hrr, .inl ⟨fl, ρ1, S1, h1, ?_⟩⟩
      cases fl with
      | rt d1 => cases h; exact q
      | nx => cases h; exact fun σ' ι' H' f' er' hr' => q .non ι' H' f' rfl hr'
      | bk => cases h
      | ct => cases h
  · obtain ⟨⟨r1, S1⟩, h1, h⟩ := bd h
    cases r1 with
    | inr m1 => cases h; exact ⟨_, ι, So, er, hrr, .inr ⟨_, _, h1, q⟩⟩
    | inl fp =>
      obtain ⟨fl, ρ1⟩ := fp
      cases fl <;> cases h
end
end DL
set_option Elab.async false
set_option linter.all false
set_option maxRecDepth 100000
set_option autoImplicit false
namespace DL
open PySem L2
variable {B : Bs}
def sTryAs (i j : Nat) (subs : List Nat) (F : Xv) (tr : Av) (ts : Sv) : Sv := fun ρ S => (tr ρ S).bind fun p => match F p.1 p.2 with
  | some (.inl d, S') => some (.nx, ρ.set i (some d), S')
  | some (.inr m, S') => if m ∈ subs then (ts (ρ.set j (some (.ref S'.length))) (S' ++ [.x (.exc m)])).bind fun q => match q.1 with
    | .nx => some (.nx, q.2.1.set j none, q.2.2)
    | .rt d => some (.rt d, q.2.1, q.2.2)
    | _ => none else none
  | none => none
section
variable {X : Cx} {cx n x fx : Str} {f C2 : Addr} {fd : FuncData} {ps : List Str} {bmB : List Value} {newId : String} {np hp p px apos cpos tpos : Pos} {i j k : Nat} {b₀ : Stmt} {suite : List Stmt} {e0 : Expr} {es : List Expr} {tr : Av} {ts : Sv} {F : Xv} {subs : List Nat}
theorem ltry_as (stk : X.stack = X.env :: X.outer) (frm : X.env.frame = some X.env.locals) (hex : X.ex = []) (hN : X.N.Nodup) (hi : X.N[i]? = some x) (hx : Loc X.env.scope x) (hj : X.N[j]? = some n) (hl : X.env.scope.names.lookup n = some .local)
    (hg : Gl X cx) (hm : X.mg cx = some (.ref C2)) (q2 : PySem.W.excIn X.K C2 bmB newId = true) (hb2 : bmB.contains (.type "BaseException") = true) (hd : (cx == ("__debug__" : Str)) = false)
    (hsub : ∀ m ∈ subs, ∃ C0 bmB0 newId0, B.cls m = some C0 ∧ PySem.W.excIn X.K C0 bmB0 newId0 = true ∧ kSub X.K C0 C2 = true)
    (G : FnOk X.prog X.w X.K X.mg X.base (CXr X.prog X.w) k f fd ps (upFX X.K B ps.length F)) (hr : Room k X.A) (hgf : Gl X fx) (hmf : X.mg fx = some (.ref f)) (hk : PySem.W.keepIn X.K (.ref f) = true) (hb : Binds X.K fd ps [])
    (ha : ∀ XE, PLA B (X.wish XE) (e0 :: es) tr) (ht : ∀ a XE, PLSs B ((X.held a).wish XE) (b₀ :: suite) ts) (hlen : (e0 :: es).length = ps.length) (hal : ∀ ρ S ds S', tr ρ S = some (ds, S') → ds.length = (e0 :: es).length) (hdb : (fx == ("__debug__" : Str)) = false := by decide)
    (hst : starEach (e0 :: es) X.env = (false, eval e0 X.env) :: starEach es X.env := by rfl) (hpl : (backTo cpos (starEach es X.env)).any (·.1) = false := by rfl)
    (hs : swapsWith (.Call (.Name fx p) (e0 :: es) [] cpos) (some (.Name x px)) apos.line X.env = pure false := by rfl) (hf : X.fn x = true ∨ X.env.scope.names.lookup x = some .local := by first | exact .inl rfl | exact .inr rfl | assumption) :
    PLS B X (.Try [.Assign [.Name x px] (.Call (.Name fx p) (e0 :: es) [] cpos) apos] [.ExceptHandler (some (.Name cx np)) (some n) (b₀ :: suite) hp] [] [] tpos) (sTryAs i j subs F tr ts) :=
  PLS.wk (ps_try_as (ta := upA X.K B tr) (t := upS X.K B ts) stk frm hex hN hi hx hj hl hg hm q2 hb2 hd G hr hgf hmf hk hb .nil (fun XE => (ha XE).p) (fun a XE => (ht a XE).p) hdb hst hpl hs hf) fun D σ H ⟨ρ, ι, S, er, hh, fl, ρ', S', h, q⟩ => by
    obtain ⟨⟨xs, S1⟩, h1, h⟩ := bd h
    show upA X.K B tr σ H _
    refine upA_then er hh h1 fun vs ι1 H1 f1 er1 r1 hr1 => ?_
    refine ⟨?_, xs, ι1, S1, by rw [List.append_nil]; exact r1, hr1, ?_⟩
    · rw [List.append_nil, ← r1.length, hal _ _ _ _ h1]
      exact hlen
    · cases e : F xs S1 with
      | none => simp only [e] at h; cases h
      | some r =>
        obtain ⟨r, S2⟩ := r
        simp only [e] at h
        cases r with
        | inl d =>
          cases h
          exact .inl ⟨d, _, rfl, fun v ι2 H2 f2 r2 hr2 => q _ ι2 H2 (f1.trans f2) ((er1.ext (f2.ext hr1)).set i r2) hr2⟩
        | inr m =>
          by_cases hmem : m ∈ subs
          · simp only [if_pos hmem] at h
            obtain ⟨⟨f3, ρ3, S3⟩, h3, h⟩ := bd h
            obtain ⟨C0, bm0, new0, hB, q0, sb⟩ := hsub m hmem
            refine .inr ⟨m, S2, rfl, fun ι2 H2 f2 hr2 => ⟨C0, hB, C0, bm0, new0, rfl, q0, sb, fun a an => ?_⟩⟩
            have hrn : HR X.K B (ι2 ++ [a]) (S2 ++ [.x (.exc m)]) (upd H2 a (excAt a (.ref C0))) := hr2.new an ⟨C0, hB, upd_same⟩ trivial
            have fn : Fr ι2 S2 H2 (ι2 ++ [a]) (S2 ++ [.x (.exc m)]) (upd H2 a (excAt a (.ref C0))) := .new hr2 an
            have er2 := (er1.ext (f2.ext hr1)).ext (fn.ext hr2)
            refine ⟨ρ.set j (some (.ref S2.length)), _, _, er2.set j ⟨a, new_at hr2, rfl⟩, hrn, f3, ρ3, S3, h3, ?_⟩
            have F := (f1.trans f2).trans fn
            cases f3 with
            | nx => cases h; exact fun σ' ι' H' g er' hr' => q _ ι' H' (F.trans g) (er'.setN j) hr'
            | rt d => cases h; exact fun v ι' H' g r' hr' => q v ι' H' (F.trans g) r' hr'
            | bk => cases h
            | ct => cases h
          · simp only [if_neg hmem] at h
            cases h
end
end DL
set_option Elab.async false
set_option linter.all false
set_option maxRecDepth 100000
set_option autoImplicit false
namespace PySem.W
open PySem PySem.Spec PySem.Calls PyProof.Rows
open PySem.Builtin PySem.Builtin.ObjectAttr PySem.Builtin.Getset_descriptor
def ExAt (x D : Addr) (h : Heap) : Prop := ∃ ox, h.get? x = some ox ∧ ox.cls = .ref D
structure ExcK (K : Frag) (D : Addr) : Prop where
  ga : findIn K (.ref D) "__getattribute__" = some (some (.builtin "BaseException.__getattribute__"))
  gt : findIn K (.ref D) "__getattr__" = some none
  is : (clsIn K D).isSome = true
  ob : mroIn K D (.type "object") = some true
  be : mroIn K D (.type "BaseException") = some true
  cl : findIn K (.ref D) "__class__" = some (some (.builtin "object.__class__"))
  cg : specialIn K (.builtin "object.__class__") "__get__" = some (some (.builtin "getset_descriptor.__get__"))
  ct : takesIn K (.builtin "object.__class__") = some true
section
variable {prog : Program} {w : World} {A : Around} {E : Value → Shared → Prop} {s : Shared} {K : Frag} {x D : Addr} {name : Str}
theorem ExAt.type {M : Model} {h : Heap} (I : ExAt x D h) : Looks M h (typeOf (.ref x)) (.ref D) := by
  obtain ⟨ox, e, c⟩ := I
  exact c ▸ (Looks.ld e).andThen .now
theorem exc_find {M : Model} {h : Heap} (X : K.In h) (k : ExcK K D) : Looks M h (find (.ref x) (.ref D) "__class__") (.bind (.builtin "getset_descriptor.__get__") (.builtin "object.__class__")) := by
  refine (looks_findIn (M := M) X k.cl).andThen ((show Looks M h (getOf (some (.builtin "object.__class__"))) _ from looks_specialIn X k.cg).andThen ?_)
  exact (show Looks M h (dataDescriptor? (some (.builtin "object.__class__")) (some (.builtin "getset_descriptor.__get__"))) (some (.builtin "getset_descriptor.__get__", .builtin "object.__class__")) from (looks_takesIn (M := M) X k.ct).andThen .now).andThen (Looks.tag .now)
theorem exc_class_get {tp : Value} {R : Result → Shared → Prop} (X : K.In s.heap) (I : ExAt x D s.heap) (k : ExcK K D) (h : R (.ok (.ret (.ref D))) s) :
    codeAny (model prog w) A (.call (.builtin "getset_descriptor.__get__") ⟨[.builtin "object.__class__", .ref x, tp], []⟩) R s := by
  obtain ⟨hh, g, dr, t, os⟩ := s
  have L0 : Looks (model prog w) hh (typeOf (.ref x)) (.ref D) := ExAt.type I
  have L1 := looks_mroIn (M := model prog w) X k.ob
  refine codeAny_call_builtin KF.slot_gs.plain KF.entry_gs (KF.slot_gs.check _ _ _ _ _ _ _ _ KF.type_class (KF.args_gs _ _ _) ?_)
  unfold Builtin.«getset_descriptor.__get__» descrGet
  rw [dga_obj]
  refine wpAny_bind (wpAny_pure ?_)
  unfold descrGetter descrCheckInstance descrNameAndClass isInstance
  simp only [KF.owner_class]
  repeat lk
  refine ⟨Code.quiet_builtin _ (by decide +kernel), codeAny_builtin KF.entry_class ?_⟩
  unfold Builtin.«object.__class__» shownTypeOf
  repeat lk
  exact h
theorem bga_check {rest : List Value} {kw : List (Str × Value)} {Q : Unit → Shared → Prop} (X : K.In s.heap) (I : ExAt x D s.heap) (k : ExcK K D) (ha : argsOk "BaseException.__getattribute__" ⟨.ref x :: rest, kw⟩) (hQ : Q () s) :
    wpAny (model prog w) A (checkBuiltinCall "BaseException.__getattribute__" ⟨.ref x :: rest, kw⟩) Q E s := by
  have L0 := ExAt.type (M := model prog w) I
  have L1 := looks_mroIn (M := model prog w) X k.be
  have LI : Looks (model prog w) s.heap (isInstance (.ref x) (.type "BaseException")) true := L0.andThen L1
  have hsplit : splitId "BaseException.__getattribute__" = some ("BaseException", "__getattribute__") := by decide +kernel
  have hk : builtinKind "BaseException.__getattribute__" = some .slot := by decide +kernel
  simp only [checkBuiltinCall, hk, hsplit]
  refine wpAny_bind (LI.at ?_)
  simp only [Bool.not_true, Bool.false_eq_true, if_false]
  cases hsig : Manifest.signature? "BaseException.__getattribute__" with
  | none => exact wpAny_pure hQ
  | some sig =>
    simp only [argsOk, hsig] at ha
    have h2 : Bind.checkArgs "BaseException.__getattribute__" sig ⟨.ref x :: rest, kw⟩ = pure () := ha
    show wpAny _ A (Bind.checkArgs "BaseException.__getattribute__" sig ⟨.ref x :: rest, kw⟩) Q E s
    rw [h2]; exact wpAny_pure hQ
theorem bga_bind (self : Value) : bindSpecial (.builtin "BaseException.__getattribute__") self = pure (.builtin "BaseException.__getattribute__", [self]) := F.excAttr_ValueError.ga.bind self
theorem bga_call {tk : Tok} {R : Result → Shared → Prop} (X : K.In s.heap) (I : ExAt x D s.heap) (k : ExcK K D) (h : R (.ok (.ret (.ref D))) s) :
    codeAny (model prog w) A (.call (.builtin "BaseException.__getattribute__") ⟨[.ref x, .str "__class__" tk], []⟩) R s := by
  have L0 := ExAt.type (M := model prog w) I
  have L1 := exc_find (x := x) (M := model prog w) X k
  refine codeAny_call_builtin F.excAttr_ValueError.ga.plain F.entry_bexc_ga (bga_check X I k (F.args_bexc_ga _ _) ?_)
  refine wpAny_bind (wpAny_pure (wpAny_bind (wpAny_pure (wpAny_bind (L0.at (wpAny_bind (L1.at ?_)))))))
  show wpAny _ _ (holding _ (call _ _) >>= ret) _ _ _
  exact wpAny_bind (wpAny_holding (wpAny_call (exc_class_get X I k (wpAny_pure h))))
theorem exc_class {Q : Option Value → Shared → Prop} (X : K.In s.heap) (I : ExAt x D s.heap) (k : ExcK K D) (h : Q (some (.ref D)) { s with toks := s.toks + 1 }) : wpAny (model prog w) A (getAttr? (.ref x) "__class__") Q E s := by
  have L0 := ExAt.type (M := model prog w) I
  have L1 := looks_findIn (M := model prog w) X k.ga
  have L2 := looks_findIn (M := model prog w) X k.gt
  obtain ⟨hh, g, d, t, os⟩ := s
  unfold getAttr? getAttrBy? getAttrBy
  refine wpAny_bind (wpAny_mkText (wpAny_bind (wpAny_attempt (wpAny_holding (wpAny_bind (L0.at (wpAny_bind (L1.at ?_))))))))
  show wpAny _ _ (getAttrByItsOwn _ _ _ _ _ _) _ _ _
  unfold getAttrByItsOwn
  show wpAny _ _ (typeLookup (.ref D) "__getattr__" >>= _) _ _ _
  refine wpAny_bind (L2.at ?_)
  refine wpAny_bind (wpAny_attempt (wpAny_holding ?_))
  show wpAny _ _ (boundAndCalled _ _ _) _ _ _
  unfold boundAndCalled
  rw [bga_bind]
  refine wpAny_bind (wpAny_pure ?_)
  refine wpAny_call (bga_call (s := ⟨hh, g, d, t + 1, os⟩) X I k ?_)
  exact handed_on rfl (wpAny_pure h)
theorem ExcK.kit (k : ExcK K D) : KitX K (.ref x) (.ref D) (ExAt x D) where
  ty := fun _ _ _ I => I.type
  it := fun _ _ X _ => by
    have hcD := k.is
    unfold clsIn at hcD
    split at hcD
    · rename_i c' d' cd' sl' ho
      intro A' Q' E' s' k q
      unfold isType loadHead
      exact wpAny_bind (wpAny_loadPart (k _ _ (X _ _ ho)) (wpAny_pure q))
    · cases hcD
  ne := fun h tp dd its n sl X htp => by
    have hcD := k.is
    refine Bool.eq_false_iff.mpr fun q => ?_
    have e : D = tp := Value.ref.inj (beq_iff_eq.mp q)
    subst e
    unfold clsIn at hcD
    split at hcD
    · rename_i c' d' cd' sl' ho
      have z := (X _ _ ho).symm.trans htp
      cases z
    · cases hcD
  ca := fun X I q => exc_class X I k q
end
end PySem.W
set_option Elab.async false
set_option linter.all false
set_option maxRecDepth 100000
set_option autoImplicit false
namespace L2
open PySem PySem.Spec
section
variable {X : Cx}
theorem exc_at {pins : List (Addr × Obj)} {σ : St} {H : Hp} {s : Shared} {a C0 : Addr} (I : Inv X pins σ H s) (h : H a = some (excAt a (.ref C0))) : PySem.W.ExAt a C0 s.heap := by
  obtain ⟨⟨o, ws, e, c, _⟩, _⟩ := I.hok a _ h
  exact ⟨o, e, c⟩
theorem call_isix : CallR X (.builtin "isinstance") (fun xs H Q => ∃ a C0 v c b, xs = [.ref a, v] ∧ H a = some (excAt a (.ref C0)) ∧ PySem.W.ExcK X.K C0 ∧ (∀ u, RelV v u → u = c) ∧ PySem.W.kitOne X.K (.ref C0) c = some b ∧ Q (.bl b) H) := by
  intro pins s σ H xs us Q I r h
  obtain ⟨a, C0, v, c, b, rfl, ha, k, hv, e, q⟩ := h
  cases r with
  | cons r1 r2 =>
    cases r2 with
    | cons r3 r4 =>
      cases r4
      cases (show _ = Value.ref a from r1)
      cases hv _ r3
      exact PySem.W.kia_one (PySem.W.ExcK.kit k) I.kIn (exc_at I ha) e (fun z => nomatch z) fun tk => ⟨.bl b, H, I.tok tk, rfl, q⟩
theorem call_isixs : CallR X (.builtin "isinstance") (fun xs H Q => ∃ a C0 p vs cs b, xs = [.ref a, .ref p] ∧ H a = some (excAt a (.ref C0)) ∧ PySem.W.ExcK X.K C0 ∧ H p = some (.tup vs) ∧ (∀ us, Vals vs us → us = cs) ∧ PySem.W.kitAny X.K (.ref C0) cs = some b ∧ Q (.bl b) H) := by
  intro pins s σ H xs us Q I r h
  obtain ⟨a, C0, p, vs, cs, b, rfl, ha, k, hp, hv, e, q⟩ := h
  cases r with
  | cons r1 r2 =>
    cases r2 with
    | cons r3 r4 =>
      cases r4
      cases (show _ = Value.ref a from r1)
      cases (show _ = Value.ref p from r3)
      obtain ⟨_, its, rv, ob, h1, h2, n, h3⟩ := I.hok p _ hp
      obtain ⟨c', d', dd', sl'⟩ := ob
      cases h2
      cases h3
      cases hv _ rv
      exact PySem.W.kia_tup (PySem.W.ExcK.kit k) I.kIn (exc_at I ha) h1 e (fun z => nomatch z) fun tk => ⟨.bl b, H, I.tok tk, rfl, q⟩
end
end L2
namespace DL
open PySem L2
variable {B : Bs}
def eIsiX (tab : Nat → Option Bool) (te : Ev) : Ev := fun ρ S => (te ρ S).bind fun p => match p.1 with
  | .ref l => match p.2[l]? with
    | some (.x (.exc m)) => (tab m).map fun b => (.bl b, p.2)
    | _ => none
  | _ => none
section
variable {X : Cx} {e : Expr} {te : Ev} {x y : Str} {p0 p1 pos : Pos} {tab : Nat → Option Bool} {C2 : Addr}
theorem lisix (hg : Gl X "isinstance") (hm : X.mg "isinstance" = none) (he : PL B X e te) (hgy : Gl X y) (hmy : X.mg y = some (.ref C2)) (hk : ∀ m b, tab m = some b → ∃ C0, B.cls m = some C0 ∧ PySem.W.ExcK X.K C0 ∧ PySem.W.kitOne X.K (.ref C0) (.ref C2) = some b)
    (hdy : (y == ("__debug__" : Str)) = false := by decide) (hst : starEach [e, .Name y p1] X.env = (false, eval e X.env) :: starEach [.Name y p1] X.env := by rfl) : PL B X (.Call (.Name "isinstance" p0) [e, .Name y p1] [] pos) (eIsiX tab te) :=
  PL.wk (pe_callB call_isix hg hm bt_isinstance (pa_cons he.p (pa_cons (pe_glob (v := .ref C2) hgy hmy rfl hdy) pa_nil) hst) (he := hst)) fun σ H Q ⟨ρ, ι, S, er, hr, d, S', h, q⟩ => by
    obtain ⟨⟨x, S1⟩, h1, h⟩ := bd h
    refine up_then er hr h1 fun v ι1 H1 f1 er1 r1 hr1 => ?_
    cases x with
    | ref l =>
      simp only at h
      split at h
      · rename_i m e1
        obtain ⟨b, hb, e2⟩ := mp h
        cases e2
        obtain ⟨C0, hB, k, kt⟩ := hk m b hb
        obtain ⟨a, rfl, hι, C0', hB', ha⟩ := hr1.ref r1 e1
        rw [hB] at hB'; cases hB'
        exact ⟨a, C0, .ref C2, .ref C2, b, rfl, ha, k, fun u hu => hu, kt, q (.bl b) ι1 H1 f1 rfl hr1⟩
      · cases h
    | _ => cases h
end
end DL
set_option Elab.async false
set_option linter.all false
set_option maxRecDepth 100000
set_option autoImplicit false
namespace DL
open PySem L2
variable {B : Bs}
section
variable {X : Cx} {e : Expr} {te : Ev} {y y1 y2 y3 y4 : Str} {p0 p1 p2 p3 p4 pt pos : Pos} {tab : Nat → Option Bool} {C1 C2 C3 C4 : Addr} {n : String} {kt : Nat}
theorem lisixT (hg : Gl X "isinstance") (hm : X.mg "isinstance" = none) (he : PL B X e te) (hgy : Gl X y) (hmy : X.mg y = none) (hv : bootBuiltins y = some (.type n)) (hn : y ≠ "__name__") (hk : ∀ m b, tab m = some b → ∃ C0, B.cls m = some C0 ∧ PySem.W.ExcK X.K C0 ∧ PySem.W.kitOne X.K (.ref C0) (.type n) = some b)
    (hdy : (y == ("__debug__" : Str)) = false := by decide) (hst : starEach [e, .Name y p1] X.env = (false, eval e X.env) :: starEach [.Name y p1] X.env := by rfl) : PL B X (.Call (.Name "isinstance" p0) [e, .Name y p1] [] pos) (eIsiX tab te) :=
  PL.wk (pe_callB call_isix hg hm bt_isinstance (pa_cons he.p (pa_cons (pe_bltn (v := .ty n) hgy hmy hv rfl hn hdy) pa_nil) hst) (he := hst)) fun σ H Q ⟨ρ, ι, S, er, hr, d, S', h, q⟩ => by
    obtain ⟨⟨x, S1⟩, h1, h⟩ := bd h
    refine up_then er hr h1 fun v ι1 H1 f1 er1 r1 hr1 => ?_
    cases x with
    | ref l =>
      simp only at h
      split at h
      · rename_i m e1
        obtain ⟨b, hb, e2⟩ := mp h
        cases e2
        obtain ⟨C0, hB, k, kv⟩ := hk m b hb
        obtain ⟨a, rfl, hι, C0', hB', ha⟩ := hr1.ref r1 e1
        rw [hB] at hB'; cases hB'
        exact ⟨a, C0, .ty n, .type n, b, rfl, ha, k, fun u hu => hu, kv, q (.bl b) ι1 H1 f1 rfl hr1⟩
      · cases h
    | _ => cases h
theorem lisix4 (hg : Gl X "isinstance") (hm : X.mg "isinstance" = none) (he : PL B X e te) (g1 : Gl X y1) (g2 : Gl X y2) (g3 : Gl X y3) (g4 : Gl X y4) (m1 : X.mg y1 = some (.ref C1)) (m2 : X.mg y2 = some (.ref C2)) (m3 : X.mg y3 = some (.ref C3)) (m4 : X.mg y4 = some (.ref C4))
    (hk : ∀ m b, tab m = some b → ∃ C0, B.cls m = some C0 ∧ PySem.W.ExcK X.K C0 ∧ PySem.W.kitAny X.K (.ref C0) [.ref C1, .ref C2, .ref C3, .ref C4] = some b)
    (d1 : (y1 == ("__debug__" : Str)) = false := by decide) (d2 : (y2 == ("__debug__" : Str)) = false := by decide) (d3 : (y3 == ("__debug__" : Str)) = false := by decide) (d4 : (y4 == ("__debug__" : Str)) = false := by decide)
    (hst : starEach [e, .Tuple [.Name y1 p1, .Name y2 p2, .Name y3 p3, .Name y4 p4] kt pt] X.env = (false, eval e X.env) :: starEach [.Tuple [.Name y1 p1, .Name y2 p2, .Name y3 p3, .Name y4 p4] kt pt] X.env := by rfl) :
    PL B X (.Call (.Name "isinstance" p0) [e, .Tuple [.Name y1 p1, .Name y2 p2, .Name y3 p3, .Name y4 p4] kt pt] [] pos) (eIsiX tab te) :=
  PL.wk (pe_callB call_isixs hg hm bt_isinstance (pa_cons he.p (pa_cons (pe_tup (pa_cons (pe_glob (v := .ref C1) g1 m1 rfl d1) (pa_cons (pe_glob (v := .ref C2) g2 m2 rfl d2) (pa_cons (pe_glob (v := .ref C3) g3 m3 rfl d3) (pa_cons (pe_glob (v := .ref C4) g4 m4 rfl d4) pa_nil))))) pa_nil) hst) (he := hst)) fun σ H Q ⟨ρ, ι, S, er, hr, d, S', h, q⟩ => by
    obtain ⟨⟨x, S1⟩, h1, h⟩ := bd h
    refine up_then er hr h1 fun v ι1 H1 f1 er1 r1 hr1 => ?_
    cases x with
    | ref l =>
      simp only at h
      split at h
      · rename_i m e1
        obtain ⟨b, hb, e2⟩ := mp h
        cases e2
        obtain ⟨C0, hB, k, kv⟩ := hk m b hb
        obtain ⟨a, rfl, hι, C0', hB', ha⟩ := hr1.ref r1 e1
        rw [hB] at hB'; cases hB'
        refine ⟨by show 4 ≤ sizeLine; rw [sizeLine_eq]; decide, fun p np => ⟨a, C0, p, _, [.ref C1, .ref C2, .ref C3, .ref C4], b, rfl, ?_, k, upd_same, fun us hu => ?_, kv, q (.bl b) ι1 _ (f1.trans (.newT hr1 np)) rfl (hr1.newT np)⟩⟩
        · rw [upd_ne (fun z => by rw [z, np] at ha; cases ha)]; exact ha
        · cases hu with
          | cons a1 hu => cases hu with
            | cons a2 hu => cases hu with
              | cons a3 hu => cases hu with
                | cons a4 hu => cases hu; cases a1; cases a2; cases a3; cases a4; rfl
      · cases h
    | _ => cases h
end
end DL
set_option Elab.async false
namespace DL
open PySem L2
theorem tab1 {k m : Nat} {v b : Bool} (h : (if m = k then some v else none) = some b) : k = m ∧ v = b := by
  split at h
  · rename_i e; exact ⟨e.symm, Option.some.inj h⟩
  · cases h
theorem any4 {K : PySem.W.Frag} {t a b c d : Value} {v1 v2 v3 v4 : Bool} (h1 : PySem.W.kitOne K t a = some v1) (h2 : PySem.W.kitOne K t b = some v2) (h3 : PySem.W.kitOne K t c = some v3) (h4 : PySem.W.kitOne K t d = some v4) :
    PySem.W.kitAny K t [a, b, c, d] = some (v1 || (v2 || (v3 || v4))) := by
  cases v1 <;> cases v2 <;> cases v3 <;> cases v4 <;> simp only [PySem.W.kitAny, h1, h2, h3, h4] <;> rfl
theorem bt_ValueError : bootBuiltins "ValueError" = some (.type "ValueError") := by decide +kernel
end DL
set_option Elab.async false
set_option linter.all false
set_option maxRecDepth 100000
set_option autoImplicit false
namespace W
open PySem DL
def b_law_hand : Sv :=
  (sSeq (sAs (eC (.int 0)) (gN 3))
    (sSeq (sIf (bT (eOp oNe (eV 0) (eLst aNil))) (sAs (eOp oMod (eCB cSum (aCons (eV 0) aNil)) (eC (.int 2))) (gN 3)) sNil)
    (sRt (eLst (aCons (eV 1) (aCons (eOp oMod (eOp oMul (eOp oAdd (eOp oAdd (eOp oMod (eV 1) (eC (.int 2147483587))) (eOp oMul (eC (.int 7919)) (eV 2))) (eC (.int 1))) (eC (.int 48271))) (eC (.int 2147483587))) (aCons (eV 3) aNil)))))))
def F_law_hand : Fv := fnRun 4 b_law_hand
def b_law_draw : Sv :=
  (sSeq (sIf (bT (eOp oEq (eOp oIxA (eV 0) (eC (.int 2))) (eC (.int 0)))) (sSeq (sAs (eOp oMod (eOp oIxA (eV 0) (eC (.int 0))) (eV 1)) (gN 2))
    (sSeq (sAs (eOp oFdiv (eOp oIxA (eV 0) (eC (.int 0))) (eV 1)) (gS (eV 0) (eC (.int 0))))
    (sRt (eV 2)))) sNil)
    (sSeq (sAs (eOp oMod (eOp oAdd (eOp oAdd (eOp oMul (eOp oIxA (eV 0) (eC (.int 1))) (eOp oIxA (eV 0) (eC (.int 1)))) (eOp oMul (eC (.int 69621)) (eOp oIxA (eV 0) (eC (.int 1))))) (eC (.int 12345))) (eC (.int 2147483587))) (gS (eV 0) (eC (.int 1))))
    (sRt (eOp oMod (eOp oFdiv (eOp oIxA (eV 0) (eC (.int 1))) (eC (.int 8))) (eV 1)))))
def F_law_draw : Fv := fnRun 3 b_law_draw
def b_law_cells : Sv :=
  (sRt (eListEnum (eOp oAdd (eSl (eV 0) oNo (oYes (eC (.int 63)))) (eOp oMul (eLst (aCons (eC (.int 0)) aNil)) (eCB cInt (aCons (eOp oEq (eV 0) (eLst aNil)) aNil))))))
def F_law_cells : Fv := fnRun 1 b_law_cells
end W
set_option Elab.async false
set_option linter.all false
set_option maxRecDepth 100000
set_option autoImplicit false
namespace W
open PySem DL
def b_is_whole : Sv :=
  (sRt (eAnd (eCB cIsi (aCons (eV 0) (aCons (eC (.ty "int")) aNil))) (eNot (eCB cIsi (aCons (eV 0) (aCons (eC (.ty "bool")) aNil))))))
def F_is_whole : Fv := fnRun 1 b_is_whole
def b_is_whole_between : Sv :=
  (sRt (eAnd (eCall F_is_whole (aCons (eV 0) aNil)) (eChain oLe oLe (eV 1) (eV 0) (eV 2))))
def F_is_whole_between : Fv := fnRun 3 b_is_whole_between
def b_are_up_to : Sv :=
  (sRt (eAllG (iAny (eV 0)) (eCall F_is_whole_between (aCons (eV 0) (aCons (eC (.int 0)) (aCons (eV 2) aNil))))))
def F_are_up_to : Fv := fnRun 2 b_are_up_to
def b_is_cell : Sv :=
  (sSeq (sIf (bOr (bNot (bTru (eCB cIsi (aCons (eV 0) (aCons (eC (.ty "tuple")) aNil))))) (bT (eOp oNe (eCB cLen (aCons (eV 0) aNil)) (eC (.int 3))))) (sRt (eC (.bl false))) sNil)
    (sSeq (sIf (bNot (bTru (eAllG (iAny (eV 0)) (eCB cIsi (aCons (eV 0) (aCons (eC (.ty "tuple")) aNil)))))) (sRt (eC (.bl false))) sNil)
    (sSeq (sAs (eV 0) (gT 3 (gsCons (gN 2) (gsCons (gN 3) (gsCons (gN 4) gsNil)))))
    (sSeq (sAs (eOp oSub (eCB cLen (aCons (eV 2) aNil)) (eC (.int 1))) (gN 1))
    (sSeq (sIf (bOr (bT (eOp oLt (eV 1) (eC (.int 0)))) (bOr (bT (eOp oNe (eCB cLen (aCons (eV 3) aNil)) (eCB cLen (aCons (eV 2) aNil)))) (bT (eOp oNe (eCB cLen (aCons (eV 4) aNil)) (eCB cLen (aCons (eV 2) aNil)))))) (sRt (eC (.bl false))) sNil)
    (sRt (eAnd (eCall F_are_up_to (aCons (eV 2) (aCons (eC (.int 1)) aNil))) (eAnd (eCall F_are_up_to (aCons (eV 3) (aCons (eV 1) aNil))) (eCall F_are_up_to (aCons (eV 4) (aCons (eV 1) aNil)))))))))))
def F_is_cell : Fv := fnRun 5 b_is_cell
def b_law_whole : Sv :=
  (sRt (eAnd (eCB cIsi (aCons (eV 0) (aCons (eC (.ty "int")) aNil))) (eAnd (eNot (eCB cIsi (aCons (eV 0) (aCons (eC (.ty "bool")) aNil)))) (eChain oLe oLe (eC (.int 0)) (eV 0) (eV 1)))))
def F_law_whole : Fv := fnRun 2 b_law_whole
def b_law_is : Sv :=
  (sSeq (sIf (bOr (bNot (bTru (eCB cIsi (aCons (eV 0) (aCons (eC (.ty "tuple")) aNil))))) (bT (eOp oNe (eCB cLen (aCons (eV 0) aNil)) (eC (.int 3))))) (sRt (eC (.bl false))) sNil)
    (sSeq (sIf (bOr (bT (eOp oNeE (eLc (iAny (eV 0)) (gN 4) (bNot (bTru (eCB cIsi (aCons (eV 4) (aCons (eC (.ty "tuple")) aNil))))) (eV 4) [4]) (eLst aNil))) (bT (eOp oEq (eCB cLen (aCons (eOp oIxA (eV 0) (eC (.int 0))) aNil)) (eC (.int 0))))) (sRt (eC (.bl false))) sNil)
    (sSeq (sIf (bOr (bT (eOp oNe (eCB cLen (aCons (eOp oIxA (eV 0) (eC (.int 1))) aNil)) (eCB cLen (aCons (eOp oIxA (eV 0) (eC (.int 0))) aNil)))) (bT (eOp oNe (eCB cLen (aCons (eOp oIxA (eV 0) (eC (.int 2))) aNil)) (eCB cLen (aCons (eOp oIxA (eV 0) (eC (.int 0))) aNil))))) (sRt (eC (.bl false))) sNil)
    (sSeq (sAs (eOp oSub (eCB cLen (aCons (eOp oIxA (eV 0) (eC (.int 0))) aNil)) (eC (.int 1))) (gN 1))
    (sSeq (sAs (eLc (iAny (eOp oIxA (eV 0) (eC (.int 0)))) (gN 3) (bNot (bTru (eCall F_law_whole (aCons (eV 3) (aCons (eC (.int 1)) aNil))))) (eV 3) [3]) (gN 2))
    (sRt (eAnd (eOp oEqE (eV 2) (eLst aNil)) (eOp oEqE (eLc (iAny (eOp oAdd (eOp oIxA (eV 0) (eC (.int 1))) (eOp oIxA (eV 0) (eC (.int 2))))) (gN 3) (bNot (bTru (eCall F_law_whole (aCons (eV 3) (aCons (eV 1) aNil))))) (eV 3) [3]) (eLst aNil)))))))))
def F_law_is : Fv := fnRun 5 b_law_is
def b_law_right : Sv :=
  (sSeq (sAs (eCall F_is_cell (aCons (eV 0) aNil)) (gN 1))
    (sRt (eAnd (eCB cIsi (aCons (eV 1) (aCons (eC (.ty "bool")) aNil))) (eOp oEq (eV 1) (eCall F_law_is (aCons (eV 0) aNil))))))
end W
set_option Elab.async false
set_option linter.all false
set_option maxRecDepth 100000
set_option autoImplicit false
namespace W
open PySem DL
end W
set_option Elab.async false
set_option linter.all false
set_option maxRecDepth 100000
set_option autoImplicit false
namespace W
open PySem DL
def b_many_events (X_many_events : Fv) : Sv :=
  (sSeq (sIf (bT (eOp oEq (eOp oIxA (eV 0) (eC (.int 0))) (eC (.str "way")))) (sRt (eC (.int 1))) sNil)
    (sSeq (sIf (bT (eOp oEq (eOp oIxA (eV 0) (eC (.int 0))) (eC (.str "row")))) (sRt (eSumG (iAny (eOp oIxA (eV 0) (eC (.int 1)))) (eCall X_many_events (aCons (eV 0) aNil)))) sNil)
    (sRt (eOp oMul (eOp oIxA (eV 0) (eC (.int 1))) (eCall X_many_events (aCons (eOp oIxA (eV 0) (eC (.int 2))) aNil))))))
def F_many_events : Nat → Fv
  | 0 => fun _ _ => none
  | k + 1 => fnRun 1 (b_many_events (F_many_events k))
def b_events_of (X_events_of : Fv) : Sv :=
  (sSeq (sIf (bT (eOp oEq (eOp oIxA (eV 0) (eC (.int 0))) (eC (.str "way")))) (sRt (eLst (aCons (eTup (aCons (eOp oIxA (eV 0) (eC (.int 1))) (aCons (eOp oIxA (eV 0) (eC (.int 2))) aNil))) aNil))) sNil)
    (sSeq (sIf (bT (eOp oEq (eOp oIxA (eV 0) (eC (.int 0))) (eC (.str "row")))) (sRt (eLc2 (iAny (eOp oIxA (eV 0) (eC (.int 1)))) (gN 1) bYes (iAny (eCall X_events_of (aCons (eV 1) aNil))) (gN 2) bYes (eV 2) [1, 2] [2])) sNil)
    (sSeq (sIf (bT (eOp oEq (eCall (F_many_events 24) (aCons (eV 0) aNil)) (eC (.int 0)))) (sRt (eLst aNil)) sNil)
    (sRt (eOp oMul (eCall X_events_of (aCons (eOp oIxA (eV 0) (eC (.int 2))) aNil)) (eOp oIxA (eV 0) (eC (.int 1))))))))
def F_events_of : Nat → Fv
  | 0 => fun _ _ => none
  | k + 1 => fnRun 3 (b_events_of (F_events_of k))
def b_run_of : Sv :=
  (sSeq (sIf (bT (eOp oGt (eCall (F_many_events 24) (aCons (eV 0) aNil)) (eC (.int 400)))) sNo sNil)
    (sRt (eCall (F_events_of 24) (aCons (eV 0) aNil))))
def b_law_place : Sv :=
  (sRt (eOp oIxA (eLst (aCons (eCall F_law_draw (aCons (eV 0) (aCons (eC (.int 12)) aNil))) (aCons (eC (.int 999)) (aCons (eC (.int 0)) (aCons (eCall F_law_draw (aCons (eV 0) (aCons (eC (.int 1000)) aNil))) aNil))))) (eCall F_law_draw (aCons (eV 0) (aCons (eC (.int 4)) aNil)))))
def F_law_place : Fv := fnRun 1 b_law_place
def b_law_times : Sv :=
  (sSeq (sIf (bTru (eV 1)) (sRt (eCall F_law_draw (aCons (eV 0) (aCons (eC (.int 5)) aNil)))) sNil)
    (sRt (eOp oIxA (eLst (aCons (eCall F_law_draw (aCons (eV 0) (aCons (eC (.int 12)) aNil))) (aCons (eC (.int 0)) (aCons (eC (.int 1)) (aCons (eOp oPow (eC (.int 10)) (eC (.int 18))) (aCons (eOp oAdd (eOp oPow (eC (.int 10)) (eC (.int 9))) (eCall F_law_draw (aCons (eV 0) (aCons (eOp oPow (eC (.int 10)) (eC (.int 8))) aNil)))) aNil)))))) (eCall F_law_draw (aCons (eV 0) (aCons (eC (.int 5)) aNil))))))
def F_law_times : Fv := fnRun 2 b_law_times
def b_law_pattern (X_law_pattern : Fv) : Sv :=
  (sSeq (sAs (eOp oSub (eOp oIxA (eV 2) (eC (.int 0))) (eC (.int 1))) (gS (eV 2) (eC (.int 0))))
    (sSeq (sAs (eCall F_law_draw (aCons (eV 0) (aCons (eC (.int 6)) aNil))) (gN 4))
    (sSeq (sIf (bOr (bT (eOp oLt (eV 4) (eC (.int 2)))) (bOr (bT (eOp oEq (eV 1) (eC (.int 1)))) (bT (eOp oLt (eOp oIxA (eV 2) (eC (.int 0))) (eC (.int 1)))))) (sRt (eTup (aCons (eC (.str "way")) (aCons (eCall F_law_place (aCons (eV 0) aNil)) (aCons (eCall F_law_draw (aCons (eV 0) (aCons (eC (.int 2)) aNil))) aNil))))) sNil)
    (sSeq (sIf (bT (eOp oLt (eV 4) (eC (.int 4)))) (sRt (eTup (aCons (eC (.str "times")) (aCons (eCall F_law_times (aCons (eV 0) (aCons (eV 3) aNil))) (aCons (eCall X_law_pattern (aCons (eV 0) (aCons (eOp oSub (eV 1) (eC (.int 1))) (aCons (eV 2) (aCons (eV 3) aNil))))) aNil))))) sNil)
    (sSeq (sAs (eCB cMin (aCons (eCall F_law_draw (aCons (eV 0) (aCons (eC (.int 6)) aNil))) (aCons (eOp oIxA (eV 2) (eC (.int 0))) aNil))) (gN 5))
    (sSeq (sAs (eOp oSub (eOp oIxA (eV 2) (eC (.int 0))) (eV 5)) (gS (eV 2) (eC (.int 0))))
    (sSeq (sAs (eLst aNil) (gN 6))
    (sSeq (sFor (iRng1 (eV 5)) (gN 7) (sSeq (sAs (eOp oAdd (eOp oIxA (eV 2) (eC (.int 0))) (eC (.int 1))) (gS (eV 2) (eC (.int 0))))
    (sEx (eM mAppend (eV 6) (aCons (eCall X_law_pattern (aCons (eV 0) (aCons (eOp oSub (eV 1) (eC (.int 1))) (aCons (eV 2) (aCons (eV 3) aNil))))) aNil)))))
    (sRt (eTup (aCons (eC (.str "row")) (aCons (eCB cTuple (aCons (eV 6) aNil)) aNil))))))))))))
def F_law_pattern : Nat → Fv
  | 0 => fun _ _ => none
  | k + 1 => fnRun 8 (b_law_pattern (F_law_pattern k))
end W
set_option Elab.async false
set_option linter.all false
set_option maxRecDepth 100000
set_option autoImplicit false
namespace W
open PySem DL
def b_law_drawn : Sv :=
  (sRt (eCall (F_law_pattern 12) (aCons (eV 0) (aCons (eOp oAdd (eC (.int 1)) (eCall F_law_draw (aCons (eV 0) (aCons (eC (.int 6)) aNil)))) (aCons (eLst (aCons (eC (.int 60)) aNil)) (aCons (eV 1) aNil))))))
def F_law_drawn : Fv := fnRun 2 b_law_drawn
end W
set_option Elab.async false
set_option linter.all false
set_option maxRecDepth 100000
set_option autoImplicit false
namespace W
open PySem DL
def b_run_of_2 : Svx :=
  (xSeq (xIf (bT (eOp oGt (eCall (F_many_events 24) (aCons (eV 0) aNil)) (eC (.int 400)))) (xRs 1) (xLift sNil))
    (xLift (sRt (eCall (F_events_of 24) (aCons (eV 0) aNil)))))
def F_run_of_2 : Xv := fnRunX 1 b_run_of_2
def b_law_many_2 (X_law_many : Fv) : Sv :=
  (sSeq (sIf (bT (eOp oEq (eOp oIxA (eV 0) (eC (.int 0))) (eC (.str "way")))) (sRt (eC (.int 1))) sNil)
    (sSeq (sAs (eC (.int 0)) (gN 1))
    (sSeq (sIf (bT (eOp oEq (eOp oIxA (eV 0) (eC (.int 0))) (eC (.str "row")))) (sSeq (sFor (iAny (eOp oIxA (eV 0) (eC (.int 1)))) (gN 2) (sAs (eOp oAdd (eV 1) (eCall X_law_many (aCons (eV 2) aNil))) (gN 1)))
    (sRt (eV 1))) sNil)
    (sRt (eOp oMul (eCall X_law_many (aCons (eOp oIxA (eV 0) (eC (.int 2))) aNil)) (eOp oIxA (eV 0) (eC (.int 1))))))))
def F_law_many_2 : Nat → Fv
  | 0 => fun _ _ => none
  | k + 1 => fnRun 3 (b_law_many_2 (F_law_many_2 k))
def b_law_run_3 : Sv :=
  (sSeq (sAs (eLst aNil) (gN 2))
    (sSeq (sAs (eLst (aCons (eV 0) aNil)) (gN 3))
    (sSeq (sWh (bAnd (bT (eOp oNe (eV 3) (eLst aNil))) (bT (eOp oLe (eCB cLen (aCons (eV 2) aNil)) (eV 1)))) (sSeq (sAs (eM mPop (eV 3) aNil) (gN 4))
    (sIf (bT (eOp oEq (eOp oIxA (eV 4) (eC (.int 0))) (eC (.str "way")))) (sEx (eM mAppend (eV 2) (aCons (eTup (aCons (eOp oIxA (eV 4) (eC (.int 1))) (aCons (eOp oIxA (eV 4) (eC (.int 2))) aNil))) aNil))) (sIf (bT (eOp oEq (eOp oIxA (eV 4) (eC (.int 0))) (eC (.str "row")))) (sEx (eM mExtend (eV 3) (aCons (eListRev (eOp oIxA (eV 4) (eC (.int 1)))) aNil))) (sIf (bAnd (bT (eOp oGt (eOp oIxA (eV 4) (eC (.int 1))) (eC (.int 0)))) (bT (eOp oGt (eCall (F_law_many_2 24) (aCons (eOp oIxA (eV 4) (eC (.int 2))) aNil)) (eC (.int 0))))) (sEx (eM mExtend (eV 3) (aCons (eOp oMul (eLst (aCons (eOp oIxA (eV 4) (eC (.int 2))) aNil)) (eCB cMin (aCons (eOp oIxA (eV 4) (eC (.int 1))) (aCons (eOp oAdd (eV 1) (eC (.int 1))) aNil)))) aNil))) sNil)))))
    (sRt (eV 2)))))
def F_law_run_3 : Fv := fnRun 5 b_law_run_3
def b_law_asked : Sv :=
  (sSeq (sAs (eC .non) (gN 1))
    (sSeq (sAs (eC .non) (gN 2))
    (sSeq (sTryAs 1 3 [1] F_run_of_2 (aCons (eV 0) aNil) (sAs (eV 3) (gN 2)))
    (sSeq (sIf (bAnd (bT (eOp (oIs true) (eV 2) (eC .non))) (bTru (eIsiX (fun m => if m = 1 then some false else none) (eV 2)))) (sRt (eTup (aCons (eC (.bl false)) (aCons (eLst (aCons (eC (.str "other")) aNil)) aNil)))) sNil)
    (sSeq (sIf (bAnd (bT (eOp (oIs true) (eV 2) (eC .non))) (bOr (bNot (bTru (eIsiX (fun m => if m = 1 then some true else none) (eV 2)))) (bNot (bTru (eIsiX (fun m => if m = 1 then some true else none) (eV 2)))))) (sRt (eTup (aCons (eC (.bl false)) (aCons (eLst (aCons (eC (.str "other")) aNil)) aNil)))) sNil)
    (sRt (eTup (aCons (eOp (oIs true) (eV 2) (eC .non)) (aCons (eV 1) aNil)))))))))
def F_law_asked : Fv := fnRun 4 b_law_asked
def b_law_right_7 : Sv :=
  (sSeq (sAs (eCall F_law_asked (aCons (eV 0) aNil)) (gT 2 (gsCons (gN 4) (gsCons (gN 5) gsNil))))
    (sSeq (sIf (bOr (bTru (eV 4)) (bT (eOp oGt (eCall (F_law_many_2 24) (aCons (eV 0) aNil)) (eC (.int 400))))) (sRt (eAnd (eV 4) (eOp oGt (eCall (F_law_many_2 24) (aCons (eV 0) aNil)) (eC (.int 400))))) sNil)
    (sSeq (sAs (eCall F_law_run_3 (aCons (eV 0) (aCons (eC (.int 400)) aNil))) (gN 1))
    (sSeq (sIf (bOr (bNot (bTru (eCB cIsi (aCons (eV 5) (aCons (eC (.ty "list")) aNil))))) (bT (eOp oNe (eV 5) (eV 1)))) (sRt (eC (.bl false))) sNil)
    (sSeq (sFor (iAny (eV 5)) (gN 2) (sIf (bOr (bNot (bTru (eCB cIsi (aCons (eV 2) (aCons (eC (.ty "tuple")) aNil))))) (bOr (bTru (eCB cIsi (aCons (eOp oIxA (eV 2) (eC (.int 0))) (aCons (eC (.ty "bool")) aNil)))) (bTru (eCB cIsi (aCons (eOp oIxA (eV 2) (eC (.int 1))) (aCons (eC (.ty "bool")) aNil)))))) (sRt (eC (.bl false))) sNil))
    (sSeq (sEx (eM mAppend (eV 5) (aCons (eTup (aCons (eC (.int 0)) (aCons (eC (.int 0)) aNil))) aNil)))
    (sSeq (sAs (eOp oIxA (eCall F_law_asked (aCons (eV 0) aNil)) (eC (.int 1))) (gN 3))
    (sRt (eAnd (eOp oEq (eV 3) (eV 1)) (eOp oEq (eV 5) (eOp oAdd (eV 1) (eLst (aCons (eTup (aCons (eC (.int 0)) (aCons (eC (.int 0)) aNil))) aNil)))))))))))))
def F_law_right_7 : Fv := fnRun 6 b_law_right_7
def b_law_edge : Sv :=
  (sSeq (sAs (eCall (F_law_pattern 12) (aCons (eV 0) (aCons (eC (.int 3)) (aCons (eLst (aCons (eC (.int 8)) aNil)) (aCons (eC (.bl true)) aNil))))) (gN 1))
    (sSeq (sAs (eCall (F_law_many_2 24) (aCons (eV 1) aNil)) (gN 2))
    (sSeq (sAs (eOp oAdd (eC (.int 399)) (eCall F_law_draw (aCons (eV 0) (aCons (eC (.int 4)) aNil)))) (gN 3))
    (sSeq (sAs (eOp oMul (eOp oFdiv (eV 3) (eCB cMax (aCons (eC (.int 1)) (aCons (eV 2) aNil)))) (eCB cInt (aCons (eOp oGt (eV 2) (eC (.int 0))) aNil))) (gN 4))
    (sSeq (sAs (eOp oSub (eV 3) (eOp oMul (eV 4) (eV 2))) (gN 5))
    (sRt (eTup (aCons (eC (.str "row")) (aCons (eTup (aCons (eTup (aCons (eC (.str "times")) (aCons (eV 4) (aCons (eV 1) aNil)))) (aCons (eTup (aCons (eC (.str "times")) (aCons (eV 5) (aCons (eTup (aCons (eC (.str "way")) (aCons (eC (.int 5)) (aCons (eC (.int 1)) aNil)))) aNil)))) (aCons (eTup (aCons (eC (.str "times")) (aCons (eOp oPow (eC (.int 10)) (eC (.int 18))) (aCons (eTup (aCons (eC (.str "row")) (aCons (eTup aNil) aNil))) aNil)))) aNil)))) aNil)))))))))
def F_law_edge : Fv := fnRun 6 b_law_edge
def b_law_deeper : Sv :=
  (sSeq (sFor (iRng1 (eV 1)) (gN 2) (sAs (eTup (aCons (eC (.str "row")) (aCons (eTup (aCons (eV 0) aNil)) aNil))) (gN 0)))
    (sRt (eV 0)))
def F_law_deeper : Fv := fnRun 3 b_law_deeper
def b_law_30 : Sv :=
  (sSeq (sFor (iAny (eCall F_law_cells (aCons (eV 0) aNil))) (gT 2 (gsCons (gN 1) (gsCons (gN 2) gsNil))) (sSeq (sAs (eCall F_law_hand (aCons (eV 0) (aCons (eV 2) (aCons (eV 1) aNil)))) (gN 3))
    (sSeq (sAs (eCall F_law_drawn (aCons (eV 3) (aCons (eC (.bl true)) aNil))) (gN 4))
    (sFor (iAny (eLst (aCons (eV 4) (aCons (eCall F_law_drawn (aCons (eV 3) (aCons (eC (.bl false)) aNil))) (aCons (eCall F_law_edge (aCons (eV 3) aNil)) (aCons (eCall F_law_deeper (aCons (eV 4) (aCons (eC (.int 14)) aNil))) (aCons (eTup (aCons (eC (.str "row")) (aCons (eOp oMul (eTup (aCons (eV 4) aNil)) (eC (.int 6))) aNil))) aNil))))))) (gN 5) (sIf (bNot (bTru (eCall F_law_right_7 (aCons (eV 5) aNil)))) (sRt (eC (.bl false))) sNil)))))
    (sRt (eAnd (eCall F_law_right_7 (aCons (eTup (aCons (eC (.str "times")) (aCons (eC (.int 0)) (aCons (eTup (aCons (eC (.str "times")) (aCons (eOp oPow (eC (.int 10)) (eC (.int 18))) (aCons (eTup (aCons (eC (.str "way")) (aCons (eC (.int 1)) (aCons (eC (.int 1)) aNil)))) aNil)))) aNil)))) aNil)) (eCall F_law_right_7 (aCons (eTup (aCons (eC (.str "way")) (aCons (eC (.int 999)) (aCons (eC (.int 1)) aNil)))) aNil)))))
def F_law_30 : Fv := fnRun 6 b_law_30
end W
set_option Elab.async false
set_option linter.all false
set_option maxRecDepth 100000
set_option maxHeartbeats 4000000
set_option autoImplicit false
namespace K03
open PySem L2 DL W
def top (i : Nat) : Stmt := PySem.Challenge.pw_wayguess_k03_runs_told.main.body.getD i (.Pass ⟨0, 0, 0, 0⟩)
abbrev s_many_events : Stmt := top 9
abbrev s_run_of : Stmt := top 10
abbrev s_events_of : Stmt := top 11
abbrev s_law_hand : Stmt := top 13
abbrev s_law_draw : Stmt := top 14
abbrev s_law_cells : Stmt := top 15
abbrev s_law_place : Stmt := top 16
abbrev s_law_times : Stmt := top 17
abbrev s_law_pattern : Stmt := top 18
abbrev s_law_drawn : Stmt := top 19
abbrev s_law_run : Stmt := top 20
abbrev s_law_many : Stmt := top 21
abbrev s_law_asked : Stmt := top 22
abbrev s_law_right : Stmt := top 23
abbrev s_law_edge : Stmt := top 24
abbrev s_law_deeper : Stmt := top 25
abbrev s_law : Stmt := top 26
structure Ad where
  (a_many_events a_run_of a_events_of a_law_hand a_law_draw a_law_cells a_law_place a_law_times a_law_pattern a_law_drawn a_law_run a_law_many a_law_asked a_law_right a_law_edge a_law_deeper a_law : Addr)
  (d_many_events d_run_of d_events_of d_law_hand d_law_draw d_law_cells d_law_place d_law_times d_law_pattern d_law_drawn d_law_run d_law_many d_law_asked d_law_right d_law_edge d_law_deeper d_law : FuncData)
  (c_many_events P_many_events : Addr)
  (C_GuessError C_NoRun C_NoGuesser C_NoPattern C_NoRow C_NoName : Addr)
structure Tx (K : PySem.W.Frag) (mg : Str → Option Value) (t : Ad) : Prop where
  f_many_events : Fun K "many_events" "many_events" s_many_events t.a_many_events t.d_many_events
  m_many_events : mg "many_events" = some (.ref t.a_many_events)
  b_many_events : Binds K t.d_many_events ["pattern"] []
  f_run_of : Fun K "run_of" "run_of" s_run_of t.a_run_of t.d_run_of
  m_run_of : mg "run_of" = some (.ref t.a_run_of)
  b_run_of : Binds K t.d_run_of ["pattern"] []
  f_events_of : Fun K "events_of" "events_of" s_events_of t.a_events_of t.d_events_of
  m_events_of : mg "events_of" = some (.ref t.a_events_of)
  b_events_of : Binds K t.d_events_of ["pattern"] []
  f_law_hand : Fun K "_law_hand" "_law_hand" s_law_hand t.a_law_hand t.d_law_hand
  m_law_hand : mg "_law_hand" = some (.ref t.a_law_hand)
  b_law_hand : Binds K t.d_law_hand ["script", "cell", "k"] []
  f_law_draw : Fun K "_law_draw" "_law_draw" s_law_draw t.a_law_draw t.d_law_draw
  m_law_draw : mg "_law_draw" = some (.ref t.a_law_draw)
  b_law_draw : Binds K t.d_law_draw ["hand", "limit"] []
  f_law_cells : Fun K "_law_cells" "_law_cells" s_law_cells t.a_law_cells t.d_law_cells
  m_law_cells : mg "_law_cells" = some (.ref t.a_law_cells)
  b_law_cells : Binds K t.d_law_cells ["script"] []
  f_law_place : Fun K "_law_place" "_law_place" s_law_place t.a_law_place t.d_law_place
  m_law_place : mg "_law_place" = some (.ref t.a_law_place)
  b_law_place : Binds K t.d_law_place ["hand"] []
  f_law_times : Fun K "_law_times" "_law_times" s_law_times t.a_law_times t.d_law_times
  m_law_times : mg "_law_times" = some (.ref t.a_law_times)
  b_law_times : Binds K t.d_law_times ["hand", "few"] []
  f_law_pattern : Fun K "_law_pattern" "_law_pattern" s_law_pattern t.a_law_pattern t.d_law_pattern
  m_law_pattern : mg "_law_pattern" = some (.ref t.a_law_pattern)
  b_law_pattern : Binds K t.d_law_pattern ["hand", "deep", "room", "few"] []
  f_law_drawn : Fun K "_law_drawn" "_law_drawn" s_law_drawn t.a_law_drawn t.d_law_drawn
  m_law_drawn : mg "_law_drawn" = some (.ref t.a_law_drawn)
  b_law_drawn : Binds K t.d_law_drawn ["hand", "few"] []
  f_law_run : Fun K "_law_run" "_law_run" s_law_run t.a_law_run t.d_law_run
  m_law_run : mg "_law_run" = some (.ref t.a_law_run)
  b_law_run : Binds K t.d_law_run ["pattern", "most"] []
  f_law_many : Fun K "_law_many" "_law_many" s_law_many t.a_law_many t.d_law_many
  m_law_many : mg "_law_many" = some (.ref t.a_law_many)
  b_law_many : Binds K t.d_law_many ["pattern"] []
  f_law_asked : Fun K "_law_asked" "_law_asked" s_law_asked t.a_law_asked t.d_law_asked
  m_law_asked : mg "_law_asked" = some (.ref t.a_law_asked)
  b_law_asked : Binds K t.d_law_asked ["pattern"] []
  f_law_right : Fun K "_law_right" "_law_right" s_law_right t.a_law_right t.d_law_right
  m_law_right : mg "_law_right" = some (.ref t.a_law_right)
  b_law_right : Binds K t.d_law_right ["pattern"] []
  f_law_edge : Fun K "_law_edge" "_law_edge" s_law_edge t.a_law_edge t.d_law_edge
  m_law_edge : mg "_law_edge" = some (.ref t.a_law_edge)
  b_law_edge : Binds K t.d_law_edge ["hand"] []
  f_law_deeper : Fun K "_law_deeper" "_law_deeper" s_law_deeper t.a_law_deeper t.d_law_deeper
  m_law_deeper : mg "_law_deeper" = some (.ref t.a_law_deeper)
  b_law_deeper : Binds K t.d_law_deeper ["pattern", "many"] []
  f_law : Fun K "law" "law" s_law t.a_law t.d_law
  mc_GuessError : mg "GuessError" = some (.ref t.C_GuessError)
  ex_GuessError : PySem.W.excIn K t.C_GuessError [.type "ValueError", .type "Exception", .type "BaseException", .type "object"] "ValueError.__new__" = true
  mc_NoRun : mg "NoRun" = some (.ref t.C_NoRun)
  ex_NoRun : PySem.W.excIn K t.C_NoRun [.type "ValueError", .type "Exception", .type "BaseException", .type "object"] "ValueError.__new__" = true
  mc_NoGuesser : mg "NoGuesser" = some (.ref t.C_NoGuesser)
  ex_NoGuesser : PySem.W.excIn K t.C_NoGuesser [.type "ValueError", .type "Exception", .type "BaseException", .type "object"] "ValueError.__new__" = true
  mc_NoPattern : mg "NoPattern" = some (.ref t.C_NoPattern)
  ex_NoPattern : PySem.W.excIn K t.C_NoPattern [.type "ValueError", .type "Exception", .type "BaseException", .type "object"] "ValueError.__new__" = true
  mc_NoRow : mg "NoRow" = some (.ref t.C_NoRow)
  ex_NoRow : PySem.W.excIn K t.C_NoRow [.type "ValueError", .type "Exception", .type "BaseException", .type "object"] "ValueError.__new__" = true
  mc_NoName : mg "NoName" = some (.ref t.C_NoName)
  ex_NoName : PySem.W.excIn K t.C_NoName [.type "ValueError", .type "Exception", .type "BaseException", .type "object"] "ValueError.__new__" = true
  ek_NoRun : PySem.W.ExcK K t.C_NoRun
  kv_NoRun : PySem.W.kitOne K (.ref t.C_NoRun) (.type "ValueError") = some true
  ks_NoRun_GuessError : kSub K t.C_NoRun t.C_GuessError = true
  ki_NoRun_GuessError : PySem.W.kitOne K (.ref t.C_NoRun) (.ref t.C_GuessError) = some true
  ks_NoRun_NoRun : kSub K t.C_NoRun t.C_NoRun = true
  ki_NoRun_NoRun : PySem.W.kitOne K (.ref t.C_NoRun) (.ref t.C_NoRun) = some true
  ks_NoRun_NoGuesser : kSub K t.C_NoRun t.C_NoGuesser = false
  ki_NoRun_NoGuesser : PySem.W.kitOne K (.ref t.C_NoRun) (.ref t.C_NoGuesser) = some false
  ks_NoRun_NoPattern : kSub K t.C_NoRun t.C_NoPattern = false
  ki_NoRun_NoPattern : PySem.W.kitOne K (.ref t.C_NoRun) (.ref t.C_NoPattern) = some false
  ks_NoRun_NoRow : kSub K t.C_NoRun t.C_NoRow = false
  ki_NoRun_NoRow : PySem.W.kitOne K (.ref t.C_NoRun) (.ref t.C_NoRow) = some false
  ks_NoRun_NoName : kSub K t.C_NoRun t.C_NoName = false
  ki_NoRun_NoName : PySem.W.kitOne K (.ref t.C_NoRun) (.ref t.C_NoName) = some false
  n_ValueError : mg "ValueError" = none
  c_MOST_EVENTS : ∃ tk, mg "MOST_EVENTS" = some (.int 400 tk)
  n_bool : mg "bool" = none
  n_enumerate : mg "enumerate" = none
  n_int : mg "int" = none
  n_isinstance : mg "isinstance" = none
  n_len : mg "len" = none
  n_list : mg "list" = none
  n_max : mg "max" = none
  n_min : mg "min" = none
  n_range : mg "range" = none
  n_reversed : mg "reversed" = none
  n_sum : mg "sum" = none
  n_tuple : mg "tuple" = none
structure Gn (base : Heap) (mg : Str → Option Value) (B : Bs) (fd : FuncData) (c p : Addr) : Prop where
  hc : fd.code = .ref c
  C : CodeOk base mg c p
  hP : p ∈ B.tabs
structure HIn (B : Bs) (t : Ad) : Prop where
  i_GuessError : B.cls 0 = some t.C_GuessError
  i_NoRun : B.cls 1 = some t.C_NoRun
  i_NoGuesser : B.cls 2 = some t.C_NoGuesser
  i_NoPattern : B.cls 3 = some t.C_NoPattern
  i_NoRow : B.cls 4 = some t.C_NoRow
  i_NoName : B.cls 5 = some t.C_NoName
section
variable {P : Program} {w : World} {K : PySem.W.Frag} {mg : Str → Option Value} {base : Heap} {t : Ad} {B : Bs}
theorem sc_many_events : FnScope ["pattern"] ["pattern"] (defScope s_many_events) := ⟨rfl, rfl, rfl, by decide +kernel, rfl, by decide +kernel, by decide +kernel⟩
theorem okr_many_events (T : Tx K mg t) (H_many_events : Gn base mg B t.d_many_events t.c_many_events t.P_many_events) : ∀ k : Nat, FnOk P w K mg base CX0 (1 + 2 * k) t.a_many_events t.d_many_events ["pattern"] (upF K B 1 (F_many_events k))
  | 0 => fok0
  | k + 1 => by
    have G_many_events := okr_many_events T H_many_events k
    refine ?g_many_events
    case g_many_events =>
      refine fok (k := 1 + 2 * k + 1) T.f_many_events sc_many_events fun cdv A outer s H E hcd hr => ?_
      obtain ⟨hc, C, hP⟩ := H_many_events
      exact ((lscons (lsif (bcmp (ol_eq hr.units) (lixa (hu_of hr) (lv 0 rfl rfl) lint) lstr (nomark _)) (lsone (lrt lint)) lsnil)
    (lscons (lsif (bcmp (ol_eq hr.units) (lixa (hu_of hr) (lv 0 rfl rfl) lint) lstr (nomark _)) (lsone (lrt (lsumG (genScope_of (by kernel_rfl)) hr.hd hr.depth (hcd.symm.trans hc) C hP rfl T.n_sum (ligany (lixa (hu_of hr) (lv 0 rfl rfl) lint)) (fun s H it fp code => (lcall (G_many_events.mono (by omega)) (Room.gen hr) rfl T.m_many_events T.f_many_events.kp T.b_many_events (lacons (lv 0 rfl rfl) lanil st_nam) (he := st_nam) (hal := (al_cons al_nil))))))) lsnil)
    (lsone (lrt (lop ol_mul (lixa (hu_of hr) (lv 0 rfl rfl) lint) (lcall (G_many_events.mono (by omega)) hr rfl T.m_many_events T.f_many_events.kp T.b_many_events (lacons (lixa (hu_of hr) (lv 0 rfl rfl) lint) lanil st_sub) (he := st_sub) (hal := (al_cons al_nil)))))))))
theorem ok_many_events (T : Tx K mg t) (H_many_events : Gn base mg B t.d_many_events t.c_many_events t.P_many_events) (k : Nat) : FnOk P w K mg base CX0 (1 + 2 * k) t.a_many_events t.d_many_events ["pattern"] (upF K B 1 (F_many_events k)) := (okr_many_events T H_many_events k)
theorem sc_events_of : FnScope ["pattern", "part", "event"] ["pattern"] (defScope s_events_of) := ⟨rfl, rfl, rfl, by decide +kernel, rfl, by decide +kernel, by decide +kernel⟩
theorem okr_events_of (T : Tx K mg t) (H_many_events : Gn base mg B t.d_many_events t.c_many_events t.P_many_events) : ∀ k : Nat, FnOk P w K mg base CX0 (49 + k) t.a_events_of t.d_events_of ["pattern"] (upF K B 1 (F_events_of k))
  | 0 => fok0
  | k + 1 => by
    have G_events_of := okr_events_of T H_many_events k
    refine ?g_events_of
    case g_events_of =>
      refine fok (k := 49 + k) T.f_events_of sc_events_of fun cdv A outer s H E hcd hr => ?_
      exact ((lscons (lsif (bcmp (ol_eq hr.units) (lixa (hu_of hr) (lv 0 rfl rfl) lint) lstr (nomark _)) (lsone (lrt (llst (lacons (ltup (lacons (lixa (hu_of hr) (lv 0 rfl rfl) lint) (lacons (lixa (hu_of hr) (lv 0 rfl rfl) lint) lanil st_sub) st_sub)) lanil st_tup)))) lsnil)
    (lscons (lsif (bcmp (ol_eq hr.units) (lixa (hu_of hr) (lv 0 rfl rfl) lint) lstr (nomark _)) (lsone (lrt (llc2 (own := [("part", 1), ("event", 2)]) (vs1 := [2]) rfl sc_events_of.nd (liany (lixa (hu_of hr) (lv 0 rfl rfl) lint)) (blkOk_by (own := [("part", 1), ("event", 2)]) (by kernel_rfl)) (by decide) (by decide) (by decide) (fun _ _ _ _ _ => (lgn (i := 1) sc_events_of.nd rfl (loc_of rfl))) (fun _ _ _ _ _ => ltsnil) (fun _ _ _ _ _ => (liany (lcall (G_events_of.mono (by omega)) hr rfl T.m_events_of T.f_events_of.kp T.b_events_of (lacons (lv 1 rfl rfl) lanil st_nam) (he := st_nam) (hal := (al_cons al_nil))))) (fun _ _ _ _ _ => (lgn (i := 2) sc_events_of.nd rfl (loc_of rfl))) (fun _ _ _ _ _ => ltsnil) (fun _ _ _ _ _ => (lv 2 rfl rfl))))) lsnil)
    (lscons (lsif (bcmp (ol_eq hr.units) (lcall ((ok_many_events T H_many_events 24).mono (by omega)) hr rfl T.m_many_events T.f_many_events.kp T.b_many_events (lacons (lv 0 rfl rfl) lanil st_nam) (he := st_nam) (hal := (al_cons al_nil))) lint (nomark _)) (lsone (lrt (llst lanil))) lsnil)
    (lsone (lrt (lop ol_mul (lcall (G_events_of.mono (by omega)) hr rfl T.m_events_of T.f_events_of.kp T.b_events_of (lacons (lixa (hu_of hr) (lv 0 rfl rfl) lint) lanil st_sub) (he := st_sub) (hal := (al_cons al_nil))) (lixa (hu_of hr) (lv 0 rfl rfl) lint))))))))
theorem ok_events_of (T : Tx K mg t) (H_many_events : Gn base mg B t.d_many_events t.c_many_events t.P_many_events) (k : Nat) : FnOk P w K mg base CX0 (49 + k) t.a_events_of t.d_events_of ["pattern"] (upF K B 1 (F_events_of k)) := (okr_events_of T H_many_events k)
theorem sc_run_of : FnScope ["pattern"] ["pattern"] (defScope s_run_of) := ⟨rfl, rfl, rfl, by decide +kernel, rfl, by decide +kernel, by decide +kernel⟩
theorem ok_run_of (T : Tx K mg t) (H_many_events : Gn base mg B t.d_many_events t.c_many_events t.P_many_events) (HI : HIn B t) : FnOk P w K mg base (CXr P w) 74 t.a_run_of t.d_run_of ["pattern"] (upFX K B 1 F_run_of_2) := by
  refine fokX (k := 73) T.f_run_of sc_run_of fun cdv A outer s H E hcd hr => ?_
  exact ((lxcons (lxif (bcmp ol_gt (lcall ((ok_many_events T H_many_events 24).mono (by decide)) hr rfl T.m_many_events T.f_many_events.kp T.b_many_events (lacons (lv 0 rfl rfl) lanil st_nam) (he := st_nam) (hal := (al_cons al_nil))) (lgint rfl T.c_MOST_EVENTS) (nomark _)) (lxone (lxraise leaves_cx PySem.F.excBase_ValueError rfl rfl T.mc_NoRun HI.i_NoRun T.ex_NoRun)) (lxlifts lsnil))
    (lxlifts (lsone (lrt (lcall ((ok_events_of T H_many_events 24).mono (by decide)) hr rfl T.m_events_of T.f_events_of.kp T.b_events_of (lacons (lv 0 rfl rfl) lanil st_nam) (he := st_nam) (hal := (al_cons al_nil))))))))
theorem sc_law_hand : FnScope ["script", "cell", "k", "way"] ["script", "cell", "k"] (defScope s_law_hand) := ⟨rfl, rfl, rfl, by decide +kernel, rfl, by decide +kernel, by decide +kernel⟩
theorem ok_law_hand (T : Tx K mg t) : FnOk P w K mg base CX0 1 t.a_law_hand t.d_law_hand ["script", "cell", "k"] (upF K B 3 F_law_hand) := by
  refine fok (k := 0) T.f_law_hand sc_law_hand fun cdv A outer s H E hcd hr => ?_
  exact ((lscons (lset (i := 3) sc_law_hand.nd rfl (loc_of rfl) lint)
    (lscons (lsif (bcmp (ol_ne hr.units) (lv 0 rfl rfl) (llst lanil) (nomark _)) (lsone (lset (i := 3) sc_law_hand.nd rfl (loc_of rfl) (lop ol_mod (lcallB (ca_sum rfl) rfl T.n_sum bt_sum (lacons (lv 0 rfl rfl) lanil st_nam) (he := st_nam)) lint))) lsnil)
    (lsone (lrt (llst (lacons (lv 1 rfl rfl) (lacons (lop ol_mod (lop ol_mul (lop ol_add (lop ol_add (lop ol_mod (lv 1 rfl rfl) lint) (lop ol_mul lint (lv 2 rfl rfl))) lint) lint) lint) (lacons (lv 3 rfl rfl) lanil st_nam) st_bin) st_nam)))))))
theorem sc_law_draw : FnScope ["hand", "limit", "got"] ["hand", "limit"] (defScope s_law_draw) := ⟨rfl, rfl, rfl, by decide +kernel, rfl, by decide +kernel, by decide +kernel⟩
theorem ok_law_draw (T : Tx K mg t) : FnOk P w K mg base CX0 1 t.a_law_draw t.d_law_draw ["hand", "limit"] (upF K B 2 F_law_draw) := by
  refine fok (k := 0) T.f_law_draw sc_law_draw fun cdv A outer s H E hcd hr => ?_
  exact ((lscons (lsif (bcmp (ol_eq hr.units) (lixa (hu_of hr) (lv 0 rfl rfl) lint) lint (nomark _)) (lscons (lset (i := 2) sc_law_draw.nd rfl (loc_of rfl) (lop ol_mod (lixa (hu_of hr) (lv 0 rfl rfl) lint) (lv 1 rfl rfl)))
    (lscons (las (lop ol_fdiv (lixa (hu_of hr) (lv 0 rfl rfl) lint) (lv 1 rfl rfl)) (lgs (hu_of hr) (lv 0 rfl rfl) lint))
    (lsone (lrt (lv 2 rfl rfl))))) lsnil)
    (lscons (las (lop ol_mod (lop ol_add (lop ol_add (lop ol_mul (lixa (hu_of hr) (lv 0 rfl rfl) lint) (lixa (hu_of hr) (lv 0 rfl rfl) lint)) (lop ol_mul lint (lixa (hu_of hr) (lv 0 rfl rfl) lint))) lint) lint) (lgs (hu_of hr) (lv 0 rfl rfl) lint))
    (lsone (lrt (lop ol_mod (lop ol_fdiv (lixa (hu_of hr) (lv 0 rfl rfl) lint) lint) (lv 1 rfl rfl)))))))
theorem sc_law_cells : FnScope ["script"] ["script"] (defScope s_law_cells) := ⟨rfl, rfl, rfl, by decide +kernel, rfl, by decide +kernel, by decide +kernel⟩
theorem ok_law_cells (T : Tx K mg t) : FnOk P w K mg base CX0 1 t.a_law_cells t.d_law_cells ["script"] (upF K B 1 F_law_cells) := by
  refine fok (k := 0) T.f_law_cells sc_law_cells fun cdv A outer s H E hcd hr => ?_
  exact ((lsone (lrt (llistEnum rfl rfl T.n_list rfl T.n_enumerate (lop ol_add (lsl (lv 0 rfl rfl) lono (loyes lint)) (lop ol_mul (llst (lacons lint lanil st_con)) (lcallT ca_int rfl T.n_int bt_int (lacons (lcmp (ol_eq hr.units) (lv 0 rfl rfl) (llst lanil) (nomark _)) lanil st_cmp) (he := st_cmp))))))))
theorem sc_law_place : FnScope ["hand"] ["hand"] (defScope s_law_place) := ⟨rfl, rfl, rfl, by decide +kernel, rfl, by decide +kernel, by decide +kernel⟩
theorem ok_law_place (T : Tx K mg t) : FnOk P w K mg base CX0 2 t.a_law_place t.d_law_place ["hand"] (upF K B 1 F_law_place) := by
  refine fok (k := 1) T.f_law_place sc_law_place fun cdv A outer s H E hcd hr => ?_
  exact ((lsone (lrt (lixa (hu_of hr) (llst (lacons (lcall ((ok_law_draw T).mono (by decide)) hr rfl T.m_law_draw T.f_law_draw.kp T.b_law_draw (lacons (lv 0 rfl rfl) (lacons lint lanil st_con) st_nam) (he := st_nam) (hal := (al_cons (al_cons al_nil)))) (lacons lint (lacons lint (lacons (lcall ((ok_law_draw T).mono (by decide)) hr rfl T.m_law_draw T.f_law_draw.kp T.b_law_draw (lacons (lv 0 rfl rfl) (lacons lint lanil st_con) st_nam) (he := st_nam) (hal := (al_cons (al_cons al_nil)))) lanil st_cal) st_con) st_con) st_cal)) (lcall ((ok_law_draw T).mono (by decide)) hr rfl T.m_law_draw T.f_law_draw.kp T.b_law_draw (lacons (lv 0 rfl rfl) (lacons lint lanil st_con) st_nam) (he := st_nam) (hal := (al_cons (al_cons al_nil))))))))
theorem sc_law_times : FnScope ["hand", "few"] ["hand", "few"] (defScope s_law_times) := ⟨rfl, rfl, rfl, by decide +kernel, rfl, by decide +kernel, by decide +kernel⟩
theorem ok_law_times (T : Tx K mg t) : FnOk P w K mg base CX0 2 t.a_law_times t.d_law_times ["hand", "few"] (upF K B 2 F_law_times) := by
  refine fok (k := 1) T.f_law_times sc_law_times fun cdv A outer s H E hcd hr => ?_
  exact ((lscons (lsif (btru (lv 1 rfl rfl)) (lsone (lrt (lcall ((ok_law_draw T).mono (by decide)) hr rfl T.m_law_draw T.f_law_draw.kp T.b_law_draw (lacons (lv 0 rfl rfl) (lacons lint lanil st_con) st_nam) (he := st_nam) (hal := (al_cons (al_cons al_nil)))))) lsnil)
    (lsone (lrt (lixa (hu_of hr) (llst (lacons (lcall ((ok_law_draw T).mono (by decide)) hr rfl T.m_law_draw T.f_law_draw.kp T.b_law_draw (lacons (lv 0 rfl rfl) (lacons lint lanil st_con) st_nam) (he := st_nam) (hal := (al_cons (al_cons al_nil)))) (lacons lint (lacons lint (lacons (lop ol_pow lint lint) (lacons (lop ol_add (lop ol_pow lint lint) (lcall ((ok_law_draw T).mono (by decide)) hr rfl T.m_law_draw T.f_law_draw.kp T.b_law_draw (lacons (lv 0 rfl rfl) (lacons (lop ol_pow lint lint) lanil st_bin) st_nam) (he := st_nam) (hal := (al_cons (al_cons al_nil))))) lanil st_bin) st_bin) st_con) st_con) st_cal)) (lcall ((ok_law_draw T).mono (by decide)) hr rfl T.m_law_draw T.f_law_draw.kp T.b_law_draw (lacons (lv 0 rfl rfl) (lacons lint lanil st_con) st_nam) (he := st_nam) (hal := (al_cons (al_cons al_nil)))))))))
theorem sc_law_pattern : FnScope ["hand", "deep", "room", "few", "kind", "many", "parts", "j"] ["hand", "deep", "room", "few"] (defScope s_law_pattern) := ⟨rfl, rfl, rfl, by decide +kernel, rfl, by decide +kernel, by decide +kernel⟩
theorem okr_law_pattern (T : Tx K mg t) : ∀ k : Nat, FnOk P w K mg base CX0 (2 + k) t.a_law_pattern t.d_law_pattern ["hand", "deep", "room", "few"] (upF K B 4 (F_law_pattern k))
  | 0 => fok0
  | k + 1 => by
    have G_law_pattern := okr_law_pattern T k
    refine ?g_law_pattern
    case g_law_pattern =>
      refine fok (k := 2 + k) T.f_law_pattern sc_law_pattern fun cdv A outer s H E hcd hr => ?_
      exact ((lscons (las (lop ol_sub (lixa (hu_of hr) (lv 2 rfl rfl) lint) lint) (lgs (hu_of hr) (lv 2 rfl rfl) lint))
    (lscons (lset (i := 4) sc_law_pattern.nd rfl (loc_of rfl) (lcall ((ok_law_draw T).mono (by omega)) hr rfl T.m_law_draw T.f_law_draw.kp T.b_law_draw (lacons (lv 0 rfl rfl) (lacons lint lanil st_con) st_nam) (he := st_nam) (hal := (al_cons (al_cons al_nil)))))
    (lscons (lsif (PLW.pt (bor (bcmp ol_lt (lv 4 rfl rfl) lint (nomark _)) (bor (bcmp (ol_eq hr.units) (lv 1 rfl rfl) lint (nomark _)) (bor1 (bcmp ol_lt (lixa (hu_of hr) (lv 2 rfl rfl) lint) lint (nomark _)))))) (lsone (lrt (ltup (lacons lstr (lacons (lcall ((ok_law_place T).mono (by omega)) hr rfl T.m_law_place T.f_law_place.kp T.b_law_place (lacons (lv 0 rfl rfl) lanil st_nam) (he := st_nam) (hal := (al_cons al_nil))) (lacons (lcall ((ok_law_draw T).mono (by omega)) hr rfl T.m_law_draw T.f_law_draw.kp T.b_law_draw (lacons (lv 0 rfl rfl) (lacons lint lanil st_con) st_nam) (he := st_nam) (hal := (al_cons (al_cons al_nil)))) lanil st_cal) st_cal) st_con)))) lsnil)
    (lscons (lsif (bcmp ol_lt (lv 4 rfl rfl) lint (nomark _)) (lsone (lrt (ltup (lacons lstr (lacons (lcall ((ok_law_times T).mono (by omega)) hr rfl T.m_law_times T.f_law_times.kp T.b_law_times (lacons (lv 0 rfl rfl) (lacons (lv 3 rfl rfl) lanil st_nam) st_nam) (he := st_nam) (hal := (al_cons (al_cons al_nil)))) (lacons (lcall (G_law_pattern.mono (by omega)) hr rfl T.m_law_pattern T.f_law_pattern.kp T.b_law_pattern (lacons (lv 0 rfl rfl) (lacons (lop ol_sub (lv 1 rfl rfl) lint) (lacons (lv 2 rfl rfl) (lacons (lv 3 rfl rfl) lanil st_nam) st_nam) st_bin) st_nam) (he := st_nam) (hal := (al_cons (al_cons (al_cons (al_cons al_nil)))))) lanil st_cal) st_cal) st_con)))) lsnil)
    (lscons (lset (i := 5) sc_law_pattern.nd rfl (loc_of rfl) (lcallB (ca_min rfl) rfl T.n_min bt_min (lacons (lcall ((ok_law_draw T).mono (by omega)) hr rfl T.m_law_draw T.f_law_draw.kp T.b_law_draw (lacons (lv 0 rfl rfl) (lacons lint lanil st_con) st_nam) (he := st_nam) (hal := (al_cons (al_cons al_nil)))) (lacons (lixa (hu_of hr) (lv 2 rfl rfl) lint) lanil st_sub) st_cal) (he := st_cal)))
    (lscons (las (lop ol_sub (lixa (hu_of hr) (lv 2 rfl rfl) lint) (lv 5 rfl rfl)) (lgs (hu_of hr) (lv 2 rfl rfl) lint))
    (lscons (lset (i := 6) sc_law_pattern.nd rfl (loc_of rfl) (llst lanil))
    (lscons (lfor rfl (lirng1 rfl T.n_range (lv 5 rfl rfl) st_nam) (lgn (i := 7) sc_law_pattern.nd rfl (loc_of rfl)) (lscons (las (lop ol_add (lixa (hu_of hr) (lv 2 rfl rfl) lint) lint) (lgs (hu_of hr) (lv 2 rfl rfl) lint))
    (lsone (lex (lm PySem.F.slot_list_append PySem.F.type_list_append me_append (lv 6 rfl rfl) (lacons (lcall (G_law_pattern.mono (by omega)) hr rfl T.m_law_pattern T.f_law_pattern.kp T.b_law_pattern (lacons (lv 0 rfl rfl) (lacons (lop ol_sub (lv 1 rfl rfl) lint) (lacons (lv 2 rfl rfl) (lacons (lv 3 rfl rfl) lanil st_nam) st_nam) st_bin) st_nam) (he := st_nam) (hal := (al_cons (al_cons (al_cons (al_cons al_nil)))))) lanil st_cal))))) PassesOwn.never)
    (lsone (lrt (ltup (lacons lstr (lacons (lcallT ca_tuple rfl T.n_tuple bt_tuple (lacons (lv 6 rfl rfl) lanil st_nam) (he := st_nam)) lanil st_cal) st_con)))))))))))))
theorem ok_law_pattern (T : Tx K mg t) (k : Nat) : FnOk P w K mg base CX0 (2 + k) t.a_law_pattern t.d_law_pattern ["hand", "deep", "room", "few"] (upF K B 4 (F_law_pattern k)) := (okr_law_pattern T k)
theorem sc_law_drawn : FnScope ["hand", "few"] ["hand", "few"] (defScope s_law_drawn) := ⟨rfl, rfl, rfl, by decide +kernel, rfl, by decide +kernel, by decide +kernel⟩
theorem ok_law_drawn (T : Tx K mg t) : FnOk P w K mg base CX0 15 t.a_law_drawn t.d_law_drawn ["hand", "few"] (upF K B 2 F_law_drawn) := by
  refine fok (k := 14) T.f_law_drawn sc_law_drawn fun cdv A outer s H E hcd hr => ?_
  exact ((lsone (lrt (lcall ((ok_law_pattern T 12).mono (by decide)) hr rfl T.m_law_pattern T.f_law_pattern.kp T.b_law_pattern (lacons (lv 0 rfl rfl) (lacons (lop ol_add lint (lcall ((ok_law_draw T).mono (by decide)) hr rfl T.m_law_draw T.f_law_draw.kp T.b_law_draw (lacons (lv 0 rfl rfl) (lacons lint lanil st_con) st_nam) (he := st_nam) (hal := (al_cons (al_cons al_nil))))) (lacons (llst (lacons lint lanil st_con)) (lacons (lv 1 rfl rfl) lanil st_nam) st_lst) st_bin) st_nam) (he := st_nam) (hal := (al_cons (al_cons (al_cons (al_cons al_nil)))))))))
theorem sc_law_many : FnScope ["pattern", "many", "part"] ["pattern"] (defScope s_law_many) := ⟨rfl, rfl, rfl, by decide +kernel, rfl, by decide +kernel, by decide +kernel⟩
theorem okr_law_many (T : Tx K mg t) : ∀ k : Nat, FnOk P w K mg base CX0 (1 + k) t.a_law_many t.d_law_many ["pattern"] (upF K B 1 (F_law_many_2 k))
  | 0 => fok0
  | k + 1 => by
    have G_law_many := okr_law_many T k
    refine ?g_law_many
    case g_law_many =>
      refine fok (k := 1 + k) T.f_law_many sc_law_many fun cdv A outer s H E hcd hr => ?_
      exact ((lscons (lsif (bcmp (ol_eq hr.units) (lixa (hu_of hr) (lv 0 rfl rfl) lint) lstr (nomark _)) (lsone (lrt lint)) lsnil)
    (lscons (lset (i := 1) sc_law_many.nd rfl (loc_of rfl) lint)
    (lscons (lsif (bcmp (ol_eq hr.units) (lixa (hu_of hr) (lv 0 rfl rfl) lint) lstr (nomark _)) (lscons (lfor rfl (liany (lixa (hu_of hr) (lv 0 rfl rfl) lint)) (lgn (i := 2) sc_law_many.nd rfl (loc_of rfl)) (lsone (lset (i := 1) sc_law_many.nd rfl (loc_of rfl) (lop ol_add (lv 1 rfl rfl) (lcall (G_law_many.mono (by omega)) hr rfl T.m_law_many T.f_law_many.kp T.b_law_many (lacons (lv 2 rfl rfl) lanil st_nam) (he := st_nam) (hal := (al_cons al_nil)))))) PassesOwn.never)
    (lsone (lrt (lv 1 rfl rfl)))) lsnil)
    (lsone (lrt (lop ol_mul (lcall (G_law_many.mono (by omega)) hr rfl T.m_law_many T.f_law_many.kp T.b_law_many (lacons (lixa (hu_of hr) (lv 0 rfl rfl) lint) lanil st_sub) (he := st_sub) (hal := (al_cons al_nil))) (lixa (hu_of hr) (lv 0 rfl rfl) lint))))))))
theorem ok_law_many (T : Tx K mg t) (k : Nat) : FnOk P w K mg base CX0 (1 + k) t.a_law_many t.d_law_many ["pattern"] (upF K B 1 (F_law_many_2 k)) := (okr_law_many T k)
theorem sc_law_run : FnScope ["pattern", "most", "run", "waiting", "one"] ["pattern", "most"] (defScope s_law_run) := ⟨rfl, rfl, rfl, by decide +kernel, rfl, by decide +kernel, by decide +kernel⟩
theorem ok_law_run (T : Tx K mg t) : FnOk P w K mg base CX0 26 t.a_law_run t.d_law_run ["pattern", "most"] (upF K B 2 F_law_run_3) := by
  refine fok (k := 25) T.f_law_run sc_law_run fun cdv A outer s H E hcd hr => ?_
  exact ((lscons (lset (i := 2) sc_law_run.nd rfl (loc_of rfl) (llst lanil))
    (lscons (lset (i := 3) sc_law_run.nd rfl (loc_of rfl) (llst (lacons (lv 0 rfl rfl) lanil st_nam)))
    (lscons (lwh (PLW.pt (band (bcmp (ol_ne hr.units) (lv 3 rfl rfl) (llst lanil) (nomark _)) (band1 (bcmp ol_le (lcallB ca_len rfl T.n_len bt_len (lacons (lv 2 rfl rfl) lanil st_nam) (he := st_nam)) (lv 1 rfl rfl) (nomark _))))) (lscons (lset (i := 4) sc_law_run.nd rfl (loc_of rfl) (lm0 PySem.F.slot_list_pop PySem.F.type_list_pop me_pop (lv 3 rfl rfl)))
    (lsone (lsif (bcmp (ol_eq hr.units) (lixa (hu_of hr) (lv 4 rfl rfl) lint) lstr (nomark _)) (lsone (lex (lm PySem.F.slot_list_append PySem.F.type_list_append me_append (lv 2 rfl rfl) (lacons (ltup (lacons (lixa (hu_of hr) (lv 4 rfl rfl) lint) (lacons (lixa (hu_of hr) (lv 4 rfl rfl) lint) lanil st_sub) st_sub)) lanil st_tup)))) (lsone (lsif (bcmp (ol_eq hr.units) (lixa (hu_of hr) (lv 4 rfl rfl) lint) lstr (nomark _)) (lsone (lex (lm PySem.F.slot_list_extend PySem.F.type_list_extend me_extend (lv 3 rfl rfl) (lacons (llistRev rfl rfl T.n_list rfl T.n_reversed (lixa (hu_of hr) (lv 4 rfl rfl) lint)) lanil st_cal)))) (lsone (lsif (PLW.pt (band (bcmp ol_gt (lixa (hu_of hr) (lv 4 rfl rfl) lint) lint (nomark _)) (band1 (bcmp ol_gt (lcall ((ok_law_many T 24).mono (by decide)) hr rfl T.m_law_many T.f_law_many.kp T.b_law_many (lacons (lixa (hu_of hr) (lv 4 rfl rfl) lint) lanil st_sub) (he := st_sub) (hal := (al_cons al_nil))) lint (nomark _))))) (lsone (lex (lm PySem.F.slot_list_extend PySem.F.type_list_extend me_extend (lv 3 rfl rfl) (lacons (lop ol_mul (llst (lacons (lixa (hu_of hr) (lv 4 rfl rfl) lint) lanil st_sub)) (lcallB (ca_min rfl) rfl T.n_min bt_min (lacons (lixa (hu_of hr) (lv 4 rfl rfl) lint) (lacons (lop ol_add (lv 1 rfl rfl) lint) lanil st_bin) st_sub) (he := st_sub))) lanil st_bin)))) lsnil))))))) PassesOwn.never)
    (lsone (lrt (lv 2 rfl rfl)))))))
theorem sc_law_asked : FnScope ["pattern", "told", "caught", "e"] ["pattern"] (defScope s_law_asked) := ⟨rfl, rfl, rfl, by decide +kernel, rfl, by decide +kernel, by decide +kernel⟩
theorem ok_law_asked (T : Tx K mg t) (H_many_events : Gn base mg B t.d_many_events t.c_many_events t.P_many_events) (HI : HIn B t) : FnOk P w K mg base CX0 75 t.a_law_asked t.d_law_asked ["pattern"] (upF K B 1 F_law_asked) := by
  refine fok (k := 74) T.f_law_asked sc_law_asked fun cdv A outer s H E hcd hr => ?_
  exact ((lscons (lset (i := 1) sc_law_asked.nd rfl (loc_of rfl) lnon)
    (lscons (lset (i := 2) sc_law_asked.nd rfl (loc_of rfl) lnon)
    (lscons (ltry_as rfl rfl rfl sc_law_asked.nd rfl (loc_of rfl) rfl rfl rfl T.mc_GuessError T.ex_GuessError rfl (by decide) (fun m hm => by simp at hm; subst hm; exact ⟨_, _, _, HI.i_NoRun, T.ex_NoRun, T.ks_NoRun_GuessError⟩) ((ok_run_of T H_many_events HI).mono (by decide)) hr rfl T.m_run_of T.f_run_of.kp T.b_run_of (fun _ => (lacons (lv 0 rfl rfl) lanil st_nam)) (fun _ _ => (lsone (lset (i := 2) sc_law_asked.nd rfl (loc_of rfl) (lv 3 rfl rfl)))) rfl (al_cons al_nil) (hst := st_nam))
    (lscons (lsif (PLW.pt (band (bcmp ol_isnot (lv 2 rfl rfl) lnon (nomark _)) (band1 (btru (lisix4 rfl T.n_isinstance (lv 2 rfl rfl) rfl rfl rfl rfl T.mc_NoGuesser T.mc_NoName T.mc_NoPattern T.mc_NoRow (fun m b h => let ⟨e1, e2⟩ := tab1 h; e1 ▸ e2 ▸ ⟨_, HI.i_NoRun, T.ek_NoRun, (any4 T.ki_NoRun_NoGuesser T.ki_NoRun_NoName T.ki_NoRun_NoPattern T.ki_NoRun_NoRow)⟩)))))) (lsone (lrt (ltup (lacons lbl (lacons (llst (lacons lstr lanil st_con)) lanil st_lst) st_con)))) lsnil)
    (lscons (lsif (PLW.pt (band (bcmp ol_isnot (lv 2 rfl rfl) lnon (nomark _)) (band1 (PLW.pt (bor (bnot (btru (lisix rfl T.n_isinstance (lv 2 rfl rfl) rfl T.mc_NoRun (fun m b h => let ⟨e1, e2⟩ := tab1 h; e1 ▸ e2 ▸ ⟨_, HI.i_NoRun, T.ek_NoRun, T.ki_NoRun_NoRun⟩)))) (bor1 (bnot (btru (lisixT rfl T.n_isinstance (lv 2 rfl rfl) rfl T.n_ValueError bt_ValueError (by decide) (fun m b h => let ⟨e1, e2⟩ := tab1 h; e1 ▸ e2 ▸ ⟨_, HI.i_NoRun, T.ek_NoRun, T.kv_NoRun⟩)))))))))) (lsone (lrt (ltup (lacons lbl (lacons (llst (lacons lstr lanil st_con)) lanil st_lst) st_con)))) lsnil)
    (lsone (lrt (ltup (lacons (lcmp ol_isnot (lv 2 rfl rfl) lnon (nomark _)) (lacons (lv 1 rfl rfl) lanil st_nam) st_cmp))))))))))
theorem sc_law_right : FnScope ["pattern", "due", "event", "other", "refused", "told"] ["pattern"] (defScope s_law_right) := ⟨rfl, rfl, rfl, by decide +kernel, rfl, by decide +kernel, by decide +kernel⟩
theorem ok_law_right (T : Tx K mg t) (H_many_events : Gn base mg B t.d_many_events t.c_many_events t.P_many_events) (HI : HIn B t) : FnOk P w K mg base CX0 76 t.a_law_right t.d_law_right ["pattern"] (upF K B 1 F_law_right_7) := by
  refine fok (k := 75) T.f_law_right sc_law_right fun cdv A outer s H E hcd hr => ?_
  exact ((lscons (las (lcall ((ok_law_asked T H_many_events HI).mono (by decide)) hr rfl T.m_law_asked T.f_law_asked.kp T.b_law_asked (lacons (lv 0 rfl rfl) lanil st_nam) (he := st_nam) (hal := (al_cons al_nil))) (lgt rfl (lgscons (lgn (i := 4) sc_law_right.nd rfl (loc_of rfl)) (lgscons (lgn (i := 5) sc_law_right.nd rfl (loc_of rfl)) (lgsnil (sl := []))))))
    (lscons (lsif (PLW.pt (bor (btru (lv 4 rfl rfl)) (bor1 (bcmp ol_gt (lcall ((ok_law_many T 24).mono (by decide)) hr rfl T.m_law_many T.f_law_many.kp T.b_law_many (lacons (lv 0 rfl rfl) lanil st_nam) (he := st_nam) (hal := (al_cons al_nil))) lint (nomark _))))) (lsone (lrt (land (lv 4 rfl rfl) (lone (lcmp ol_gt (lcall ((ok_law_many T 24).mono (by decide)) hr rfl T.m_law_many T.f_law_many.kp T.b_law_many (lacons (lv 0 rfl rfl) lanil st_nam) (he := st_nam) (hal := (al_cons al_nil))) lint (nomark _)))))) lsnil)
    (lscons (lset (i := 1) sc_law_right.nd rfl (loc_of rfl) (lcall ((ok_law_run T).mono (by decide)) hr rfl T.m_law_run T.f_law_run.kp T.b_law_run (lacons (lv 0 rfl rfl) (lacons lint lanil st_con) st_nam) (he := st_nam) (hal := (al_cons (al_cons al_nil)))))
    (lscons (lsif (PLW.pt (bor (bnot (btru (lcallB ca_isi rfl T.n_isinstance bt_isinstance (lacons (lv 5 rfl rfl) (lacons (lty rfl T.n_list bt_list) lanil st_nam) st_nam) (he := st_nam)))) (bor1 (bcmp (ol_ne hr.units) (lv 5 rfl rfl) (lv 1 rfl rfl) (nomark _))))) (lsone (lrt lbl)) lsnil)
    (lscons (lfor rfl (liany (lv 5 rfl rfl)) (lgn (i := 2) sc_law_right.nd rfl (loc_of rfl)) (lsone (lsif (PLW.pt (bor (bnot (btru (lcallB ca_isi rfl T.n_isinstance bt_isinstance (lacons (lv 2 rfl rfl) (lacons (lty rfl T.n_tuple bt_tuple) lanil st_nam) st_nam) (he := st_nam)))) (bor (btru (lcallB ca_isi rfl T.n_isinstance bt_isinstance (lacons (lixa (hu_of hr) (lv 2 rfl rfl) lint) (lacons (lty rfl T.n_bool bt_bool) lanil st_nam) st_sub) (he := st_sub))) (bor1 (btru (lcallB ca_isi rfl T.n_isinstance bt_isinstance (lacons (lixa (hu_of hr) (lv 2 rfl rfl) lint) (lacons (lty rfl T.n_bool bt_bool) lanil st_nam) st_sub) (he := st_sub))))))) (lsone (lrt lbl)) lsnil)) PassesOwn.never)
    (lscons (lex (lm PySem.F.slot_list_append PySem.F.type_list_append me_append (lv 5 rfl rfl) (lacons (ltup (lacons lint (lacons lint lanil st_con) st_con)) lanil st_tup)))
    (lscons (lset (i := 3) sc_law_right.nd rfl (loc_of rfl) (lixa (hu_of hr) (lcall ((ok_law_asked T H_many_events HI).mono (by decide)) hr rfl T.m_law_asked T.f_law_asked.kp T.b_law_asked (lacons (lv 0 rfl rfl) lanil st_nam) (he := st_nam) (hal := (al_cons al_nil))) lint))
    (lsone (lrt (land (lcmp (ol_eq hr.units) (lv 3 rfl rfl) (lv 1 rfl rfl) (nomark _)) (lone (lcmp (ol_eq hr.units) (lv 5 rfl rfl) (lop ol_add (lv 1 rfl rfl) (llst (lacons (ltup (lacons lint (lacons lint lanil st_con) st_con)) lanil st_tup))) (nomark _))))))))))))))
theorem sc_law_edge : FnScope ["hand", "one", "many", "total", "often", "rest"] ["hand"] (defScope s_law_edge) := ⟨rfl, rfl, rfl, by decide +kernel, rfl, by decide +kernel, by decide +kernel⟩
theorem ok_law_edge (T : Tx K mg t) : FnOk P w K mg base CX0 26 t.a_law_edge t.d_law_edge ["hand"] (upF K B 1 F_law_edge) := by
  refine fok (k := 25) T.f_law_edge sc_law_edge fun cdv A outer s H E hcd hr => ?_
  exact ((lscons (lset (i := 1) sc_law_edge.nd rfl (loc_of rfl) (lcall ((ok_law_pattern T 12).mono (by decide)) hr rfl T.m_law_pattern T.f_law_pattern.kp T.b_law_pattern (lacons (lv 0 rfl rfl) (lacons lint (lacons (llst (lacons lint lanil st_con)) (lacons lbl lanil st_con) st_lst) st_con) st_nam) (he := st_nam) (hal := (al_cons (al_cons (al_cons (al_cons al_nil)))))))
    (lscons (lset (i := 2) sc_law_edge.nd rfl (loc_of rfl) (lcall ((ok_law_many T 24).mono (by decide)) hr rfl T.m_law_many T.f_law_many.kp T.b_law_many (lacons (lv 1 rfl rfl) lanil st_nam) (he := st_nam) (hal := (al_cons al_nil))))
    (lscons (lset (i := 3) sc_law_edge.nd rfl (loc_of rfl) (lop ol_add lint (lcall ((ok_law_draw T).mono (by decide)) hr rfl T.m_law_draw T.f_law_draw.kp T.b_law_draw (lacons (lv 0 rfl rfl) (lacons lint lanil st_con) st_nam) (he := st_nam) (hal := (al_cons (al_cons al_nil))))))
    (lscons (lset (i := 4) sc_law_edge.nd rfl (loc_of rfl) (lop ol_mul (lop ol_fdiv (lv 3 rfl rfl) (lcallB (ca_max rfl) rfl T.n_max bt_max (lacons lint (lacons (lv 2 rfl rfl) lanil st_nam) st_con) (he := st_con))) (lcallT ca_int rfl T.n_int bt_int (lacons (lcmp ol_gt (lv 2 rfl rfl) lint (nomark _)) lanil st_cmp) (he := st_cmp))))
    (lscons (lset (i := 5) sc_law_edge.nd rfl (loc_of rfl) (lop ol_sub (lv 3 rfl rfl) (lop ol_mul (lv 4 rfl rfl) (lv 2 rfl rfl))))
    (lsone (lrt (ltup (lacons lstr (lacons (ltup (lacons (ltup (lacons lstr (lacons (lv 4 rfl rfl) (lacons (lv 1 rfl rfl) lanil st_nam) st_nam) st_con)) (lacons (ltup (lacons lstr (lacons (lv 5 rfl rfl) (lacons (ltup (lacons lstr (lacons lint (lacons lint lanil st_con) st_con) st_con)) lanil st_tup) st_nam) st_con)) (lacons (ltup (lacons lstr (lacons (lop ol_pow lint lint) (lacons (ltup (lacons lstr (lacons (ltup lanil) lanil st_tup) st_con)) lanil st_tup) st_bin) st_con)) lanil st_tup) st_tup) st_tup)) lanil st_tup) st_con))))))))))
theorem sc_law_deeper : FnScope ["pattern", "many", "k"] ["pattern", "many"] (defScope s_law_deeper) := ⟨rfl, rfl, rfl, by decide +kernel, rfl, by decide +kernel, by decide +kernel⟩
theorem ok_law_deeper (T : Tx K mg t) : FnOk P w K mg base CX0 1 t.a_law_deeper t.d_law_deeper ["pattern", "many"] (upF K B 2 F_law_deeper) := by
  refine fok (k := 0) T.f_law_deeper sc_law_deeper fun cdv A outer s H E hcd hr => ?_
  exact ((lscons (lfor rfl (lirng1 rfl T.n_range (lv 1 rfl rfl) st_nam) (lgn (i := 2) sc_law_deeper.nd rfl (loc_of rfl)) (lsone (lset (i := 0) sc_law_deeper.nd rfl (loc_of rfl) (ltup (lacons lstr (lacons (ltup (lacons (lv 0 rfl rfl) lanil st_nam)) lanil st_tup) st_con)))) PassesOwn.never)
    (lsone (lrt (lv 0 rfl rfl)))))
theorem sc_law : FnScope ["script", "k", "cell", "hand", "one", "pattern"] ["script"] (defScope s_law) := ⟨rfl, rfl, rfl, by decide +kernel, rfl, by decide +kernel, by decide +kernel⟩
theorem ok_law (T : Tx K mg t) (H_many_events : Gn base mg B t.d_many_events t.c_many_events t.P_many_events) (HI : HIn B t) : FnOk P w K mg base CX0 77 t.a_law t.d_law ["script"] (upF K B 1 F_law_30) := by
  refine fok (k := 76) T.f_law sc_law fun cdv A outer s H E hcd hr => ?_
  exact ((lscons (lfor rfl (liany (lcall ((ok_law_cells T).mono (by decide)) hr rfl T.m_law_cells T.f_law_cells.kp T.b_law_cells (lacons (lv 0 rfl rfl) lanil st_nam) (he := st_nam) (hal := (al_cons al_nil)))) (lgt rfl (lgscons (lgn (i := 1) sc_law.nd rfl (loc_of rfl)) (lgscons (lgn (i := 2) sc_law.nd rfl (loc_of rfl)) (lgsnil (sl := []))))) (lscons (lset (i := 3) sc_law.nd rfl (loc_of rfl) (lcall ((ok_law_hand T).mono (by decide)) hr rfl T.m_law_hand T.f_law_hand.kp T.b_law_hand (lacons (lv 0 rfl rfl) (lacons (lv 2 rfl rfl) (lacons (lv 1 rfl rfl) lanil st_nam) st_nam) st_nam) (he := st_nam) (hal := (al_cons (al_cons (al_cons al_nil))))))
    (lscons (lset (i := 4) sc_law.nd rfl (loc_of rfl) (lcall ((ok_law_drawn T).mono (by decide)) hr rfl T.m_law_drawn T.f_law_drawn.kp T.b_law_drawn (lacons (lv 3 rfl rfl) (lacons lbl lanil st_con) st_nam) (he := st_nam) (hal := (al_cons (al_cons al_nil)))))
    (lsone (lfor rfl (liany (llst (lacons (lv 4 rfl rfl) (lacons (lcall ((ok_law_drawn T).mono (by decide)) hr rfl T.m_law_drawn T.f_law_drawn.kp T.b_law_drawn (lacons (lv 3 rfl rfl) (lacons lbl lanil st_con) st_nam) (he := st_nam) (hal := (al_cons (al_cons al_nil)))) (lacons (lcall ((ok_law_edge T).mono (by decide)) hr rfl T.m_law_edge T.f_law_edge.kp T.b_law_edge (lacons (lv 3 rfl rfl) lanil st_nam) (he := st_nam) (hal := (al_cons al_nil))) (lacons (lcall ((ok_law_deeper T).mono (by decide)) hr rfl T.m_law_deeper T.f_law_deeper.kp T.b_law_deeper (lacons (lv 4 rfl rfl) (lacons lint lanil st_con) st_nam) (he := st_nam) (hal := (al_cons (al_cons al_nil)))) (lacons (ltup (lacons lstr (lacons (lop ol_mul (ltup (lacons (lv 4 rfl rfl) lanil st_nam)) lint) lanil st_bin) st_con)) lanil st_tup) st_cal) st_cal) st_cal) st_nam))) (lgn (i := 5) sc_law.nd rfl (loc_of rfl)) (lsone (lsif (bnot (btru (lcall ((ok_law_right T H_many_events HI).mono (by decide)) hr rfl T.m_law_right T.f_law_right.kp T.b_law_right (lacons (lv 5 rfl rfl) lanil st_nam) (he := st_nam) (hal := (al_cons al_nil))))) (lsone (lrt lbl)) lsnil)) PassesOwn.never)))) PassesOwn.never)
    (lsone (lrt (land (lcall ((ok_law_right T H_many_events HI).mono (by decide)) hr rfl T.m_law_right T.f_law_right.kp T.b_law_right (lacons (ltup (lacons lstr (lacons lint (lacons (ltup (lacons lstr (lacons (lop ol_pow lint lint) (lacons (ltup (lacons lstr (lacons lint (lacons lint lanil st_con) st_con) st_con)) lanil st_tup) st_bin) st_con)) lanil st_tup) st_con) st_con)) lanil st_tup) (he := st_tup) (hal := (al_cons al_nil))) (lone (lcall ((ok_law_right T H_many_events HI).mono (by decide)) hr rfl T.m_law_right T.f_law_right.kp T.b_law_right (lacons (ltup (lacons lstr (lacons lint (lacons lint lanil st_con) st_con) st_con)) lanil st_tup) (he := st_tup) (hal := (al_cons al_nil)))))))))
end
end K03
set_option Elab.async false
set_option linter.all false
set_option maxRecDepth 100000
set_option autoImplicit false
namespace W
open PySem L2 DL
structure Cell where
  (g s a : List Nat)
def nats (l : List Nat) : D := .tup (l.map fun (n : Nat) => D.int n)
def Cell.toD (c : Cell) : D := .tup [nats c.g, nats c.s, nats c.a]
structure Cell.Ok (c : Cell) : Prop where
  pos : 0 < c.g.length
  ls : c.s.length = c.g.length
  la : c.a.length = c.g.length
  g2 : ∀ x ∈ c.g, x < 2
  sl : ∀ x ∈ c.s, x < c.g.length
  al : ∀ x ∈ c.a, x < c.g.length
  sz : c.g.length ≤ 1000
inductive G where
  | same (w : Nat) | table (n : Nat) (c : Cell) | mixed (n l : Nat) (c : Cell) | joined (n l : Nat) (c : Cell) | own (n l : Nat) (c : Cell) | either (a b : G) (n : Nat) (c : Cell)
def G.toD : G → D
  | .same w => .tup [.str "same", .int w]
  | .table n c => .tup [.str "table", .int n, c.toD]
  | .mixed n l c => .tup [.str "mixed", .int n, .int l, c.toD]
  | .joined n l c => .tup [.str "joined", .int n, .int l, c.toD]
  | .own n l c => .tup [.str "own", .int n, .int l, c.toD]
  | .either a b n c => .tup [.str "either", a.toD, b.toD, .int n, c.toD]
def G.Ok : G → Prop
  | .same w => w < 2
  | .table n c => 0 < n ∧ n ≤ 16 ∧ c.Ok
  | .mixed n l c => 0 < n ∧ n ≤ 16 ∧ l ≤ 6 ∧ c.Ok
  | .joined n l c => 0 < n ∧ n ≤ 16 ∧ l ≤ 6 ∧ c.Ok
  | .own n l c => 0 < n ∧ n ≤ 16 ∧ l ≤ 6 ∧ c.Ok
  | .either a b n c => a.Ok ∧ b.Ok ∧ 0 < n ∧ n ≤ 16 ∧ c.Ok
def G.deep : G → Nat
  | .either a b _ _ => max a.deep b.deep + 1
  | _ => 1
def G.many : G → Nat
  | .same _ => 0
  | .table n _ => n
  | .mixed n _ _ => n
  | .joined n l _ => n * 2 ^ l
  | .own _ l _ => 2 ^ l
  | .either _ _ n _ => n
@[simp] theorem w1 : ("same" : Str) ≠ "table" := by decide
@[simp] theorem w2 : ("same" : Str) ≠ "mixed" := by decide
@[simp] theorem w3 : ("same" : Str) ≠ "joined" := by decide
@[simp] theorem w4 : ("same" : Str) ≠ "own" := by decide
@[simp] theorem w5 : ("same" : Str) ≠ "either" := by decide
@[simp] theorem w6 : ("table" : Str) ≠ "same" := by decide
@[simp] theorem w7 : ("table" : Str) ≠ "mixed" := by decide
@[simp] theorem w8 : ("table" : Str) ≠ "joined" := by decide
@[simp] theorem w9 : ("table" : Str) ≠ "own" := by decide
@[simp] theorem w10 : ("table" : Str) ≠ "either" := by decide
@[simp] theorem w11 : ("mixed" : Str) ≠ "same" := by decide
@[simp] theorem w12 : ("mixed" : Str) ≠ "table" := by decide
@[simp] theorem w13 : ("mixed" : Str) ≠ "joined" := by decide
@[simp] theorem w14 : ("mixed" : Str) ≠ "own" := by decide
@[simp] theorem w15 : ("mixed" : Str) ≠ "either" := by decide
@[simp] theorem w16 : ("joined" : Str) ≠ "same" := by decide
@[simp] theorem w17 : ("joined" : Str) ≠ "table" := by decide
@[simp] theorem w18 : ("joined" : Str) ≠ "mixed" := by decide
@[simp] theorem w19 : ("joined" : Str) ≠ "own" := by decide
@[simp] theorem w20 : ("joined" : Str) ≠ "either" := by decide
@[simp] theorem w21 : ("own" : Str) ≠ "same" := by decide
@[simp] theorem w22 : ("own" : Str) ≠ "table" := by decide
@[simp] theorem w23 : ("own" : Str) ≠ "mixed" := by decide
@[simp] theorem w24 : ("own" : Str) ≠ "joined" := by decide
@[simp] theorem w25 : ("own" : Str) ≠ "either" := by decide
@[simp] theorem w26 : ("either" : Str) ≠ "same" := by decide
@[simp] theorem w27 : ("either" : Str) ≠ "table" := by decide
@[simp] theorem w28 : ("either" : Str) ≠ "mixed" := by decide
@[simp] theorem w29 : ("either" : Str) ≠ "joined" := by decide
@[simp] theorem w30 : ("either" : Str) ≠ "own" := by decide
section
variable {α : Type} {a b c d e : α} {r : List α}
@[simp] theorem at0 : atI (a :: r) 0 = some a := atI_n (n := 0)
@[simp] theorem at1 : atI (a :: b :: r) 1 = some b := atI_n (n := 1)
@[simp] theorem at2 : atI (a :: b :: c :: r) 2 = some c := atI_n (n := 2)
@[simp] theorem at3 : atI (a :: b :: c :: d :: r) 3 = some d := atI_n (n := 3)
@[simp] theorem at4 : atI (a :: b :: c :: d :: e :: r) 4 = some e := atI_n (n := 4)
@[simp] theorem at_m1 : atI [a] (-1) = some a := atI_neg1 (by simp)
@[simp] theorem at_m2 : atI [a, b] (-1) = some b := atI_neg1 (by simp)
@[simp] theorem at_m3 : atI [a, b, c] (-1) = some c := atI_neg1 (by simp)
@[simp] theorem at_m4 : atI [a, b, c, d] (-1) = some d := atI_neg1 (by simp)
@[simp] theorem at_m5 : atI [a, b, c, d, e] (-1) = some e := atI_neg1 (by simp)
end
def G.size : G → Nat
  | .same w => w
  | .table n _ => n
  | .mixed n _ _ => n
  | .joined n _ _ => n
  | .own n _ _ => n
  | .either _ _ n _ => n
variable {S : Sto}
@[simp] theorem beq_str {a b : Str} : (a == b) = decide (a = b) := id rfl
section
variable {n l : Nat} {c x y : D}
end
end W
set_option Elab.async false
set_option linter.all false
set_option maxRecDepth 100000
set_option autoImplicit false
namespace W
open PySem L2 DL
def nth (l : List Nat) (n : Nat) : Nat := l.getD n 0
inductive Sx where
  | same | table (cs : List Nat) | num (m : Nat) (cs : List Nat) | own (ms cs : List Nat) | either (a b : Sx) (cs : List Nat)
def Sx.toD : Sx → D
  | .same => .tup []
  | .table cs => nats cs
  | .num m cs => .tup [.int m, nats cs]
  | .own ms cs => .tup [nats ms, nats cs]
  | .either a b cs => .tup [a.toD, b.toD, nats cs]
def G.OkS : G → Sx → Prop
  | .same _, .same => True
  | .table n c, .table cs => cs.length = n ∧ ∀ x ∈ cs, x < c.g.length
  | .mixed n l c, .num m cs => m < 2 ^ l ∧ cs.length = n ∧ ∀ x ∈ cs, x < c.g.length
  | .joined n l c, .num m cs => m < 2 ^ l ∧ cs.length = n * 2 ^ l ∧ ∀ x ∈ cs, x < c.g.length
  | .own n l c, .own ms cs => ms.length = n ∧ (∀ m ∈ ms, m < 2 ^ l) ∧ cs.length = 2 ^ l ∧ ∀ x ∈ cs, x < c.g.length
  | .either a b n c, .either s t cs => a.OkS s ∧ b.OkS t ∧ cs.length = n ∧ ∀ x ∈ cs, x < c.g.length
  | _, _ => False
def Cell.go (c : Cell) (x w : Nat) : Nat := if w = 0 then nth c.s x else nth c.a x
def Cell.gs (c : Cell) (x : Nat) : Nat := nth c.g x
def G.first : G → Sx
  | .same _ => .same
  | .table n _ => .table (List.replicate n 0)
  | .mixed n _ _ => .num 0 (List.replicate n 0)
  | .joined n l _ => .num 0 (List.replicate (n * 2 ^ l) 0)
  | .own n l _ => .own (List.replicate n 0) (List.replicate (2 ^ l) 0)
  | .either a b n _ => .either a.first b.first (List.replicate n 0)
variable {S : Sto}
section
variable {n l : Nat} {c x y : D}
end
end W
set_option Elab.async false
set_option linter.all false
set_option maxRecDepth 100000
set_option autoImplicit false
namespace W
open PySem L2 DL
variable {S : Sto}
section
variable {n l p m : Nat} {c x y z : D}
end
@[simp] theorem cell_0 {c : Cell} : oIxA c.toD (.int 0) S = some (nats c.g, S) := id rfl
@[simp] theorem cell_1 {c : Cell} : oIxA c.toD (.int 1) S = some (nats c.s, S) := id rfl
@[simp] theorem cell_2 {c : Cell} : oIxA c.toD (.int 2) S = some (nats c.a, S) := id rfl
end W
set_option Elab.async false
set_option linter.all false
set_option maxRecDepth 100000
set_option autoImplicit false
namespace W
open PySem L2 DL
variable {S : Sto}
section
variable {n l p m w : Nat} {c x y : D}
end
theorem deep_pos (g : G) : 1 ≤ g.deep := by cases g <;> simp [G.deep]
end W
set_option Elab.async false
set_option linter.all false
set_option maxRecDepth 100000
set_option autoImplicit false
namespace W
open PySem L2 DL
structure Frm (fp : List Nat) (S S' : Sto) : Prop where
  len : S.length ≤ S'.length
  keep : ∀ l : Nat, l < S.length → l ∉ fp → S'[l]? = S[l]?
section
variable {fp fq : List Nat} {S S' S1 S2 : Sto} {l h : Nat} {m : MO} {xs : List D}
theorem Frm.refl : Frm fp S S := ⟨Nat.le_refl _, fun _ _ _ => rfl⟩
theorem Frm.trans (a : Frm fp S S1) (b : Frm fp S1 S2) : Frm fp S S2 := ⟨Nat.le_trans a.len b.len, fun l hl n => (b.keep l (Nat.lt_of_lt_of_le hl a.len) n).trans (a.keep l hl n)⟩
theorem Frm.mono (a : Frm fp S S') (h : ∀ l ∈ fp, l ∈ fq) : Frm fq S S' := ⟨a.len, fun l hl n => a.keep l hl fun z => n (h l z)⟩
theorem Frm.drop (a : Frm fp S S1) (b : Frm fq S1 S2) (h : ∀ l ∈ fq, l ∈ fp ∨ S.length ≤ l) : Frm fp S S2 := ⟨Nat.le_trans a.len b.len, fun l hl n => (b.keep l (Nat.lt_of_lt_of_le hl a.len) fun z => by
  rcases h l z with w | w
  · exact n w
  · omega).trans (a.keep l hl n)⟩
theorem Frm.app (T : Sto) : Frm fp S (S ++ T) := ⟨by rw [List.length_append]; omega, fun l hl _ => List.getElem?_append_left hl⟩
theorem Frm.set (h : l ∈ fp) : Frm fp S (S.set l m) := ⟨by rw [List.length_set]; exact Nat.le_refl _, fun i hi n => List.getElem?_set_ne (fun z : l = i => n (by rw [← z]; exact h))⟩
theorem lt_of (h : S[l]? = some m) : l < S.length := (List.getElem?_eq_some_iff.mp h).1
theorem Frm.get (a : Frm fp S S') (h : S[l]? = some m) (n : l ∉ fp) : S'[l]? = some m := (a.keep l (lt_of h) n).trans h
theorem Frm.rd (a : Frm fp S S') (h : rdL S l = some xs) (n : l ∉ fp) : rdL S' l = some xs := by
  obtain ⟨m, e, q⟩ := rdL_some h
  have := a.get e n
  rcases q with rfl | rfl
  · exact rdL_lst this
  · exact rdL_rol this
theorem rd_lt (h : rdL S l = some xs) : l < S.length := let ⟨_, e, _⟩ := rdL_some h; lt_of e
theorem new_get : (S ++ [m])[S.length]? = some m := by simp
theorem new_rd : rdL (S ++ [.lst xs]) S.length = some xs := rdL_lst new_get
theorem set_get (h : l < S.length) : (S.set l m)[l]? = some m := by rw [List.getElem?_set, if_pos rfl, if_pos h]
end
def Hd (S : Sto) (h : Nat) : Prop := ∃ i j w : Int, S[h]? = some (.lst [.int i, .int j, .int w]) ∧ 0 ≤ j ∧ j < 2147483587
structure Dr (h : Nat) (S S' : Sto) : Prop where
  frm : Frm [h] S S'
  hd : Hd S' h
section
variable {S S' S1 S2 : Sto} {h : Nat}
theorem Hd.lt (x : Hd S h) : h < S.length := let ⟨_, _, _, e, _⟩ := x; lt_of e
theorem Hd.frm (x : Hd S h) {fp : List Nat} (f : Frm fp S S') (n : h ∉ fp) : Hd S' h := let ⟨i, j, w, e, r⟩ := x; ⟨i, j, w, f.get e n, r⟩
theorem Dr.refl (x : Hd S h) : Dr h S S := ⟨.refl, x⟩
theorem Dr.trans (a : Dr h S S1) (b : Dr h S1 S2) : Dr h S S2 := ⟨a.frm.trans b.frm, b.hd⟩
theorem Dr.app (x : Hd S h) (T : Sto) : Dr h S (S ++ T) := ⟨.app T, x.frm (.app (fp := []) T) (by simp)⟩
theorem Dr.len (a : Dr h S S') : S.length ≤ S'.length := a.frm.len
theorem kGS2_0 {ρ : En} {l : Nat} {a b : D} {xs : List D} (e : wrL S l = some (a :: xs)) : kGS2 ρ b (.ref l) (.int 0, S) = some (ρ, S.set l (.lst (b :: xs))) := kGS2_l (n := 0) e (by simp)
theorem kGS2_1 {ρ : En} {l : Nat} {a b c : D} {xs : List D} (e : wrL S l = some (a :: c :: xs)) : kGS2 ρ b (.ref l) (.int 1, S) = some (ρ, S.set l (.lst (a :: b :: xs))) := kGS2_l (n := 1) e (by simp)
theorem draw_ok {lim : Int} (x : Hd S h) (h0 : 0 < lim) (h1 : lim < 1000000) : Ok (F_law_draw [.ref h, .int lim] S) fun d S' => ∃ g : Nat, d = .int g ∧ (g : Int) < lim ∧ Dr h S S' := by
  obtain ⟨i, j, w, e, hj0, hj1⟩ := x
  have hl := lt_of e
  have r := rdL_lst e
  have wr := wrL_lst e
  by_cases hw : w = 0
  · subst hw
    refine Ok.eq (a := .int (i % lim)) (S := S.set h (.lst [.int (i / lim), .int j, .int 0])) ?_ ?_
    · simp [F_law_draw, b_law_draw, fnRun_ap, oIxA_ref r, oMod_pos h0, oFdiv_pos h0 (show lim < 1073741824 by omega), kGS2_0 wr]
    · have := Int.emod_nonneg i (show lim ≠ 0 by omega)
      have := Int.emod_lt_of_pos i h0
      exact ⟨(i % lim).toNat, by congr 1; omega, by omega, .set (by simp), _, j, 0, set_get hl, hj0, hj1⟩
  · have e1 : oMul (.int j) (.int j) S = some (.int (j * j), S) := oMul_sl (by omega) (by omega)
    have e2 : oMul (.int 69621) (.int j) S = some (.int (69621 * j), S) := oMul_sl (by omega) (by omega)
    have e3 : oMod (.int (j * j + 69621 * j + 12345)) (.int 2147483587) S = some (.int ((j * j + 69621 * j + 12345) % 2147483587), S) := oMod_pos (by decide)
    have n0 := Int.emod_nonneg (j * j + 69621 * j + 12345) (show (2147483587 : Int) ≠ 0 by decide)
    have n1 := Int.emod_lt_of_pos (j * j + 69621 * j + 12345) (show (0 : Int) < 2147483587 by decide)
    generalize hjj : (j * j + 69621 * j + 12345) % 2147483587 = jj at e3 n0 n1
    have sg := set_get (m := .lst [.int i, .int jj, .int w]) hl
    have r2 := rdL_lst sg
    refine Ok.eq (a := .int (jj / 8 % lim)) (S := S.set h (.lst [.int i, .int jj, .int w])) ?_ ?_
    · simp [F_law_draw, b_law_draw, fnRun_ap, oIxA_ref r, hw, e1, e2, e3, kGS2_1 wr, oIxA_ref r2, oFdiv_pos (i := jj) (j := 8) (by decide) (by decide), oMod_pos h0]
    · have := Int.emod_nonneg (jj / 8) (show lim ≠ 0 by omega)
      have := Int.emod_lt_of_pos (jj / 8) h0
      exact ⟨(jj / 8 % lim).toNat, by congr 1; omega, by omega, .set (by simp), _, jj, w, sg, n0, n1⟩
end
end W
set_option Elab.async false
set_option linter.all false
set_option maxRecDepth 100000
set_option autoImplicit false
namespace W
open PySem L2 DL
variable {S S' : Sto} {h : Nat}
theorem Hd.set {L : Nat} {m : MO} (x : Hd S h) (n : L ≠ h) : Hd (S.set L m) h := let ⟨i, j, w, e, r⟩ := x; ⟨i, j, w, by rw [List.getElem?_set_ne n]; exact e, r⟩
theorem i62_n {n : Nat} (h : n ≤ 1000000) : i62 (n : Int) = true := by unfold i62; simp only [Bool.and_eq_true, decide_eq_true_eq]; omega
end W
set_option Elab.async false
set_option linter.all false
set_option maxRecDepth 100000
set_option autoImplicit false
namespace W
open PySem L2 DL
variable {S S' : Sto} {h : Nat}
theorem for_ok {chk : Option (Nat × List D)} {g : Gv} {t : Sv} {Q : Fl → En → Sto → Prop} (P : List D → En → Sto → Prop)
    (hs : ∀ d ds ρ S, P (d :: ds) ρ S → okC chk S = true ∧ Ok (g d ρ S) fun ρ1 S1 => OkS (t ρ1 S1) fun f ρ2 S2 => match f with
      | .nx => P ds ρ2 S2
      | .ct => P ds ρ2 S2
      | .bk => Q .nx ρ2 S2
      | .rt d => Q (.rt d) ρ2 S2) (he : ∀ ρ S, P [] ρ S → okC chk S = true ∧ Q .nx ρ S) :
    ∀ (ds : List D) (ρ : En) (S : Sto), P ds ρ S → OkS (forRun chk g t ds ρ S) Q
  | [], ρ, S, p => by
    obtain ⟨h1, h2⟩ := he ρ S p
    unfold forRun
    rw [if_pos h1]
    exact ⟨_, _, _, rfl, h2⟩
  | d :: ds, ρ, S, p => by
    obtain ⟨h1, ρ1, S1, e1, f, ρ2, S2, e2, q⟩ := hs d ds ρ S p
    unfold forRun
    rw [if_pos h1, e1]
    show OkS ((t ρ1 S1).bind _) Q
    rw [e2]
    cases f with
    | nx => exact for_ok P hs he ds ρ2 S2 q
    | ct => exact for_ok P hs he ds ρ2 S2 q
    | bk => exact ⟨_, _, _, rfl, q⟩
    | rt d => exact ⟨_, _, _, rfl, q⟩
abbrev dn' (ms : List Nat) : List D := ms.map fun (n : Nat) => D.int n
theorem append_l {L : Nat} {xs : List D} {d : D} (h : wrL S L = some xs) (hz : xs.length < 16777216) : mAppend (.ref L) [d] S = some (.non, S.set L (.lst (xs ++ [d]))) := by
  show ((wrL S L).bind _) = _
  rw [h]
  exact if_pos (by rw [sizeLine_eq]; exact hz)
def up1 (n x : Nat) : Nat := if x + 1 < 2 * n - 1 then x + 1 else 2 * n - 1
structure Met (n : Nat) (ms : List Nat) (k : Nat) : Prop where
  nd : ms.Nodup
  lt : ∀ x ∈ ms, x < 2 * n
  le : k ≤ ms.length
  cl : ∀ (i : Nat) x, i < k → ms[i]? = some x → x - 1 ∈ ms ∧ up1 n x ∈ ms
theorem nodup_len {n : Nat} : ∀ {ms : List Nat}, ms.Nodup → (∀ x ∈ ms, x < n) → ms.length ≤ n := fun {ms} nd hl => by
  have := List.Nodup.length_le_of_subset nd (l₂ := List.range n) fun x hx => List.mem_range.mpr (hl x hx)
  simpa using this
def atOf (ρ : En) : Nat := match (ρ[3]? : Option (Option D)) with
  | some (some (D.int k)) => k.toNat
  | _ => 0
@[simp] theorem atOf_ap {a b c e f g : Option D} {k : Int} : atOf [a, b, c, some (.int k), e, f, g] = k.toNat := rfl
end W
set_option Elab.async false
set_option linter.all false
set_option maxRecDepth 100000
set_option autoImplicit false
namespace W
open PySem L2 DL
variable {S S' : Sto} {h : Nat}
def l7 : List Nat := [0, 1, 2, 3, 4, 5, 6]
def G.total : G → Nat
  | .same _ => 0
  | .table n _ => n
  | .mixed n _ _ => n
  | .joined n l _ => n * 2 ^ l
  | .own _ l _ => 2 ^ l
  | .either a b n _ => a.total + b.total + n
end W
set_option Elab.async false
set_option linter.all false
set_option maxRecDepth 100000
set_option autoImplicit false
namespace W
open PySem L2 DL
variable {S S' : Sto} {h : Nat}
theorem toPys_ints {n : Nat} (ns : List Int) : toPys S (n + 1) (ns.map D.int) = some (ns.map PyData.int) := by
  induction ns with
  | nil => simp [toPys]
  | cons i ns ih => simp [toPys, toPy, ih]
theorem shaped_ints' (ns : List Int) : SeqAt.shaped (.list (ns.map PyData.int)) = true := by
  have h1 : ∀ ns : List Int, PyData.canLayAll0 (ns.map PyData.int) = true := fun ns => by
    induction ns with
    | nil => rfl
    | cons n r ih => show (PyData.canLay0 (.int n) && PyData.canLayAll0 (r.map PyData.int)) = true; rw [ih]; rfl
  have h2 : ∀ ns : List Int, PyData.depthAll (ns.map PyData.int) ≤ 1 := fun ns => by
    induction ns with
    | nil => exact Nat.zero_le _
    | cons n r ih =>
      simp only [List.map_cons, PyData.depthAll, PyData.depth]
      omega
  have h3 : PyData.depth (.list (ns.map PyData.int)) ≤ 64 := by
    have := h2 ns
    simp only [PyData.depth]
    omega
  unfold SeqAt.shaped
  rw [decide_eq_true h3, Bool.and_true]
  exact h1 ns
theorem eqO_empty {r l : Nat} {ns : List Int} (h : rdL S r = some (ns.map D.int)) (h2 : rdL S l = some []) : eqO (.ref r) (.ref l) S = some (decide (ns = [])) := by
  have e1 : toPy S 70 (.ref r) = some (.list (ns.map PyData.int)) := by
    simp only [toPy, h, Option.bind_some, toPys_ints, Option.map_some]
  have e2 : toPy S 70 (.ref l) = some (.list []) := by
    simp only [toPy, h2, Option.bind_some, toPys, Option.map_some]
  unfold eqO
  rw [if_neg (by simp [scalD]), e1, e2]
  show (if SeqAt.shaped _ = true ∧ SeqAt.shaped _ = true then _ else _) = _
  rw [if_pos ⟨shaped_ints' ns, shaped_ints' []⟩]
  cases ns with
  | nil => simp [PyData.eqv, PyData.eqvAll]
  | cons n r => simp [PyData.eqv, PyData.eqvAll]
theorem hand_ok {r : Nat} {ns : List Int} {cell : Int} {k : Nat} (hr : rdL S r = some (ns.map D.int)) : Ok (F_law_hand [.ref r, .int cell, .int k] S) fun d S' => ∃ l, d = .ref l ∧ S.length ≤ l ∧ Hd S' l ∧ Frm [] S S' := by
  have hr1 : rdL (S ++ [.lst []]) r = some (ns.map D.int) := (Frm.app (fp := []) _).rd hr (by simp)
  have sum : ∀ S1 : Sto, rdL S1 r = some (ns.map D.int) → cSum [.ref r] S1 = some (.int ns.sum, S1) := fun S1 e => by
    show ((rdL S1 r).bind _) = _
    rw [e]
    show ((intsD (ns.map D.int)).map _) = _
    rw [intsD_of]; rfl
  have m0 := Int.emod_nonneg cell (show (2147483587 : Int) ≠ 0 by decide)
  have m1 := Int.emod_lt_of_pos cell (show (0 : Int) < 2147483587 by decide)
  have e1 : ∀ S1 : Sto, oMod (.int cell) (.int 2147483587) S1 = some (.int (cell % 2147483587), S1) := fun S1 => oMod_pos (by decide)
  have e2 : ∀ S1 : Sto, oMul (.int 7919) (.int k) S1 = some (.int (7919 * k), S1) := fun S1 => oMul_sl (by decide) (by decide)
  have e3 : ∀ S1 : Sto, oMul (.int (cell % 2147483587 + 7919 * k + 1)) (.int 48271) S1 = some (.int ((cell % 2147483587 + 7919 * k + 1) * 48271), S1) := fun S1 => oMul_sr (by decide) (by decide)
  have e4 : ∀ S1 : Sto, oMod (.int ((cell % 2147483587 + 7919 * k + 1) * 48271)) (.int 2147483587) S1 = some (.int ((cell % 2147483587 + 7919 * k + 1) * 48271 % 2147483587), S1) := fun S1 => oMod_pos (by decide)
  have n0 := Int.emod_nonneg ((cell % 2147483587 + 7919 * k + 1) * 48271) (show (2147483587 : Int) ≠ 0 by decide)
  have n1 := Int.emod_lt_of_pos ((cell % 2147483587 + 7919 * k + 1) * 48271) (show (0 : Int) < 2147483587 by decide)
  have e5 : ∀ S1 : Sto, oMod (.int ns.sum) (.int 2) S1 = some (.int (ns.sum % 2), S1) := fun S1 => oMod_pos (by decide)
  by_cases hn : ns = []
  · simp [F_law_hand, b_law_hand, fnRun_ap, oNe_of (eqO_empty hr1 new_rd), hn, e1, e2, e3, e4]
    exact ⟨⟨cell, _, 0, by simp, n0, n1⟩, .app _⟩
  · simp [F_law_hand, b_law_hand, fnRun_ap, oNe_of (eqO_empty hr1 new_rd), hn, sum _ hr1, e1, e2, e3, e4, e5]
    exact ⟨⟨cell, _, ns.sum % 2, by simp, n0, n1⟩, .app _⟩
def cellsOf (ns : List Int) : List Int := if ns = [] then [0] else ns.take 63
theorem app_at {T : Sto} (k : Nat) : (S ++ T)[S.length + k]? = T[k]? := by rw [List.getElem?_append_right (by omega)]; congr 1; omega
section
variable {a b c d e f : MO} {T : Sto}
theorem ap0 : (S ++ a :: T)[S.length]? = some a := app_at 0
theorem ap1 : (S ++ a :: b :: T)[S.length + 1]? = some b := app_at 1
theorem ap2 : (S ++ a :: b :: c :: T)[S.length + 1 + 1]? = some c := app_at 2
theorem ap3 : (S ++ a :: b :: c :: d :: T)[S.length + 1 + 1 + 1]? = some d := app_at 3
theorem ap4 : (S ++ a :: b :: c :: d :: e :: T)[S.length + 1 + 1 + 1 + 1]? = some e := app_at 4
end
theorem oAdd_ll {a b : Nat} {xs ys : List D} (h1 : rdL S a = some xs) (h2 : rdL S b = some ys) (hz : xs.length + ys.length ≤ 16777216) : oAdd (.ref a) (.ref b) S = some (.ref S.length, S ++ [MO.lst (xs ++ ys)]) := by
  simp only [oAdd, h1, h2]
  exact if_pos (by rw [sizeLine_eq]; exact hz)
theorem oMul_ll {a n : Nat} {xs : List D} (h1 : wrL S a = some xs) (hn : n ≤ 1000000) (hz : xs.length * n ≤ 16777216) : oMul (.ref a) (.int (n : Nat)) S = some (.ref S.length, S ++ [MO.lst (List.replicate n xs).flatten]) := by
  simp only [oMul, h1, Int.toNat_natCast]
  exact if_pos ⟨by omega, by omega, by rw [sizeLine_eq]; exact hz⟩
theorem cells_ok {r : Nat} {ns : List Int} (hr : rdL S r = some (ns.map D.int)) (hl : ns.length ≤ 63) : Ok (F_law_cells [.ref r] S) fun d S' => ∃ l, d = .ref l ∧ S.length ≤ l ∧ S'[l]? = some (.lst (pairsD 0 ((cellsOf ns).map D.int))) ∧ Frm [] S S' := by
  have cut : cutD (ns.map D.int) none (some 63) = (ns.take 63).map D.int := by
    unfold cutD
    simp only [HT.sIx_none, List.length_map, List.drop_zero]
    rw [show HT.sIx ns.length ns.length (some (63 : Int)) = min 63 ns.length from HT.sIx_nat ns.length ns.length 63]
    rw [Nat.sub_zero, ← List.map_take]
    congr 1
    rw [List.take_eq_take_iff]; omega
  have sl : slD (.ref r) none (some 63) S = some (.ref S.length, S ++ [MO.lst ((ns.take 63).map D.int)]) := by
    show ((rdL S r).map _) = _
    rw [hr, Option.map_some, cut]
  have hr3 : ∀ T : Sto, rdL (S ++ T) r = some (ns.map D.int) := fun T => (Frm.app (fp := []) T).rd hr (by simp)
  by_cases h : ns = []
  · subst h
    have e1 := eqO_empty (S := S ++ [MO.lst [], MO.lst [D.int 0], MO.lst []]) (r := r) (l := S.length + 1 + 1) (hr3 _) (rdL_lst ap2)
    have e2 := oMul_ll (S := S ++ [MO.lst [], MO.lst [D.int 0], MO.lst []]) (a := S.length + 1) (n := 1) (xs := [.int 0]) (wrL_lst ap1) (by decide) (by decide)
    have e3 := oAdd_ll (S := S ++ [MO.lst [], MO.lst [D.int 0], MO.lst [], MO.lst [D.int 0]]) (a := S.length) (b := S.length + 1 + 1 + 1) (xs := []) (ys := [.int 0]) (rdL_lst ap0) (rdL_lst ap3) (by simp)
    have e4 := kEnum_ap (S := S ++ [MO.lst [], MO.lst [D.int 0], MO.lst [], MO.lst [D.int 0], MO.lst [D.int 0]]) (l := S.length + 1 + 1 + 1 + 1) (xs := [.int 0]) (rdL_lst ap4) (by simp)
    simp at sl e1 e2 e3 e4
    simp [F_law_cells, b_law_cells, fnRun_ap, sl, oEq_of e1, e2, e3, e4, cellsOf]
    exact .app _
  · have e1 := eqO_empty (S := S ++ [MO.lst ((ns.take 63).map D.int), MO.lst [D.int 0], MO.lst []]) (r := r) (l := S.length + 1 + 1) (hr3 _) (rdL_lst ap2)
    have e2 := oMul_ll (S := S ++ [MO.lst ((ns.take 63).map D.int), MO.lst [D.int 0], MO.lst []]) (a := S.length + 1) (n := 0) (xs := [.int 0]) (wrL_lst ap1) (by decide) (by decide)
    have e3 := oAdd_ll (S := S ++ [MO.lst ((ns.take 63).map D.int), MO.lst [D.int 0], MO.lst [], MO.lst []]) (a := S.length) (b := S.length + 1 + 1 + 1) (xs := (ns.take 63).map D.int) (ys := []) (rdL_lst ap0) (rdL_lst ap3) (by simp; omega)
    have e4 := kEnum_ap (S := S ++ [MO.lst ((ns.take 63).map D.int), MO.lst [D.int 0], MO.lst [], MO.lst [], MO.lst ((ns.take 63).map D.int)]) (l := S.length + 1 + 1 + 1 + 1) (xs := (ns.take 63).map D.int) (rdL_lst ap4) (by simp; omega)
    simp [h] at sl e1 e2 e3 e4
    simp [F_law_cells, b_law_cells, fnRun_ap, sl, oEq_of e1, e2, e3, e4, cellsOf, h]
    exact .app _
end W
set_option Elab.async false
set_option linter.all false
set_option maxRecDepth 100000
set_option autoImplicit false
namespace W
open PySem L2 DL
variable {S S' : Sto} {h : Nat}
end W
set_option Elab.async false
set_option linter.all false
set_option maxRecDepth 100000
set_option autoImplicit false
namespace W
open PySem L2 DL
variable {S S' : Sto} {h : Nat}
def evD (es : List (Nat × Nat)) : List D := es.map fun e => .tup [.int (e.1 : Nat), .int (e.2 : Nat)]
theorem evD_app (es fs : List (Nat × Nat)) : evD (es ++ fs) = evD es ++ evD fs := by simp [evD]
theorem evD_len (es : List (Nat × Nat)) : (evD es).length = es.length := by simp [evD]
end W
set_option Elab.async false
set_option linter.all false
set_option maxRecDepth 100000
set_option autoImplicit false
namespace W
open PySem L2 DL
variable {S S' : Sto} {h : Nat}
def Ty0 (S : Sto) (d : D) : Prop := ∃ T, tyD S d = some T
def isW : D → Bool
  | .int _ => true
  | _ => false
def isT : D → Bool
  | .tup _ => true
  | _ => false
theorem tyD_int {d : D} {T : String} (h : tyD S d = some T) : (isiB T "int" && !isiB T "bool") = isW d ∧ isiB T "tuple" = isT d := by
  cases d <;> simp only [tyD] at h
  · cases h; exact ⟨rfl, rfl⟩
  · cases h; exact ⟨rfl, rfl⟩
  · cases h; exact ⟨rfl, rfl⟩
  · cases h; exact ⟨rfl, rfl⟩
  · cases h
  · split at h <;> cases h <;> exact ⟨rfl, rfl⟩
  · cases h; exact ⟨rfl, rfl⟩
theorem isi_tup {d : D} (t : Ty0 S d) : cIsi [d, .ty "tuple"] S = some (.bl (isT d), S) := by
  obtain ⟨T, e⟩ := t
  show (if "tuple" ∈ ["bool", "int", "str", "tuple", "list", "dict"] then (tyD S d).map _ else none) = _
  rw [if_pos (by decide), e, ← (tyD_int e).2]; rfl
theorem isi_any {d : D} {T n : String} (e : tyD S d = some T) (hn : n ∈ ["bool", "int", "str", "tuple", "list", "dict"]) : cIsi [d, .ty n] S = some (.bl (isiB T n), S) := by
  show (if n ∈ ["bool", "int", "str", "tuple", "list", "dict"] then (tyD S d).map _ else none) = _
  rw [if_pos hn, e]; rfl
theorem genB {te : DL.Ev} {ρ : En} {f : D → Bool} : ∀ (ds : List D), (∀ d ∈ ds, te (some d :: ρ) (view S) = some (.bl (f d), view S)) → genVals te ρ S ds = some (ds.map fun d => .bl (f d))
  | [], _ => rfl
  | d :: ds, h => by
    show ((te (some d :: ρ) (view S)).bind _) = _
    rw [h d List.mem_cons_self]
    show ((genVals te ρ S ds).map _) = _
    rw [genB ds fun x hx => h x (List.mem_cons_of_mem _ hx)]; rfl
theorem blsD_of (bs : List Bool) : blsD (bs.map D.bl) = some bs := by
  induction bs with
  | nil => rfl
  | cons b bs ih => simp only [List.map_cons, blsD, ih]; rfl
theorem allG_t {ti : Iv} {te : DL.Ev} {ρ : En} {f : D → Bool} {ds : List D} (hi : ti ρ S = some (⟨ds, none⟩, S)) (he : ∀ d ∈ ds, te (some d :: ρ) (view S) = some (.bl (f d), view S)) : eAllG ti te ρ S = some (.bl (ds.all f), S) := by
  show ((ti ρ S).bind _) = _
  rw [hi, Option.bind_some]
  have k : (ds.map fun d => D.bl (f d)) = (ds.map f).map D.bl := by simp
  simp only [okC, if_true, genB ds he, Option.bind_some, k, blsD_of, Option.map_some]
  simp [List.all_map, Function.comp_def]
structure Ty2 (S : Sto) (d : D) : Prop where
  t0 : Ty0 S d
  t1 : ∀ xs, d = .tup xs → ∀ x ∈ xs, Ty0 S x
  t2 : ∀ xs ys, d = .tup xs → .tup ys ∈ xs → ∀ y ∈ ys, Ty0 S y
end W
set_option Elab.async false
set_option linter.all false
set_option maxRecDepth 100000
set_option autoImplicit false
namespace W
open PySem L2 DL
variable {S S' : Sto} {h : Nat}
end W
set_option Elab.async false
set_option linter.all false
set_option maxRecDepth 100000
set_option autoImplicit false
namespace W
open PySem L2 DL
variable {S S' : Sto} {h : Nat}
inductive Pt where
  | way (p w : Nat) | row (ps : List Pt) | times (n : Nat) (p : Pt)
mutual
def Pt.toD : Pt → D
  | .way p w => .tup [.str "way", .int (p : Nat), .int (w : Nat)]
  | .row ps => .tup [.str "row", .tup (Pt.toDs ps)]
  | .times n p => .tup [.str "times", .int (n : Nat), p.toD]
def Pt.toDs : List Pt → List D
  | [] => []
  | p :: ps => p.toD :: Pt.toDs ps
end
mutual
def Pt.many : Pt → Nat
  | .way _ _ => 1
  | .row ps => Pt.manys ps
  | .times n p => n * p.many
def Pt.manys : List Pt → Nat
  | [] => 0
  | p :: ps => p.many + Pt.manys ps
end
mutual
def Pt.ev : Pt → List (Nat × Nat)
  | .way p w => [(p, w)]
  | .row ps => Pt.evs ps
  | .times n p => (List.replicate n p.ev).flatten
def Pt.evs : List Pt → List (Nat × Nat)
  | [] => []
  | p :: ps => p.ev ++ Pt.evs ps
end
mutual
def Pt.deep : Pt → Nat
  | .way _ _ => 1
  | .row ps => 1 + Pt.deeps ps
  | .times _ p => 1 + p.deep
def Pt.deeps : List Pt → Nat
  | [] => 0
  | p :: ps => max p.deep (Pt.deeps ps)
end
mutual
def Pt.Ok : Pt → Prop
  | .way p w => p ≤ 999 ∧ w ≤ 1
  | .row ps => ps.length ≤ 1000 ∧ Pt.Oks ps
  | .times n p => n ≤ 1000000000000000000 ∧ p.Ok
def Pt.Oks : List Pt → Prop
  | [] => True
  | p :: ps => p.Ok ∧ Pt.Oks ps
end
theorem Pt.deep_pos (p : Pt) : 0 < p.deep := by cases p <;> simp [Pt.deep] <;> omega
theorem toDs_len : ∀ ps : List Pt, (Pt.toDs ps).length = ps.length
  | [] => rfl
  | p :: ps => by simp [Pt.toDs, toDs_len ps]
mutual
theorem many_len : ∀ p : Pt, p.ev.length = p.many
  | .way _ _ => rfl
  | .row ps => by simp only [Pt.ev, Pt.many]; exact manys_len ps
  | .times n p => by simp only [Pt.ev, Pt.many, List.length_flatten, List.map_replicate, List.sum_replicate_nat, many_len p]
theorem manys_len : ∀ ps : List Pt, (Pt.evs ps).length = Pt.manys ps
  | [] => rfl
  | p :: ps => by simp only [Pt.evs, Pt.manys, List.length_append, many_len p, manys_len ps]
end
theorem sumG_t {ti : Iv} {te : DL.Ev} {ρ : En} {ns : List Int} {ds : List D} (hi : ti ρ S = some (⟨ds, none⟩, S)) (he : genVals te ρ S ds = some (ns.map D.int)) : eSumG ti te ρ S = some (.int ns.sum, S) := by
  show ((ti ρ S).bind _) = _
  rw [hi, Option.bind_some]
  simp only [okC, if_true, he, Option.bind_some, intsD_of, Option.map_some]
theorem sw1 : ¬ (Str.ofString "row" = Str.ofString "way") := by decide
theorem sw2 : ¬ (Str.ofString "times" = Str.ofString "way") := by decide
theorem sw3 : ¬ (Str.ofString "times" = Str.ofString "row") := by decide
theorem many_ap : ∀ (k : Nat) (p : Pt) (S : Sto), p.Ok → p.deep ≤ k → F_many_events k [p.toD] S = some (.int (p.many : Nat), S)
  | 0, p, S, _, h => by have := p.deep_pos; omega
  | k + 1, .way p w, S, _, _ => by simp [F_many_events, b_many_events, fnRun_ap, Pt.toD, Pt.many]
  | k + 1, .times n p, S, ok, h => by
    simp only [Pt.deep] at h
    have ih := many_ap k p S ok.2 (by omega)
    have hn := ok.1
    have m : oMul (.int (n : Nat)) (.int (p.many : Nat)) S = some (.int ((n * p.many : Nat) : Int), S) := by rw [oMul_sl (by omega) (by omega), Int.natCast_mul]
    simp [F_many_events, b_many_events, fnRun_ap, Pt.toD, Pt.many, sw2, sw3, ih, m, -Int.natCast_mul]
  | k + 1, .row ps, S, ok, h => by
    simp only [Pt.deep] at h
    have key : ∀ qs : List Pt, Pt.Oks qs → Pt.deeps qs ≤ k → ∃ ns : List Int, genVals (eCall (F_many_events k) (aCons (eV 0) aNil)) [some (Pt.row ps).toD] S (Pt.toDs qs) = some (ns.map D.int) ∧ ns.sum = ((Pt.manys qs : Nat) : Int) := fun qs => by
      induction qs with
      | nil => intro _ _; exact ⟨[], rfl, rfl⟩
      | cons q qs ih =>
        intro ok h
        simp only [Pt.deeps] at h
        obtain ⟨ns, e1, e2⟩ := ih ok.2 (by omega)
        have e3 := many_ap k q (view S) ok.1 (by omega)
        refine ⟨(q.many : Int) :: ns, ?_, ?_⟩
        · show ((eCall (F_many_events k) (aCons (eV 0) aNil) (some q.toD :: [some (Pt.row ps).toD]) (view S)).bind _) = _
          rw [show eCall (F_many_events k) (aCons (eV 0) aNil) (some q.toD :: [some (Pt.row ps).toD]) (view S) = some (.int (q.many : Nat), view S) by simp [e3]]
          show ((genVals _ _ S (Pt.toDs qs)).map _) = _
          rw [e1]; rfl
        · simp [Pt.manys, e2]
    obtain ⟨ns, e1, e2⟩ := key ps ok.2 (by omega)
    have g := sumG_t (S := S) (ti := iAny (eOp oIxA (eV 0) (eC (.int 1)))) (ρ := [some (Pt.row ps).toD]) (ds := Pt.toDs ps) (by simp [Pt.toD]) e1
    rw [e2] at g
    have i0 : oIxA (Pt.row ps).toD (.int 0) S = some (.str "row", S) := by simp [Pt.toD]
    simp [F_many_events, b_many_events, fnRun_ap, i0, sw1]
    rw [g]
    simp [Pt.many]
end W
set_option Elab.async false
set_option linter.all false
set_option maxRecDepth 100000
set_option autoImplicit false
namespace W
open PySem L2 DL
variable {S S' : Sto} {h : Nat}
theorem lc_copy {l L i : Nat} {xs : List D} {ρ : En} (hi : i < ρ.length) (hlL : l ≠ L) : ∀ (ds : List D) (S : Sto) (acc : List D), rdL S l = some xs → S[L]? = some (.lst acc) → acc.length + ds.length ≤ 16777216 → ∃ S', lcRun (some (l, xs)) (gN i) bYes (eV i) ρ L ds S = some S' ∧ S'[L]? = some (.lst (acc ++ ds)) ∧ Frm [L] S S'
  | [], S, acc, hx, hL, hz => ⟨S, by unfold lcRun; rw [if_pos (show okC (some (l, xs)) S = true from decide_eq_true hx)], by simpa using hL, .refl⟩
  | d :: ds, S, acc, hx, hL, hz => by
    simp only [List.length_cons] at hz
    have f1 : Frm [L] S (S.set L (.lst (acc ++ [d]))) := .set (by simp)
    have hL1 : (S.set L (.lst (acc ++ [d])))[L]? = some (.lst (acc ++ [d])) := set_get (lt_of hL)
    obtain ⟨S', e1, e2, f2⟩ := lc_copy hi hlL ds (S.set L (.lst (acc ++ [d]))) (acc ++ [d]) (f1.rd hx (by simpa using hlL)) hL1 (by simp; omega)
    refine ⟨S', ?_, by simpa using e2, f1.trans f2⟩
    unfold lcRun
    rw [if_pos (show okC (some (l, xs)) S = true from decide_eq_true hx), gN_ap, Option.bind_some]
    simp only [bYes_ap, Option.bind_some, if_true, eV_ap, List.getElem?_set_self hi, kV_s, wrL_lst hL]
    rw [if_pos (by rw [sizeLine_eq]; omega)]
    exact e1
theorem rep_ev (n : Nat) (es : List (Nat × Nat)) : (List.replicate n (evD es)).flatten = evD (List.replicate n es).flatten := by
  induction n with
  | zero => rfl
  | succ n ih => simp [List.replicate_succ, ih, evD_app]
theorem events_ok : ∀ (k : Nat) (p : Pt) (S : Sto), p.Ok → p.deep ≤ k → p.deep ≤ 24 → p.many ≤ 400 → Ok (F_events_of k [p.toD] S) fun d S' => ∃ l, d = .ref l ∧ S.length ≤ l ∧ S'[l]? = some (.lst (evD p.ev)) ∧ Frm [] S S'
  | 0, p, S, _, h, _, _ => by have := p.deep_pos; omega
  | k + 1, .way p w, S, _, _, _, _ => by
    simp [F_events_of, b_events_of, fnRun_ap, Pt.toD]
    exact ⟨rfl, .app _⟩
  | k + 1, .times n p, S, ok, h, h24, hm => by
    have mm := many_ap 24 (.times n p) S ok h24
    simp only [Pt.deep] at h h24
    simp only [Pt.many] at hm mm
    have td : (Pt.times n p).toD = .tup [.str "times", .int (n : Nat), p.toD] := by simp [Pt.toD]
    rw [td] at mm ⊢
    by_cases hz : n * p.many = 0
    · have e0 : (Pt.times n p).ev = [] := List.eq_nil_of_length_eq_zero (by rw [many_len]; simpa [Pt.many] using hz)
      rw [hz] at mm
      simp [F_events_of, b_events_of, fnRun_ap, sw2, sw3, mm, -Int.natCast_mul]
      rw [e0]
      exact ⟨rfl, .app _⟩
    · have hn : n ≤ 400 := by
        rcases Nat.eq_zero_or_pos p.many with h0 | h0
        · rw [h0] at hz; simp at hz
        · exact Nat.le_trans (Nat.le_mul_of_pos_right n h0) hm
      have hp : p.many ≤ 400 := by
        rcases Nat.eq_zero_or_pos n with h0 | h0
        · rw [h0] at hz; simp at hz
        · exact Nat.le_trans (Nat.le_mul_of_pos_left p.many h0) hm
      have hz' : ¬ ((n * p.many : Nat) : Int) = 0 := by omega
      simp [F_events_of, b_events_of, fnRun_ap, sw2, sw3, mm, hz', hz, -Int.natCast_mul, -Int.natCast_eq_zero]
      try simp only [Ok_bnd, Ok_bndS, OkS_bnd, OkS_bndS]
      refine (events_ok k p S ok.2 (by omega) (by omega) hp).mono ?_
      rintro _ S1 ⟨l, rfl, hl, el, f1⟩
      have le : (evD p.ev).length = p.many := by simp [evD, many_len]
      have em := oMul_ll (n := n) (wrL_lst el) (by omega) (by rw [le]; have : p.many * n ≤ 400 * 400 := Nat.mul_le_mul hp hn; omega)
      rw [rep_ev] at em
      have l1 := f1.len
      simp [em]
      exact ⟨l1, by simp [Pt.ev], f1.trans (.app _)⟩
  | k + 1, .row ps, S, ok, h, h24, hm => by
    simp only [Pt.deep] at h h24
    simp only [Pt.many] at hm
    have td : (Pt.row ps).toD = .tup [.str "row", .tup (Pt.toDs ps)] := by simp [Pt.toD]
    rw [td]
    have key : ∀ (qs : List Pt) (acc : List (Nat × Nat)) (T : Sto) (L : Nat) (ρ : En), ρ.length = 3 → Pt.Oks qs → Pt.deeps qs ≤ k → Pt.deeps qs ≤ 24 → acc.length + Pt.manys qs ≤ 400 → T[L]? = some (.lst (evD acc)) →
        ∃ T', lc2Run none (gN 1) bYes (iAny (eCall (F_events_of k) (aCons (eV 1) aNil))) (gN 2) bYes (eV 2) ρ [2] L (Pt.toDs qs) T = some T' ∧ T'[L]? = some (.lst (evD (acc ++ Pt.evs qs))) ∧ Frm [L] T T' := fun qs => by
      induction qs with
      | nil => intro acc T L ρ _ _ _ _ _ hL; exact ⟨T, by simp [Pt.toDs, lc2Run, okC], by simpa [Pt.evs] using hL, .refl⟩
      | cons q qs ih =>
        intro acc T L ρ hρ ok h1 h2 h3 hL
        simp only [Pt.deeps] at h1 h2
        simp only [Pt.manys] at h3
        obtain ⟨d, T1, e1, l, rfl, hl, el, f1⟩ := events_ok k q T ok.1 (by omega) (by omega) (by omega)
        have lL := lt_of hL
        have hL1 := f1.get hL (by simp)
        have le : (evD q.ev).length = q.many := by simp [evD, many_len]
        have la : (evD acc).length = acc.length := by simp [evD]
        obtain ⟨T2, e2, hL2, f2⟩ := lc_copy (i := 2) (ρ := wipeR (ρ.set 1 (some q.toD)) [2]) (l := l) (L := L) (xs := evD q.ev) (by simp [wipeR]; omega) (by omega) (evD q.ev) T1 (evD acc) (rdL_lst el) hL1 (by omega)
        rw [← evD_app] at hL2
        obtain ⟨T3, e3, hL3, f3⟩ := ih (acc ++ q.ev) T2 L ρ hρ ok.2 (by omega) (by omega) (by simp [many_len]; omega) hL2
        refine ⟨T3, ?_, by rw [hL3]; simp [Pt.evs], (f1.mono (by simp)).trans (f2.trans f3)⟩
        rw [show Pt.toDs (q :: qs) = q.toD :: Pt.toDs qs by simp [Pt.toDs]]
        unfold lc2Run
        rw [if_pos (show okC none T = true from rfl), gN_ap, Option.bind_some]
        have ev : eV 1 (ρ.set 1 (some q.toD)) T = some (q.toD, T) := by rw [eV_ap, List.getElem?_set_self (by omega)]; rfl
        have it : iAny (eCall (F_events_of k) (aCons (eV 1) aNil)) (ρ.set 1 (some q.toD)) T = some (⟨evD q.ev, some (l, evD q.ev)⟩, T1) := by
          simp only [iAny_ap, eCall_ap, aCons_ap, ev, bnd_some, kA1_ap, aNil_ap, kA2_ap, kCB_ap, e1, kAny_l (rdL_lst el)]
        simp only [bYes_ap, Option.bind_some, if_true, it]
        rw [e2, Option.bind_some]
        exact e3
    obtain ⟨T', e, hL, f⟩ := key ps [] (S ++ [MO.lst []]) S.length (wipeR [some (.tup [.str "row", .tup (Pt.toDs ps)]), none, none] [1, 2]) rfl ok.2 (by omega) (by omega) (by simpa using hm) ap0
    have ee : eLc2 (iAny (eOp oIxA (eV 0) (eC (.int 1)))) (gN 1) bYes (iAny (eCall (F_events_of k) (aCons (eV 1) aNil))) (gN 2) bYes (eV 2) [1, 2] [2] [some (.tup [.str "row", .tup (Pt.toDs ps)]), none, none] S = some (.ref S.length, T') := by
      show ((iAny (eOp oIxA (eV 0) (eC (.int 1))) [some (.tup [.str "row", .tup (Pt.toDs ps)]), none, none] S).bind _) = _
      rw [show iAny (eOp oIxA (eV 0) (eC (.int 1))) [some (.tup [.str "row", .tup (Pt.toDs ps)]), none, none] S = some (⟨Pt.toDs ps, none⟩, S) by simp]
      show ((lc2Run _ _ _ _ _ _ _ _ _ _ _ _).map _) = _
      rw [e]; rfl
    simp [F_events_of, b_events_of, fnRun_ap, sw1]
    rw [ee]
    simp
    refine ⟨by rw [hL]; simp [Pt.ev], (Frm.app (fp := []) [MO.lst []]).drop f (by simp)⟩
end W
set_option Elab.async false
set_option linter.all false
set_option maxRecDepth 100000
set_option autoImplicit false
namespace W
open PySem L2 DL
variable {S S' : Sto} {h : Nat}
theorem draw_okB {lim : Int} (x : Hd S h) (h0 : 0 < lim) (h1 : lim < 1073741824) : Ok (F_law_draw [.ref h, .int lim] S) fun d S' => ∃ g : Nat, d = .int g ∧ (g : Int) < lim ∧ Dr h S S' := by
  obtain ⟨i, j, w, e, hj0, hj1⟩ := x
  have hl := lt_of e
  have r := rdL_lst e
  have wr := wrL_lst e
  by_cases hw : w = 0
  · subst hw
    refine Ok.eq (a := .int (i % lim)) (S := S.set h (.lst [.int (i / lim), .int j, .int 0])) ?_ ?_
    · simp [F_law_draw, b_law_draw, fnRun_ap, oIxA_ref r, oMod_pos h0, oFdiv_pos h0 h1, kGS2_0 wr]
    · have := Int.emod_nonneg i (show lim ≠ 0 by omega)
      have := Int.emod_lt_of_pos i h0
      exact ⟨(i % lim).toNat, by congr 1; omega, by omega, .set (by simp), _, j, 0, set_get hl, hj0, hj1⟩
  · have e1 : oMul (.int j) (.int j) S = some (.int (j * j), S) := oMul_sl (by omega) (by omega)
    have e2 : oMul (.int 69621) (.int j) S = some (.int (69621 * j), S) := oMul_sl (by omega) (by omega)
    have e3 : oMod (.int (j * j + 69621 * j + 12345)) (.int 2147483587) S = some (.int ((j * j + 69621 * j + 12345) % 2147483587), S) := oMod_pos (by decide)
    have n0 := Int.emod_nonneg (j * j + 69621 * j + 12345) (show (2147483587 : Int) ≠ 0 by decide)
    have n1 := Int.emod_lt_of_pos (j * j + 69621 * j + 12345) (show (0 : Int) < 2147483587 by decide)
    generalize hjj : (j * j + 69621 * j + 12345) % 2147483587 = jj at e3 n0 n1
    have sg := set_get (m := .lst [.int i, .int jj, .int w]) hl
    have r2 := rdL_lst sg
    refine Ok.eq (a := .int (jj / 8 % lim)) (S := S.set h (.lst [.int i, .int jj, .int w])) ?_ ?_
    · simp [F_law_draw, b_law_draw, fnRun_ap, oIxA_ref r, hw, e1, e2, e3, kGS2_1 wr, oIxA_ref r2, oFdiv_pos (i := jj) (j := 8) (by decide) (by decide), oMod_pos h0]
    · have := Int.emod_nonneg (jj / 8) (show lim ≠ 0 by omega)
      have := Int.emod_lt_of_pos (jj / 8) h0
      exact ⟨(jj / 8 % lim).toNat, by congr 1; omega, by omega, .set (by simp), _, jj, w, sg, n0, n1⟩
theorem ixs {l g : Nat} {xs : List D} {P : D → Prop} (hr : rdL S l = some xs) (hg : g < xs.length) (hp : ∀ x ∈ xs, P x) : ∃ x, oIxA (.ref l) (.int (g : Nat)) S = some (x, S) ∧ P x :=
  ⟨xs[g], by rw [oIxA_ref hr, atI_n, List.getElem?_eq_getElem hg, kAt_s], hp _ (List.getElem_mem hg)⟩
theorem place4_ok (x : Hd S h) : Ok (F_law_place [.ref h] S) fun d S' => ∃ g : Nat, d = .int (g : Nat) ∧ g ≤ 999 ∧ Dr h S S' := by
  rw [F_law_place, fnRun_ap]
  unfold b_law_place
  simp
  try simp only [Ok_bnd, Ok_bndS, OkS_bnd, OkS_bndS]
  refine (draw_ok (lim := 12) x (by decide) (by decide)).mono ?_
  rintro _ S1 ⟨a, rfl, ha, r1⟩
  simp
  try simp only [Ok_bnd, Ok_bndS, OkS_bnd, OkS_bndS]
  refine (draw_ok (lim := 1000) r1.hd (by decide) (by decide)).mono ?_
  rintro _ S2 ⟨b, rfl, hb, r2⟩
  simp
  try simp only [Ok_bnd, Ok_bndS, OkS_bnd, OkS_bndS]
  have r3 := Dr.app r2.hd [MO.lst [.int (a : Nat), .int 999, .int 0, .int (b : Nat)]]
  refine (draw_ok (lim := 4) r3.hd (by decide) (by decide)).mono ?_
  rintro _ S4 ⟨g, rfl, hg, r4⟩
  have lh := r2.hd.lt
  have rr : rdL S4 S2.length = some [.int (a : Nat), .int 999, .int 0, .int (b : Nat)] := r4.frm.rd new_rd (by simp; omega)
  obtain ⟨d, e, g', rfl, hg'⟩ := ixs (P := fun d => ∃ g : Nat, d = .int (g : Nat) ∧ g ≤ 999) rr (show g < 4 by omega) (by simp; exact ⟨⟨a, rfl, by omega⟩, ⟨999, rfl, by omega⟩, ⟨0, rfl, by omega⟩, ⟨b, rfl, by omega⟩⟩)
  simp [e]
  exact ⟨g', rfl, hg', r1.trans (r2.trans (r3.trans r4))⟩
theorem times_ok {few : Bool} (x : Hd S h) : Ok (F_law_times [.ref h, .bl few] S) fun d S' => ∃ g : Nat, d = .int (g : Nat) ∧ g ≤ 1000000000000000000 ∧ (few = true → g ≤ 4) ∧ Dr h S S' := by
  rw [F_law_times, fnRun_ap]
  unfold b_law_times
  cases few with
  | true =>
    simp
    try simp only [Ok_bnd, Ok_bndS, OkS_bnd, OkS_bndS]
    refine (draw_ok (lim := 5) x (by decide) (by decide)).mono ?_
    rintro _ S1 ⟨a, rfl, ha, r1⟩
    simp
    exact ⟨a, rfl, by omega, by omega, r1⟩
  | false =>
    simp
    try simp only [Ok_bnd, Ok_bndS, OkS_bnd, OkS_bndS]
    refine (draw_ok (lim := 12) x (by decide) (by decide)).mono ?_
    rintro _ S1 ⟨a, rfl, ha, r1⟩
    have p18 : ∀ T : Sto, oPow (.int 10) (.int 18) T = some (.int 1000000000000000000, T) := fun T => by rw [oPow_int (by decide) (by decide) (by decide)]; rfl
    have p9 : ∀ T : Sto, oPow (.int 10) (.int 9) T = some (.int 1000000000, T) := fun T => by rw [oPow_int (by decide) (by decide) (by decide)]; rfl
    have p8 : ∀ T : Sto, oPow (.int 10) (.int 8) T = some (.int 100000000, T) := fun T => by rw [oPow_int (by decide) (by decide) (by decide)]; rfl
    simp [p18, p9, p8]
    try simp only [Ok_bnd, Ok_bndS, OkS_bnd, OkS_bndS]
    refine (draw_okB (lim := 100000000) r1.hd (by decide) (by decide)).mono ?_
    rintro _ S2 ⟨b, rfl, hb, r2⟩
    simp
    try simp only [Ok_bnd, Ok_bndS, OkS_bnd, OkS_bndS]
    have r3 := Dr.app r2.hd [MO.lst [.int (a : Nat), .int 0, .int 1, .int 1000000000000000000, .int (1000000000 + (b : Nat))]]
    refine (draw_ok (lim := 5) r3.hd (by decide) (by decide)).mono ?_
    rintro _ S4 ⟨g, rfl, hg, r4⟩
    have lh := r2.hd.lt
    have rr : rdL S4 S2.length = some [.int (a : Nat), .int 0, .int 1, .int 1000000000000000000, .int (1000000000 + (b : Nat))] := r4.frm.rd new_rd (by simp; omega)
    obtain ⟨d, e, g', rfl, hg'⟩ := ixs (P := fun d => ∃ g : Nat, d = .int (g : Nat) ∧ g ≤ 1000000000000000000) rr (show g < 5 by omega) (by
      simp only [List.forall_mem_cons]
      exact ⟨⟨a, rfl, by omega⟩, ⟨0, rfl, by omega⟩, ⟨1, rfl, by omega⟩, ⟨1000000000000000000, rfl, by omega⟩, ⟨1000000000 + b, by simp, by omega⟩, by simp⟩)
    simp [e]
    exact ⟨g', rfl, hg', r1.trans (r2.trans (r3.trans r4))⟩
structure Dm (h R : Nat) (S S' : Sto) : Prop where
  frm : Frm [h, R] S S'
  hd : Hd S' h
  rm : ∃ n : Int, S'[R]? = some (.lst [.int n])
theorem Dm.trans {R : Nat} {S1 S2 : Sto} (a : Dm h R S S1) (b : Dm h R S1 S2) : Dm h R S S2 := ⟨a.frm.trans b.frm, b.hd, b.rm⟩
theorem Dm.dr {R : Nat} {n : Int} (hR : S[R]? = some (.lst [.int n])) (ne : R ≠ h) (r : Dr h S S') : Dm h R S S' := ⟨r.frm.mono (by simp), r.hd, n, r.frm.get hR (by simpa using ne)⟩
theorem oks_app : ∀ {ps qs : List Pt}, Pt.Oks ps → Pt.Oks qs → Pt.Oks (ps ++ qs)
  | [], _, _, h => h
  | p :: ps, qs, h, g => ⟨h.1, oks_app h.2 g⟩
theorem deeps_app : ∀ (ps qs : List Pt), Pt.deeps (ps ++ qs) = max (Pt.deeps ps) (Pt.deeps qs)
  | [], qs => by simp [Pt.deeps]
  | p :: ps, qs => by simp only [List.cons_append, Pt.deeps, deeps_app ps qs]; omega
theorem toDs_app : ∀ (ps qs : List Pt), Pt.toDs (ps ++ qs) = Pt.toDs ps ++ Pt.toDs qs
  | [], qs => rfl
  | p :: ps, qs => by simp [Pt.toDs, toDs_app ps qs]
end W
set_option Elab.async false
set_option linter.all false
set_option maxRecDepth 100000
set_option autoImplicit false
namespace W
open PySem L2 DL
variable {S S' : Sto} {h : Nat}
def evP (e : Nat × Nat) : PyData := .tuple [.int (e.1 : Nat), .int (e.2 : Nat)]
theorem toPys_evs {n : Nat} : ∀ (es : List (Nat × Nat)), toPys S (n + 2) (evD es) = some (es.map evP)
  | [] => by simp [evD, toPys]
  | e :: es => by
    have := toPys_evs (n := n) es
    simp only [evD, List.map_cons] at this ⊢
    simp only [toPys, this]
    simp [toPys, toPy, evP]
theorem shaped_evs (es : List (Nat × Nat)) : SeqAt.shaped (.list (es.map evP)) = true := by
  have h1 : ∀ ns : List (Nat × Nat), PyData.canLayAll0 (ns.map evP) = true := fun es => by
    induction es with
    | nil => rfl
    | cons n q ih => show (PyData.canLay0 (evP n) && PyData.canLayAll0 (q.map evP)) = true; rw [ih]; rfl
  have h2 : ∀ ns : List (Nat × Nat), PyData.depthAll (ns.map evP) ≤ 3 := fun es => by
    induction es with
    | nil => exact Nat.zero_le _
    | cons n q ih =>
      simp only [List.map_cons, PyData.depthAll, evP, PyData.depth]
      omega
  have h3 : PyData.depth (.list (es.map evP)) ≤ 64 := by
    have := h2 es
    simp only [PyData.depth]
    omega
  unfold SeqAt.shaped
  rw [decide_eq_true h3, Bool.and_true]
  exact h1 es
theorem eqO_evs {a b : Nat} {es : List (Nat × Nat)} (h1 : rdL S a = some (evD es)) (h2 : rdL S b = some (evD es)) : eqO (.ref a) (.ref b) S = some true := by
  have e1 : toPy S 70 (.ref a) = some (.list (es.map evP)) := by simp only [toPy, h1, Option.bind_some, toPys_evs, Option.map_some]
  have e2 : toPy S 70 (.ref b) = some (.list (es.map evP)) := by simp only [toPy, h2, Option.bind_some, toPys_evs, Option.map_some]
  unfold eqO
  rw [if_neg (by simp [scalD]), e1, e2]
  show (if SeqAt.shaped _ = true ∧ SeqAt.shaped _ = true then _ else _) = _
  rw [if_pos ⟨shaped_evs es, shaped_evs es⟩, SeqAt.eqv_refl]
  have := shaped_evs es
  unfold SeqAt.shaped at this
  exact (Bool.and_eq_true_iff.mp this).1
structure Lk (a b : Pt) : Prop where
  oa : a.Ok
  ob : b.Ok
  da : a.deep ≤ 20
  db : b.deep ≤ 20
  e : a.ev = b.ev
def noneP (m : Pt) : Pt := .times 1000000000000000000 (.row [.times 0 m, .row []])
def prs (a b m : Pt) (n o : Nat) : List (Pt × Pt) := [(.row [.row [a, b], m], .row [a, .row [b, m]]), (.row [a], a), (.row [noneP m, a, noneP m, b], .row [a, b]), (.times 1 a, a), (.times 0 a, noneP m), (.times n (.times o a), .times (n * o) a), (.times (n + o) a, .row [.times n a, .times o a]), (.times 2 (.row [a, b]), .row [a, b, a, b])]
section
variable {a b m : Pt} {n o : Nat}
end
end W
set_option Elab.async false
set_option linter.all false
set_option maxRecDepth 100000
set_option autoImplicit false
namespace W
open PySem L2 DL
variable {S S' : Sto} {h : Nat}
mutual
def Pt.sz : Pt → Nat
  | .way _ _ => 1
  | .row ps => 1 + Pt.szs ps
  | .times _ p => 1 + p.sz
def Pt.szs : List Pt → Nat
  | [] => 0
  | p :: ps => p.sz + Pt.szs ps
end
theorem szs_app : ∀ (ps qs : List Pt), Pt.szs (ps ++ qs) = Pt.szs ps + Pt.szs qs
  | [], qs => by simp [Pt.szs]
  | p :: ps, qs => by simp only [List.cons_append, Pt.szs, szs_app ps qs]; omega
mutual
def Pt.Tm : Pt → Prop
  | .way _ _ => True
  | .row ps => Pt.Tms ps
  | .times n p => n ≤ 4 ∧ p.Tm
def Pt.Tms : List Pt → Prop
  | [] => True
  | p :: ps => p.Tm ∧ Pt.Tms ps
end
theorem tms_app : ∀ {ps qs : List Pt}, Pt.Tms ps → Pt.Tms qs → Pt.Tms (ps ++ qs)
  | [], _, _, h => h
  | p :: ps, qs, h, g => ⟨h.1, tms_app h.2 g⟩
theorem sz_pos (p : Pt) : 0 < p.sz := by cases p <;> simp [Pt.sz] <;> omega
theorem mul4 (a b : Nat) (h1 : 2 ≤ a) (h2 : 2 ≤ b) : a + b ≤ a * b := by
  obtain ⟨c, rfl⟩ : ∃ c, a = c + 2 := ⟨a - 2, by omega⟩
  obtain ⟨d, rfl⟩ : ∃ d, b = d + 2 := ⟨b - 2, by omega⟩
  rw [Nat.add_mul, Nat.mul_add, Nat.mul_add]
  have := Nat.zero_le (c * d)
  omega
mutual
theorem many_sz : ∀ p : Pt, p.Tm → p.many ≤ 4 ^ p.sz
  | .way _ _, _ => by simp [Pt.many, Pt.sz]
  | .times n p, h => by
    have h1 := many_sz p h.2
    rw [Pt.many, Pt.sz, Nat.add_comm, Nat.pow_succ, Nat.mul_comm]
    exact Nat.mul_le_mul h1 h.1
  | .row ps, h => by
    have h1 := manys_sz ps h
    rw [Pt.many, Pt.sz, Nat.add_comm, Nat.pow_succ]
    have : 0 < 4 ^ Pt.szs ps := Nat.pow_pos (by decide)
    omega
theorem manys_sz : ∀ ps : List Pt, Pt.Tms ps → Pt.manys ps ≤ 4 ^ Pt.szs ps
  | [], _ => by simp [Pt.manys]
  | [p], h => by
    have h1 := many_sz p h.1
    simpa [Pt.manys, Pt.szs] using h1
  | p :: q :: ps, h => by
    have h1 := many_sz p h.1
    have h2 := manys_sz (q :: ps) h.2
    rw [Pt.manys, Pt.szs, Nat.pow_add]
    have a1 : 4 ^ 1 ≤ 4 ^ p.sz := Nat.pow_le_pow_right (by decide) (sz_pos p)
    have a2 : 4 ^ 1 ≤ 4 ^ Pt.szs (q :: ps) := Nat.pow_le_pow_right (by decide) (by rw [Pt.szs]; have := sz_pos q; omega)
    have := mul4 _ _ (show 2 ≤ 4 ^ p.sz by omega) (show 2 ≤ 4 ^ Pt.szs (q :: ps) by omega)
    omega
end
theorem pattern_sz {few : Bool} {R : Nat} (ne : R ≠ h) : ∀ (k deep : Nat) (S : Sto) (n : Int), Hd S h → S[R]? = some (.lst [.int n]) → 1 ≤ n → 0 < deep → deep ≤ k → Ok (F_law_pattern k [.ref h, .int (deep : Nat), .ref R, .bl few] S) fun d S' => ∃ p : Pt, p.Ok ∧ p.deep ≤ deep ∧ d = p.toD ∧ Dm h R S S' ∧ S'[R]? = some (.lst [.int (n - (p.sz : Nat))]) ∧ (p.sz : Int) ≤ n ∧ (few = true → p.Tm)
  | 0, deep, S, n, _, _, _, h0, h1 => by omega
  | k + 1, deep, S, n, x, hR, hn0, h0, h1 => by
    rw [F_law_pattern, fnRun_ap]
    unfold b_law_pattern
    have gs1 := fun ρ => kGS2_0 (ρ := ρ) (b := .int (n - 1)) (wrL_lst hR)
    have f1 : Frm [h, R] S (S.set R (.lst [.int (n - 1)])) := .set (by simp)
    have R1 : (S.set R (.lst [.int (n - 1)]))[R]? = some (.lst [.int (n - 1)]) := set_get (lt_of hR)
    have x1 : Hd (S.set R (.lst [.int (n - 1)])) h := x.set ne
    simp [oIxA_ref (rdL_lst hR), gs1]
    generalize S.set R (.lst [.int (n - 1)]) = S1 at f1 R1 x1
    try simp only [Ok_bnd, Ok_bndS, OkS_bnd, OkS_bndS]
    refine (draw_ok (lim := 6) x1 (by decide) (by decide)).mono ?_
    rintro _ S2 ⟨kind, rfl, hk, r2⟩
    have R2 := r2.frm.get R1 (by simpa using ne)
    have F2 : Dm h R S S2 := ⟨f1.trans (r2.frm.mono (by simp)), r2.hd, _, R2⟩
    generalize hn1 : n - 1 = n1 at R1 R2
    have hc : kBor (bOr (bT (eOp oEq (eV 1) (eC (.int 1)))) (bT (eOp oLt (eOp oIxA (eV 2) (eC (.int 0))) (eC (.int 1))))) [some (.ref h), some (.int (deep : Nat)), some (.ref R), some (.bl few), some (.int (kind : Nat)), none, none, none] (decide ((kind : Int) < 2), S2) = some (decide (kind < 2 ∨ deep = 1 ∨ n1 < 1), S2) := by
      by_cases a : kind < 2
      · have a' : (kind : Int) < 2 := by omega
        simp [a, a']
      · have a' : ¬ (kind : Int) < 2 := by omega
        by_cases b : deep = 1
        · subst b
          simp [a, a']
        · have b' : ¬ (deep : Int) = 1 := by omega
          by_cases c : n1 < 1 <;> simp [a, a', b, b', c, oIxA_ref (rdL_lst R2)]
    by_cases c : kind < 2 ∨ deep = 1 ∨ n1 < 1
    · rw [decide_eq_true c] at hc
      simp
      try simp only [Ok_bnd, Ok_bndS, OkS_bnd, OkS_bndS]
      rw [hc, Ok_some]
      clear hc
      simp
      try simp only [Ok_bnd, Ok_bndS, OkS_bnd, OkS_bndS]
      refine (place4_ok r2.hd).mono ?_
      rintro _ S3 ⟨a, rfl, ha, r3⟩
      simp
      try simp only [Ok_bnd, Ok_bndS, OkS_bnd, OkS_bndS]
      refine (draw_ok (lim := 2) r3.hd (by decide) (by decide)).mono ?_
      rintro _ S4 ⟨b, rfl, hb, r4⟩
      simp
      exact ⟨.way a b, ⟨ha, by omega⟩, by simp [Pt.deep]; omega, by simp [Pt.toD], F2.trans (.dr R2 ne (r3.trans r4)), by rw [(r3.trans r4).frm.get R2 (by simpa using ne), Pt.sz, ← hn1]; rfl, by rw [Pt.sz]; omega, fun _ => trivial⟩
    · rw [decide_eq_false c] at hc
      have c1 : ¬ kind < 2 := fun z => c (.inl z)
      have c2 : ¬ deep = 1 := fun z => c (.inr (.inl z))
      have c3 : ¬ n1 < 1 := fun z => c (.inr (.inr z))
      have dm : ((deep : Int) - 1) = ((deep - 1 : Nat) : Int) := by omega
      simp
      try simp only [Ok_bnd, Ok_bndS, OkS_bnd, OkS_bndS]
      rw [hc, Ok_some]
      clear hc
      by_cases k4 : kind < 4
      · have k4' : (kind : Int) < 4 := by omega
        simp [k4, k4']
        try simp only [Ok_bnd, Ok_bndS, OkS_bnd, OkS_bndS]
        refine (times_ok r2.hd).mono ?_
        rintro _ S3 ⟨g, rfl, hg, hg4, r3⟩
        have D3 : Dm h R S2 S3 := .dr R2 ne r3
        have R3 := r3.frm.get R2 (by simpa using ne)
        simp [dm]
        try simp only [Ok_bnd, Ok_bndS, OkS_bnd, OkS_bndS]
        refine (pattern_sz ne k (deep - 1) S3 n1 r3.hd R3 (by omega) (by omega) (by omega)).mono ?_
        rintro _ S4 ⟨p, ok, hp, rfl, D4, R4, z4, tm⟩
        simp
        exact ⟨.times g p, ⟨hg, ok⟩, by simp [Pt.deep]; omega, by simp [Pt.toD], F2.trans (D3.trans D4), by rw [R4, Pt.sz, ← hn1]; congr 4; omega, by rw [Pt.sz]; omega, fun hf => ⟨hg4 hf, tm hf⟩⟩
      · have k4' : ¬ (kind : Int) < 4 := by omega
        simp [k4, k4']
        try simp only [Ok_bnd, Ok_bndS, OkS_bnd, OkS_bndS]
        refine (draw_ok (lim := 6) r2.hd (by decide) (by decide)).mono ?_
        rintro _ S3 ⟨g, rfl, hg, r3⟩
        have R3 := r3.frm.get R2 (by simpa using ne)
        have D3 : Dm h R S2 S3 := .dr R2 ne r3
        obtain ⟨many, hmany, hm5, hmn⟩ : ∃ many : Nat, (if n1 < (g : Int) then n1 else (g : Int)) = (many : Nat) ∧ many ≤ 5 ∧ (many : Int) ≤ n1 := by
          split
          · exact ⟨n1.toNat, by omega, by omega, by omega⟩
          · exact ⟨g, rfl, by omega, by omega⟩
        have gs4 := fun ρ => kGS2_0 (ρ := ρ) (b := .int (n1 - (many : Nat))) (wrL_lst R3)
        have f4 : Frm [h, R] S3 (S3.set R (.lst [.int (n1 - (many : Nat))])) := .set (by simp)
        have R4 : (S3.set R (.lst [.int (n1 - (many : Nat))]))[R]? = some (.lst [.int (n1 - (many : Nat))]) := set_get (lt_of R3)
        have x4 : Hd (S3.set R (.lst [.int (n1 - (many : Nat))])) h := r3.hd.set ne
        have l43 : (S3.set R (.lst [.int (n1 - (many : Nat))])).length = S3.length := by simp
        simp [oIxA_ref (rdL_lst R3), hmany, gs4]
        generalize S3.set R (.lst [.int (n1 - (many : Nat))]) = S4 at f4 R4 x4 l43
        have D4 : Dm h R S S4 := F2.trans (D3.trans ⟨f4, x4, _, R4⟩)
        have f5 : Frm [h, R] S4 (S4 ++ [MO.lst []]) := .app _
        have lR := lt_of R4
        have lh := x4.lt
        simp [kRng1_ap (i62_n (show many ≤ 1000000 by omega))]
        rw [← l43]
        try simp only [Ok_bnd, Ok_bndS, OkS_bnd, OkS_bndS]
        refine (for_ok (Q := fun f ρ T => f = .nx ∧ ∃ ps u7, ρ = [some (.ref h), some (.int (deep : Nat)), some (.ref R), some (.bl few), some (.int (kind : Nat)), some (.int (many : Nat)), some (.ref S4.length), u7] ∧ T[S4.length]? = some (.lst (Pt.toDs ps)) ∧ ps.length = many ∧ Pt.Oks ps ∧ Pt.deeps ps ≤ deep - 1 ∧ Dm h R S T ∧ T[R]? = some (.lst [.int (n1 - (many : Nat) + (ps.length : Nat) - (Pt.szs ps : Nat))]) ∧ 0 ≤ n1 - (many : Nat) + (ps.length : Nat) - (Pt.szs ps : Nat) ∧ (few = true → Pt.Tms ps))
          (fun ds ρ T => ∃ ps u7, ρ = [some (.ref h), some (.int (deep : Nat)), some (.ref R), some (.bl few), some (.int (kind : Nat)), some (.int (many : Nat)), some (.ref S4.length), u7] ∧ T[S4.length]? = some (.lst (Pt.toDs ps)) ∧ ps.length + ds.length = many ∧ Pt.Oks ps ∧ Pt.deeps ps ≤ deep - 1 ∧ Dm h R S T ∧ T[R]? = some (.lst [.int (n1 - (many : Nat) + (ps.length : Nat) - (Pt.szs ps : Nat))]) ∧ 0 ≤ n1 - (many : Nat) + (ps.length : Nat) - (Pt.szs ps : Nat) ∧ (few = true → Pt.Tms ps)) ?_ ?_ (rngD 0 many) _ _
          ⟨[], none, rfl, ap0, by rw [rngD_len]; simp, trivial, Nat.zero_le _, ⟨D4.frm.trans f5, x4.frm (.app (fp := []) _) (by simp), n1 - (many : Nat), (Frm.app (fp := []) _).get R4 (by simp)⟩, by rw [(Frm.app (fp := []) _).get R4 (by simp)]; simp [Pt.szs], by simp [Pt.szs]; omega, fun _ => trivial⟩).mono ?_
        · rintro d ds ρ T ⟨ps, u7, rfl, hL, hlen, oks, dps, DT, RTz, hz0, tms⟩
          refine ⟨rfl, ?_⟩
          obtain ⟨nT, hnT⟩ : ∃ nT : Int, nT = n1 - (many : Nat) + (ps.length : Nat) - (Pt.szs ps : Nat) := ⟨_, rfl⟩
          rw [← hnT] at RTz hz0
          have RT := RTz
          have gsT := fun ρ => kGS2_0 (ρ := ρ) (b := .int (nT + 1)) (wrL_lst RT)
          have fT : Frm [h, R] T (T.set R (.lst [.int (nT + 1)])) := .set (by simp)
          have RT' : (T.set R (.lst [.int (nT + 1)]))[R]? = some (.lst [.int (nT + 1)]) := set_get (lt_of RT)
          have xT : Hd (T.set R (.lst [.int (nT + 1)])) h := DT.hd.set ne
          have LT' : (T.set R (.lst [.int (nT + 1)]))[S4.length]? = some (.lst (Pt.toDs ps)) := by rw [List.getElem?_set_ne (by omega)]; exact hL
          simp [oIxA_ref (rdL_lst RT), gsT, dm]
          generalize T.set R (.lst [.int (nT + 1)]) = T1 at fT RT' xT LT'
          rw [kM1_ap (rdL_lst LT')]
          simp [dm]
          try simp only [Ok_bnd, Ok_bndS, OkS_bnd, OkS_bndS]
          refine (pattern_sz ne k (deep - 1) T1 _ xT RT' (by omega) (by omega) (by omega)).mono ?_
          rintro _ T2 ⟨p, ok, hp, rfl, D2, R2z, zp, tm⟩
          have L2' := D2.frm.get LT' (by simp; omega)
          have ap := append_l (d := p.toD) (wrL_lst L2') (by rw [toDs_len]; simp at hlen; omega)
          have f3 : Frm [h, R, S4.length] T2 (T2.set S4.length (.lst (Pt.toDs ps ++ [p.toD]))) := .set (by simp)
          have L3 : (T2.set S4.length (.lst (Pt.toDs ps ++ [p.toD])))[S4.length]? = some (.lst (Pt.toDs ps ++ [p.toD])) := set_get (lt_of L2')
          simp [ap]
          have l4 := D4.frm.len
          have R2' := R2z
          refine ⟨ps ++ [p], by rw [L3, toDs_app]; rfl, by simp at hlen ⊢; omega, oks_app oks ⟨ok, trivial⟩, by rw [deeps_app]; simp [Pt.deeps]; omega, ⟨((DT.frm.trans fT).trans D2.frm).drop f3 (by simp; omega), D2.hd.set (by omega), _, by rw [List.getElem?_set_ne (by omega)]; exact R2'⟩, by rw [List.getElem?_set_ne (by omega), R2', szs_app]; congr 4; simp [Pt.szs]; omega, by rw [szs_app]; simp [Pt.szs]; omega, fun hf => tms_app (tms hf) ⟨tm hf, trivial⟩⟩
        · rintro ρ T ⟨ps, u7, rfl, hL, hlen, oks, dps, DT, RTz, hz0, tms⟩
          exact ⟨rfl, rfl, ps, u7, rfl, hL, by simpa using hlen, oks, dps, DT, RTz, hz0, tms⟩
        · rintro _ _ T ⟨rfl, ps, u7, rfl, hL, hlen, oks, dps, DT, RTz, hz0, tms⟩
          simp [cTuple_ref (rdL_lst hL)]
          exact ⟨.row ps, ⟨by omega, oks⟩, by simp [Pt.deep]; omega, by simp [Pt.toD], DT, by rw [RTz, Pt.sz]; congr 4; omega, by rw [Pt.sz]; omega, fun hf => tms hf⟩
end W
set_option Elab.async false
set_option linter.all false
set_option maxRecDepth 100000
set_option autoImplicit false
namespace W
open PySem L2 DL
variable {S S' : Sto} {h : Nat}
theorem for_consB {g : Gv} {t : Sv} {d : D} {ds : List D} {ρ ρ1 ρ2 : En} {S1 S2 : Sto} (h1 : g d ρ S = some (ρ1, S1)) (h2 : t ρ1 S1 = some (.nx, ρ2, S2)) : forRun none g t (d :: ds) ρ S = forRun none g t ds ρ2 S2 := by
  show (if okC none S = true then (g d ρ S).bind _ else _) = _
  rw [if_pos (by rfl), h1, Option.bind_some]
  show (t ρ1 S1).bind _ = _
  rw [h2]; rfl
abbrev mnB (X : Fv) : Sv := (sAs (eOp oAdd (eV 1) (eCall X (aCons (eV 2) aNil))) (gN 1))
theorem Oks_in : ∀ {ps : List Pt}, Pt.Oks ps → ∀ p ∈ ps, p.Ok
  | [], _, p, h => by simp at h
  | q :: ps, o, p, h => by
    rcases List.mem_cons.mp h with rfl | h
    · exact o.1
    · exact Oks_in o.2 p h
theorem deeps_in : ∀ {ps : List Pt}, ∀ p ∈ ps, p.deep ≤ Pt.deeps ps
  | [], p, h => by simp at h
  | q :: ps, p, h => by
    rw [Pt.deeps]
    rcases List.mem_cons.mp h with rfl | h
    · omega
    · have := deeps_in p h; omega
theorem many2_for {X : Fv} {d : D} : ∀ (qs : List Pt) (S : Sto) (acc : Nat) (v2 : Option D), (∀ q ∈ qs, ∀ T, X [q.toD] T = some (.int (q.many : Nat), T)) →
    ∃ v2', forRun none (gN 2) (mnB X) (Pt.toDs qs) [some d, some (.int (acc : Nat)), v2] S = some (.nx, [some d, some (.int ((acc + Pt.manys qs : Nat) : Int)), v2'], S)
  | [], S, acc, v2, _ => ⟨v2, rfl⟩
  | q :: qs, S, acc, v2, hX => by
    obtain ⟨v2', e⟩ := many2_for (d := d) qs S (acc + q.many) (some q.toD) fun r hr => hX r (List.mem_cons_of_mem _ hr)
    refine ⟨v2', ?_⟩
    have e1 : mnB X [some d, some (.int (acc : Nat)), some q.toD] S = some (.nx, [some d, some (.int ((acc + q.many : Nat) : Int)), some q.toD], S) := by
      have ad : oAdd (.int (acc : Nat)) (.int (q.many : Nat)) S = some (.int ((acc + q.many : Nat) : Int), S) := rfl
      simp only [mnB, sAs_ap, eOp_ap, eV_ap, List.getElem?_cons_succ, List.getElem?_cons_zero, kV_s, bnd_some, kOp1_ap, eCall_ap, aCons_ap, kA1_ap, aNil_ap, kA2_ap, kCB_ap, hX q (by simp) S, kOp2_ap, ad, kAs1_ap, gN_ap, kAs2_ap, List.set_cons_succ, List.set_cons_zero]
    rw [Pt.toDs, Pt.manys]
    refine (for_consB (gN_ap (i := 2)) e1).trans ?_
    rw [e, Nat.add_assoc]
theorem many2_ap : ∀ (k : Nat) (p : Pt) (S : Sto), p.Ok → p.deep ≤ k → F_law_many_2 k [p.toD] S = some (.int (p.many : Nat), S)
  | 0, p, S, _, h => by have := p.deep_pos; omega
  | k + 1, .way p w, S, _, _ => by simp [F_law_many_2, b_law_many_2, fnRun_ap, Pt.toD, Pt.many]
  | k + 1, .times n p, S, ok, h => by
    simp only [Pt.deep] at h
    have ih := many2_ap k p S ok.2 (by omega)
    have hn := ok.1
    have m : oMul (.int (p.many : Nat)) (.int (n : Nat)) S = some (.int ((n * p.many : Nat) : Int), S) := by rw [oMul_sr (by omega) (by omega), Nat.mul_comm, Int.natCast_mul]
    simp [F_law_many_2, b_law_many_2, fnRun_ap, Pt.toD, Pt.many, sw2, sw3, ih, m, -Int.natCast_mul]
  | k + 1, .row ps, S, ok, h => by
    simp only [Pt.deep] at h
    obtain ⟨v2, e⟩ := many2_for (X := F_law_many_2 k) (d := (Pt.row ps).toD) ps S 0 none fun q hq T => many2_ap k q T (Oks_in ok.2 q hq) (by have := deeps_in q hq; omega)
    have i0 : oIxA (Pt.row ps).toD (.int 0) S = some (.str "row", S) := by simp [Pt.toD]
    have i1 : oIxA (Pt.row ps).toD (.int 1) S = some (.tup (Pt.toDs ps), S) := by simp [Pt.toD]
    have e' : forRun none (gN 2) (mnB (F_law_many_2 k)) (Pt.toDs ps) [some (Pt.row ps).toD, some (.int 0), none] S = some (.nx, [some (Pt.row ps).toD, some (.int ((0 + Pt.manys ps : Nat) : Int)), v2], S) := e
    simp [F_law_many_2, b_law_many_2, fnRun_ap, i0, i1, sw1, e', Pt.many]
termination_by k p => k
end W
set_option Elab.async false
set_option linter.all false
set_option maxRecDepth 100000
set_option autoImplicit false
namespace W
open PySem L2 DL
variable {S S' : Sto} {h : Nat}
theorem runx_no {p : Pt} (ok : p.Ok) (h24 : p.deep ≤ 24) (hm : 400 < p.many) : F_run_of_2 [p.toD] S = some (.inr 1, S) := by
  have mm := many_ap 24 p S ok h24
  have gt : oGt (.int (p.many : Nat)) (.int 400) S = some (.bl true, S) := by
    have : oGt (.int (p.many : Nat)) (.int 400) S = some (.bl (decide ((400 : Int) < (p.many : Int))), S) := rfl
    rw [this, decide_eq_true (by omega)]
  have c : bT (eOp oGt (eCall (F_many_events 24) (aCons (eV 0) aNil)) (eC (.int 400))) [some p.toD] S = some (true, S) := by
    simp only [bT_ap, eOp_ap, eCall_ap, aCons_ap, eV_ap, List.getElem?_cons_zero, kV_s, bnd_some, kA1_ap, aNil_ap, kA2_ap, kCB_ap, mm, kOp1_ap, eC_ap, kOp2_ap, gt, kT_ap]
  show ((xSeq _ _ [some p.toD] S).bind _) = _
  unfold xSeq xIf
  rw [c]
  rfl
theorem runx_yes {p : Pt} (ok : p.Ok) (h24 : p.deep ≤ 24) (hm : p.many ≤ 400) : ∃ l S', F_run_of_2 [p.toD] S = some (.inl (.ref l), S') ∧ S.length ≤ l ∧ S'[l]? = some (.lst (evD p.ev)) ∧ Frm [] S S' := by
  have mm := many_ap 24 p S ok h24
  have gt : oGt (.int (p.many : Nat)) (.int 400) S = some (.bl false, S) := by
    have : oGt (.int (p.many : Nat)) (.int 400) S = some (.bl (decide ((400 : Int) < (p.many : Int))), S) := rfl
    rw [this, decide_eq_false (by omega)]
  have c : bT (eOp oGt (eCall (F_many_events 24) (aCons (eV 0) aNil)) (eC (.int 400))) [some p.toD] S = some (false, S) := by
    simp only [bT_ap, eOp_ap, eCall_ap, aCons_ap, eV_ap, List.getElem?_cons_zero, kV_s, bnd_some, kA1_ap, aNil_ap, kA2_ap, kCB_ap, mm, kOp1_ap, eC_ap, kOp2_ap, gt, kT_ap]
  obtain ⟨d, S1, e, l, rfl, hl, el, f⟩ := events_ok 24 p S ok h24 h24 hm
  have r : sRt (eCall (F_events_of 24) (aCons (eV 0) aNil)) [some p.toD] S = some (.rt (.ref l), [some p.toD], S1) := by
    simp only [sRt_ap, eCall_ap, aCons_ap, eV_ap, List.getElem?_cons_zero, kV_s, bnd_some, kA1_ap, aNil_ap, kA2_ap, kCB_ap, e, kRt_ap]
  refine ⟨l, S1, ?_, hl, el, f⟩
  show ((xSeq _ _ [some p.toD] S).bind _) = _
  unfold xSeq xIf
  rw [c]
  show ((xLift (sRt (eCall (F_events_of 24) (aCons (eV 0) aNil))) [some p.toD] S).bind _) = _
  unfold xLift
  rw [r]
  rfl
theorem asked_no {p : Pt} (ok : p.Ok) (h24 : p.deep ≤ 24) (hm : 400 < p.many) : F_law_asked [p.toD] S = some (.tup [.bl true, .non], S ++ [.x (.exc 1)]) := by
  have e := runx_no (S := S) ok h24 hm
  have t : sTryAs 1 3 [1] F_run_of_2 (aCons (eV 0) aNil) (sAs (eV 3) (gN 2)) [some p.toD, some .non, some .non, none] S = some (.nx, [some p.toD, some .non, some (.ref S.length), none], S ++ [.x (.exc 1)]) := by
    unfold sTryAs
    rw [show aCons (eV 0) aNil [some p.toD, some .non, some .non, none] S = some ([p.toD], S) from rfl, Option.bind_some]
    simp only [e]
    rfl
  have l0 : (S ++ [MO.x (.exc 1)])[S.length]? = some (.x (.exc 1)) := new_get
  have is1 : ∀ (v : Bool) (ρ : En), ρ[2]? = some (some (.ref S.length)) → eIsiX (fun m => if m = 1 then some v else none) (eV 2) ρ (S ++ [MO.x (.exc 1)]) = some (.bl v, S ++ [MO.x (.exc 1)]) := fun v ρ hρ => by
    unfold eIsiX
    rw [show eV 2 ρ (S ++ [MO.x (.exc 1)]) = some (.ref S.length, S ++ [MO.x (.exc 1)]) by unfold eV; rw [hρ], Option.bind_some]
    simp only [l0]
    rfl
  have is0 := is1 false [some p.toD, some .non, some (.ref S.length), none] rfl
  have is2 := is1 true [some p.toD, some .non, some (.ref S.length), none] rfl
  have nn : oIs true (.ref S.length) .non (S ++ [MO.x (.exc 1)]) = some (.bl true, S ++ [MO.x (.exc 1)]) := rfl
  rw [F_law_asked, fnRun_ap]
  unfold b_law_asked
  simp only [List.map_cons, List.map_nil, List.length_cons, List.length_nil, show List.replicate (4 - (0 + 1)) (none : Option D) = [none, none, none] from rfl, List.cons_append, List.nil_append, sSeq_ap, sAs_ap, eC_ap, bnd_some, kAs1_ap, gN_ap, kAs2_ap, List.set_cons_succ, List.set_cons_zero, kSeq_n, t, sIf_ap, bAnd_ap, bT_ap, eOp_ap, eV_ap, List.getElem?_cons_succ, List.getElem?_cons_zero, kV_s, kOp1_ap, kOp2_ap, nn, kT_ap, kBand_t, bTru_ap, is0, is2, kTru_bl, kSif_f, sNil_ap, bOr_ap, bNot_ap, kBnot_ap, Bool.not_true, kBor_f, sRt_ap, eTup_ap, aCons_ap, kA1_ap, aNil_ap, kA2_ap, kTup_2, kRt_ap, kFn_r]
theorem asked_yes {p : Pt} (ok : p.Ok) (h24 : p.deep ≤ 24) (hm : p.many ≤ 400) : ∃ l S', F_law_asked [p.toD] S = some (.tup [.bl false, .ref l], S') ∧ S.length ≤ l ∧ S'[l]? = some (.lst (evD p.ev)) ∧ Frm [] S S' := by
  obtain ⟨l, S1, e, hl, el, f⟩ := runx_yes (S := S) ok h24 hm
  refine ⟨l, S1, ?_, hl, el, f⟩
  have t : sTryAs 1 3 [1] F_run_of_2 (aCons (eV 0) aNil) (sAs (eV 3) (gN 2)) [some p.toD, some .non, some .non, none] S = some (.nx, [some p.toD, some (.ref l), some .non, none], S1) := by
    unfold sTryAs
    rw [show aCons (eV 0) aNil [some p.toD, some .non, some .non, none] S = some ([p.toD], S) from rfl, Option.bind_some]
    simp only [e]
    rfl
  have nn : oIs true .non .non S1 = some (.bl false, S1) := rfl
  rw [F_law_asked, fnRun_ap]
  unfold b_law_asked
  simp only [List.map_cons, List.map_nil, List.length_cons, List.length_nil, show List.replicate (4 - (0 + 1)) (none : Option D) = [none, none, none] from rfl, List.cons_append, List.nil_append, sSeq_ap, sAs_ap, eC_ap, bnd_some, kAs1_ap, gN_ap, kAs2_ap, List.set_cons_succ, List.set_cons_zero, kSeq_n, t, sIf_ap, bAnd_ap, bT_ap, eOp_ap, eV_ap, List.getElem?_cons_succ, List.getElem?_cons_zero, kV_s, kOp1_ap, kOp2_ap, nn, kT_ap, kBand_f, kSif_f, sNil_ap, sRt_ap, eTup_ap, aCons_ap, kA1_ap, aNil_ap, kA2_ap, kTup_2, kRt_ap, kFn_r]
end W
set_option Elab.async false
set_option linter.all false
set_option maxRecDepth 100000
set_option autoImplicit false
namespace W
open PySem L2 DL
variable {S S' : Sto} {h : Nat}
def deepR : Nat → Pt → Pt
  | 0, p => p
  | n + 1, p => deepR n (.row [p])
theorem deepR_ok : ∀ (n : Nat) (p : Pt), p.Ok → (deepR n p).Ok ∧ (deepR n p).deep = p.deep + n ∧ (deepR n p).many = p.many ∧ (deepR n p).ev = p.ev ∧ (deepR n p).sz = p.sz + n
  | 0, p, ok => ⟨ok, rfl, rfl, rfl, rfl⟩
  | n + 1, p, ok => by
    obtain ⟨h1, h2, h3, h4, h5⟩ := deepR_ok n (.row [p]) ⟨by simp, ok, trivial⟩
    refine ⟨h1, ?_, ?_, ?_, ?_⟩
    · show (deepR n (.row [p])).deep = _
      rw [h2, Pt.deep, Pt.deeps, Pt.deeps]; omega
    · show (deepR n (.row [p])).many = _
      rw [h3, Pt.many, Pt.manys, Pt.manys]; omega
    · show (deepR n (.row [p])).ev = _
      rw [h4, Pt.ev, Pt.evs, Pt.evs]; simp
    · show (deepR n (.row [p])).sz = _
      rw [h5, Pt.sz, Pt.szs, Pt.szs]; omega
abbrev dpB : Sv := (sAs (eTup (aCons (eC (.str "row")) (aCons (eTup (aCons (eV 0) aNil)) aNil))) (gN 0))
theorem deeper_run : ∀ (ds : List D) (p : Pt) (v1 v2 : Option D), ∃ v2', forRun none (gN 2) dpB ds [some p.toD, v1, v2] S = some (.nx, [some (deepR ds.length p).toD, v1, v2'], S)
  | [], p, v1, v2 => ⟨v2, rfl⟩
  | d :: ds, p, v1, v2 => by
    obtain ⟨v2', e⟩ := deeper_run ds (.row [p]) v1 (some d)
    refine ⟨v2', ?_⟩
    have e1 : dpB [some p.toD, v1, some d] S = some (.nx, [some (Pt.row [p]).toD, v1, some d], S) := by
      simp only [dpB, sAs_ap, eTup_ap, aCons_ap, eC_ap, eV_ap, List.getElem?_cons_zero, kV_s, bnd_some, kA1_ap, aNil_ap, kA2_ap, kTup_1, kTup_2, kAs1_ap, gN_ap, kAs2_ap, List.set_cons_zero]
      rfl
    exact (for_consB (gN_ap (i := 2)) e1).trans e
theorem deeper_ap {p : Pt} {n : Nat} (hn : n ≤ 1000) : F_law_deeper [p.toD, .int (n : Nat)] S = some ((deepR n p).toD, S) := by
  obtain ⟨v2, e⟩ := deeper_run (S := S) (rngD 0 n) p (some (.int (n : Nat))) none
  rw [rngD_len] at e
  have kr := kRng1_ap (S := S) (i62_n (n := n) (by omega))
  rw [Int.toNat_natCast] at kr
  rw [F_law_deeper, fnRun_ap]
  unfold b_law_deeper
  simp only [List.map_cons, List.map_nil, List.length_cons, List.length_nil, show List.replicate (3 - (0 + 1 + 1)) (none : Option D) = [none] from rfl, List.cons_append, List.nil_append, sSeq_ap, sFor_ap, iRng1_ap, eV_ap, List.getElem?_cons_succ, List.getElem?_cons_zero, kV_s, bnd_some, kr, kFor_ap, e, kSeq_n, sRt_ap, kRt_ap, kFn_r]
end W
set_option Elab.async false
set_option linter.all false
set_option maxRecDepth 100000
set_option autoImplicit false
namespace W
open PySem L2 DL
variable {S S' : Sto} {h : Nat}
def edgeP (o r : Nat) (p : Pt) : Pt := .row [.times o p, .times r (.way 5 1), .times 1000000000000000000 (.row [])]
theorem p18e : oPow (.int 10) (.int 18) S = some (.int 1000000000000000000, S) := by rw [oPow_int (by decide) (by decide) (by decide)]; rfl
theorem edge_ok (x : Hd S h) : Ok (F_law_edge [.ref h] S) fun d S' => ∃ (p : Pt) (o r : Nat), d = (edgeP o r p).toD ∧ p.Ok ∧ p.deep ≤ 3 ∧ p.sz ≤ 8 ∧ o ≤ 402 ∧ r ≤ 402 ∧ Dr h S S' := by
  have lh := x.lt
  have n0 : (S ++ [MO.lst [.int 8]])[S.length]? = some (.lst [.int 8]) := new_get
  have f0 : Frm [] S (S ++ [MO.lst [.int 8]]) := .app _
  have x0 : Hd (S ++ [MO.lst [.int 8]]) h := x.frm f0 (by simp)
  rw [F_law_edge, fnRun_ap]
  unfold b_law_edge
  simp only [List.map_cons, List.map_nil, List.length_cons, List.length_nil, show List.replicate (6 - (0 + 1)) (none : Option D) = [none, none, none, none, none] from rfl, List.cons_append, List.nil_append, sSeq_ap, sAs_ap, eCall_ap, aCons_ap, eV_ap, eC_ap, eLst_ap, List.getElem?_cons_zero, kV_s, bnd_some, kA1_ap, aNil_ap, kA2_ap, kLst_1, kCB_ap]
  simp only [Ok_bnd, Ok_bndS, OkS_bnd, OkS_bndS]
  refine (pattern_sz (few := true) (R := S.length) (h := h) (by omega) 12 3 _ 8 x0 n0 (by decide) (by decide) (by decide)).mono ?_
  rintro _ S1 ⟨p, ok, hd, rfl, D1, R1, z1, tm⟩
  have hsz : p.sz ≤ 8 := by omega
  have hm : p.many ≤ 65536 := Nat.le_trans (many_sz p (tm rfl)) (Nat.le_trans (Nat.pow_le_pow_right (by decide) hsz) (by decide))
  have f1 : Frm [h] S S1 := (f0.mono (by simp) : Frm [h] S (S ++ [MO.lst [.int 8]])).drop D1.frm fun l z => by
    simp at z
    rcases z with rfl | rfl
    · exact .inl (by simp)
    · exact .inr (Nat.le_refl _)
  have mm := many2_ap 24 p S1 ok (by omega)
  simp only [kAs1_ap, gN_ap, bnd_some, kAs2_ap, OkS_some, kSeq_n, List.set_cons_succ, List.set_cons_zero, sSeq_ap, sAs_ap, eCall_ap, aCons_ap, eV_ap, eC_ap, List.getElem?_cons_succ, List.getElem?_cons_zero, kV_s, kA1_ap, aNil_ap, kA2_ap, kCB_ap, mm, eOp_ap, kOp1_ap]
  simp only [Ok_bnd, Ok_bndS, OkS_bnd, OkS_bndS]
  refine (draw_ok (lim := 4) D1.hd (by decide) (by decide)).mono ?_
  rintro _ S2 ⟨g, rfl, hg, r2⟩
  obtain ⟨tot, ht, ht2⟩ : ∃ tot : Nat, (399 : Int) + (g : Int) = (tot : Int) ∧ tot ≤ 402 := ⟨399 + g, by omega, by omega⟩
  obtain ⟨mx, hmx, hmx0, hmx1⟩ : ∃ mx : Nat, (if (p.many : Int) > 1 then (p.many : Int) else 1) = (mx : Int) ∧ 0 < mx ∧ mx ≤ 65536 := by
    split
    · exact ⟨p.many, rfl, by omega, hm⟩
    · exact ⟨1, rfl, by decide, by decide⟩
  obtain ⟨bt, hb, hb1⟩ : ∃ bt : Nat, (if (decide ((0 : Int) < (p.many : Int))) = true then (1 : Int) else 0) = (bt : Int) ∧ bt ≤ 1 := by
    split
    · exact ⟨1, rfl, by decide⟩
    · exact ⟨0, rfl, by decide⟩
  have cx : cMax [.int 1, .int (p.many : Nat)] S2 = some (.int (mx : Nat), S2) := by rw [cMax_int, hmx]
  have fd : oFdiv (.int (tot : Nat)) (.int (mx : Nat)) S2 = some (.int ((tot / mx : Nat) : Int), S2) := by rw [oFdiv_pos (by omega) (by omega), Int.natCast_ediv]
  have gt : oGt (.int (p.many : Nat)) (.int 0) S2 = some (.bl (decide ((0 : Int) < (p.many : Int))), S2) := rfl
  have q1 : tot / mx ≤ 402 := Nat.le_trans (Nat.div_le_self _ _) ht2
  obtain ⟨o, ho⟩ : ∃ o, o = tot / mx * bt := ⟨_, rfl⟩
  have o1 : o ≤ tot / mx := by rw [ho]; exact Nat.le_trans (Nat.mul_le_mul_left _ hb1) (by omega)
  have mu1 : oMul (.int ((tot / mx : Nat) : Int)) (.int (bt : Nat)) S2 = some (.int (o : Nat), S2) := by rw [oMul_sl (by omega) (by omega), ho, Int.natCast_mul]
  have mu2 : oMul (.int (o : Nat)) (.int (p.many : Nat)) S2 = some (.int ((o * p.many : Nat) : Int), S2) := by rw [oMul_sl (by omega) (by omega), Int.natCast_mul]
  have le : o * p.many ≤ tot := by
    by_cases hp : p.many = 0
    · rw [hp]; omega
    · have e1 : mx = p.many := by
        split at hmx <;> omega
      rw [← e1]
      exact Nat.le_trans (Nat.mul_le_mul_right _ o1) (Nat.div_mul_le_self _ _)
  have sb : oSub (.int (tot : Nat)) (.int ((o * p.many : Nat) : Int)) S2 = some (.int ((tot - o * p.many : Nat) : Int), S2) := by
    have : oSub (.int (tot : Nat)) (.int ((o * p.many : Nat) : Int)) S2 = some (.int ((tot : Int) - ((o * p.many : Nat) : Int)), S2) := rfl
    rw [this, show (tot : Int) - ((o * p.many : Nat) : Int) = ((tot - o * p.many : Nat) : Int) by omega]
  simp only [kOp2_ap, oAdd_int, ht, Ok_some, kAs1_ap, gN_ap, bnd_some, kAs2_ap, OkS_some, kSeq_n, List.set_cons_succ, List.set_cons_zero, sSeq_ap, sAs_ap, eOp_ap, eCB_ap, aCons_ap, eV_ap, eC_ap, List.getElem?_cons_succ, List.getElem?_cons_zero, kV_s, kOp1_ap, kA1_ap, aNil_ap, kA2_ap, kCB_ap, cx, fd, gt, cInt_bl, hb, mu1, mu2, sb, sRt_ap, eTup_ap, kTup_1, kTup_2, kTup_3, kTup_0, p18e, kRt_ap, kFn_r]
  exact ⟨p, o, tot - o * p.many, rfl, ok, hd, hsz, by omega, by omega, f1.trans r2.frm, r2.hd⟩
end W
set_option Elab.async false
set_option linter.all false
set_option maxRecDepth 100000
set_option autoImplicit false
namespace W
open PySem L2 DL
variable {S S' : Sto} {h : Nat}
theorem drawn_sz {few : Bool} (x : Hd S h) : Ok (F_law_drawn [.ref h, .bl few] S) fun d S' => ∃ p : Pt, d = p.toD ∧ p.Ok ∧ p.deep ≤ 6 ∧ p.sz ≤ 60 ∧ Dr h S S' := by
  rw [F_law_drawn, fnRun_ap]
  unfold b_law_drawn
  simp only [List.map_cons, List.map_nil, List.length_cons, List.length_nil, show List.replicate (2 - (0 + 1 + 1)) (none : Option D) = [] from rfl, List.cons_append, List.nil_append, List.append_nil, sRt_ap, eCall_ap, aCons_ap, eV_ap, eC_ap, eOp_ap, List.getElem?_cons_succ, List.getElem?_cons_zero, kV_s, bnd_some, kA1_ap, aNil_ap, kA2_ap, kOp1_ap, kCB_ap]
  simp only [Ok_bnd, Ok_bndS, OkS_bnd, OkS_bndS]
  refine (draw_ok (lim := 6) x (by decide) (by decide)).mono ?_
  rintro _ S1 ⟨g, rfl, hg, r1⟩
  have lh := r1.hd.lt
  have n0 : (S1 ++ [MO.lst [.int 60]])[S1.length]? = some (.lst [.int 60]) := new_get
  have f0 : Frm [] S1 (S1 ++ [MO.lst [.int 60]]) := .app _
  have x0 : Hd (S1 ++ [MO.lst [.int 60]]) h := r1.hd.frm f0 (by simp)
  have eg : (1 : Int) + (g : Int) = ((g + 1 : Nat) : Int) := by omega
  simp only [kOp2_ap, oAdd_int, eg, Ok_some, bnd_some, kA1_ap, aCons_ap, eLst_ap, eC_ap, aNil_ap, kA2_ap, kLst_1, eV_ap, List.getElem?_cons_succ, List.getElem?_cons_zero, kV_s, kCB_ap]
  try simp only [Ok_bnd, Ok_bndS, OkS_bnd, OkS_bndS]
  refine (pattern_sz (few := few) (R := S1.length) (h := h) (by omega) 12 (g + 1) _ 60 x0 n0 (by decide) (by omega) (by omega)).mono ?_
  rintro _ S2 ⟨p, ok, hd, rfl, D1, R1, z1, tm⟩
  have f1 : Frm [h] S S2 := r1.frm.trans ((f0.mono (by simp) : Frm [h] S1 (S1 ++ [MO.lst [.int 60]])).drop D1.frm fun l z => by
    simp at z
    rcases z with rfl | rfl
    · exact .inl (by simp)
    · exact .inr (Nat.le_refl _))
  simp only [kRt_ap, OkS_some, kFn_r, Ok_some]
  exact ⟨p, rfl, ok, by omega, by omega, f1, D1.hd⟩
end W
set_option Elab.async false
set_option linter.all false
set_option maxRecDepth 100000
set_option autoImplicit false
namespace DL
open PySem PySem.Spec PyProof.Rows L2
variable {B : Bs}
def insOf (S : Sto) (l : Nat) : Option (Nat × List (Str × D)) := match S[l]? with
  | some (.x (.ins n fs)) => some (n, fs)
  | some (.x (.insR n fs)) => some (n, fs)
  | _ => none
def insW (S : Sto) (l : Nat) : Option (Nat × List (Str × D)) := match S[l]? with
  | some (.x (.ins n fs)) => some (n, fs)
  | _ => none
def putA (f : Str) (v : D) : List (Str × D) → List (Str × D)
  | [] => [(f, v)]
  | (g, x) :: r => if g = f then (g, v) :: r else (g, x) :: putA f v r
theorem HR.insR {K : PySem.W.Frag} {ι : Lm} {S : Sto} {H : Hp} {l n : Nat} {v : V} {fs : List (Str × D)} {C : Addr} (hB : B.cls n = some C) (hr : HR K B ι S H) (r : Rp K ι H (.ref l) v) (e : insOf S l = some (n, fs)) :
    ∃ a dx ws, v = .ref a ∧ H a = some (.ins C dx ws) ∧ ws.map (·.1) = fs.map (·.1) ∧ Rps K ι H (fs.map (·.2)) (ws.map (·.2)) := by
  obtain ⟨a, hι, rfl⟩ := r
  unfold insOf at e
  split at e
  · rename_i e1; cases e
    obtain ⟨C', dx, ws, h1, h2, h3, h4, h5, h6⟩ := hr.ob l _ a e1 hι
    rw [hB] at h1; cases h1
    exact ⟨a, dx, ws, rfl, h2, h5, h6⟩
  · rename_i e1; cases e
    obtain ⟨C', dx, ws, h1, h2, h3, h4, h5, h6⟩ := hr.ob l _ a e1 hι
    rw [hB] at h1; cases h1
    exact ⟨a, dx, ws, rfl, h2, h5, h6⟩
  · cases e
def kAtF (n : Nat) (f : Str) (p : D × Sto) : Option (D × Sto) := match p.1 with
  | .ref l => (insOf p.2 l).bind fun q => if q.1 = n then (q.2.lookup f).map fun d => (d, p.2) else none
  | _ => none
def eAt (n : Nat) (f : Str) (to : Ev) : Ev := fun ρ S => (to ρ S).bind (kAtF n f)
section
variable {X : Cx} {o e : Expr} {f : Str} {to te : Ev} {pos pos' tpos : Pos} {n : Nat} {C : Addr}
def kSA (n : Nat) (f : Str) (d : D) (ρ : En) (p : D × Sto) : Option (Fl × En × Sto) := match p.1 with
  | .ref l => (insW p.2 l).bind fun q => if q.1 = n ∧ q.2.length < 1000 then some (.nx, ρ, p.2.set l (.x (.ins n (putA f d q.2)))) else none
  | _ => none
def sSetA (n : Nat) (f : Str) (to te : Ev) : Sv := fun ρ S => (te ρ S).bind fun p => (to ρ p.2).bind (kSA n f p.1 ρ)
def kMe1 (n : Nat) (m : Str) (F : Fv) (t : Av) (ρ : En) (p : D × Sto) : Option (D × Sto) := match p.1 with
  | .ref l => (insOf p.2 l).bind fun q => if q.1 = n ∧ q.2.lookup m = none then (t ρ p.2).bind fun r => F (.ref l :: r.1) r.2 else none
  | _ => none
def eMe (n : Nat) (m : Str) (F : Fv) (to : Ev) (t : Av) : Ev := fun ρ S => (to ρ S).bind (kMe1 n m F t ρ)
variable {a : Expr} {es : List Expr} {tr : Av} {g : Addr} {fd : FuncData} {ps : List Str} {m : Str} {k : Nat} {F : Fv} {apos : Pos}
def kNw (n : Nat) (F : Fv) (p : List D × Sto) : Option (D × Sto) := (F (.ref p.2.length :: p.1) (p.2 ++ [.x (.ins n [])])).bind fun r => match r.1 with
  | .non => some (.ref p.2.length, r.2)
  | _ => none
def eNew (n : Nat) (F : Fv) (t : Av) : Ev := fun ρ S => (t ρ S).bind (kNw n F)
theorem new_ins {K : PySem.W.Frag} {ι : Lm} {S : Sto} {H : Hp} {n : Nat} {x dx : Addr} (hr : HR K B ι S H) (hB : B.cls n = some C) (nx : H x = none) (nd : H dx = none) (ne : dx ≠ x) :
    HR K B (ι ++ [x]) (S ++ [.x (.ins n [])]) (upd (upd H dx (.own x)) x (.ins C dx [])) ∧ Fr ι S H (ι ++ [x]) (S ++ [.x (.ins n [])]) (upd (upd H dx (.own x)) x (.ins C dx [])) := by
  have hr1 : HR K B ι S (upd H dx (.own x)) := ⟨hr.len, hr.nodup, fun i k a e q => (hr.ob i k a e q).ext (.newT nd) (upd_ne (at_ne hr (hr.none_notin nd) q)), nd_upd hr.nd trivial, fun P hP => ⟨(hr.tb P hP).1, by rw [upd_ne (ne_of_none (hr.tb P hP).2 nd)]; exact (hr.tb P hP).2⟩⟩
  have f1 : Fr ι S H ι S (upd H dx (.own x)) := .newT hr nd
  have nx1 : (upd H dx (.own x)) x = none := by rw [upd_ne (fun z => ne z.symm)]; exact nx
  have dn : dx ∉ ι ++ [x] := fun z => by
    rcases List.mem_append.mp z with z | z
    · exact hr.none_notin nd z
    · exact ne (by simpa using z)
  refine ⟨hr1.new nx1 ⟨C, dx, [], hB, upd_same, by rw [upd_ne ne, upd_same], dn, rfl, rfl⟩ trivial, f1.trans (.new hr1 nx1)⟩
variable {x : Str} {p : Pos} {nm : Str}
theorem lnew (hB : B.cls n = some C) (M : Mk X.K C g) (G : FnOk X.prog X.w X.K X.mg X.base CX0 k g fd ps (upF X.K B ps.length F)) (hr : Room (k + 1) X.A) (hg : Gl X x) (hm : X.mg x = some (.ref C)) (hb : Binds X.K fd ps []) (ha : PLA B X (a :: es) tr)
    (hal : ∀ ρ S ds S', tr ρ S = some (ds, S') → ds.length = (a :: es).length) (hl : (a :: es).length + 1 = ps.length := by rfl)
    (hdb : (x == ("__debug__" : Str)) = false := by decide) (he : starEach (a :: es) X.env = (false, eval a X.env) :: starEach es X.env := by rfl) (hpl : (backTo pos (starEach es X.env)).any (·.1) = false := by rfl) :
    PL B X (.Call (.Name x p) (a :: es) [] pos) (eNew n F tr) :=
  PL.wk (pe_make M G hr hg hm hb .nil (E := E0) pass0 ha.p hdb he hpl) fun σ H Q ⟨ρ, ι, S, er, hr, d, S', h, q⟩ => by
    obtain ⟨⟨xs, S1⟩, h1, h⟩ := bd h
    refine upA_then er hr h1 fun vs ι1 H1 f1 er1 r1 hr1 => ?_
    refine fun y dx nx nd ne => ?_
    obtain ⟨⟨d1, S2⟩, h2, h⟩ := bd h
    obtain ⟨hr2, f2⟩ := new_ins hr1 hB nx nd ne
    have aty : (ι1 ++ [y])[S1.length]? = some y := new_at hr1
    refine ⟨?_, .ref S1.length :: xs, _, _, ⟨_, _, by rw [List.append_nil], ⟨y, aty, rfl⟩, Rps.ext (f2.ext hr1) _ _ r1⟩, hr2, d1, S2, h2, fun v ι3 H3 f3 r3 hr3 => ?_⟩
    · rw [List.append_nil, List.length_cons, ← r1.length, hal _ _ _ _ h1]
      exact hl
    · cases d1 with
      | non =>
        cases h
        exact ⟨r3, q (.ref y) ι3 H3 ((f1.trans f2).trans f3) ⟨y, f3.pre_at aty, rfl⟩ hr3⟩
      | bl _ => cases h
      | int _ => cases h
      | str _ => cases h
      | ty _ => cases h
      | ref _ => cases h
      | tup _ => cases h
end
end DL
set_option Elab.async false
set_option linter.all false
set_option maxRecDepth 100000
set_option autoImplicit false
namespace DL
open PySem PySem.Spec PyProof.Rows L2
variable {B : Bs}
def kAugA3 (n : Nat) (f : Str) (l : Nat) (ρ : En) (z : D × Sto) : Option (Fl × En × Sto) := (insW z.2 l).bind fun q => if q.1 = n ∧ q.2.length < 1000 then some (.nx, ρ, z.2.set l (.x (.ins n (putA f z.1 q.2)))) else none
def kAugA2 (r : R2v) (n : Nat) (f : Str) (l : Nat) (d : D) (ρ : En) (y : D × Sto) : Option (Fl × En × Sto) := (r d y.1 y.2).bind (kAugA3 n f l ρ)
def kAugA1 (r : R2v) (n : Nat) (f : Str) (te : Ev) (ρ : En) (p : D × Sto) : Option (Fl × En × Sto) := match p.1 with
  | .ref l => (insOf p.2 l).bind fun q => if q.1 = n then (q.2.lookup f).bind fun d => (te ρ p.2).bind (kAugA2 r n f l d ρ) else none
  | _ => none
def sAugA (r : R2v) (n : Nat) (f : Str) (to te : Ev) : Sv := fun ρ S => (to ρ S).bind (kAugA1 r n f te ρ)
section
variable {X : Cx} {o e : Expr} {f : Str} {to te : Ev} {pos pos' tpos : Pos} {n : Nat} {C : Addr} {op : Operator} {r : R2v}
end
def chD (c : Nat) : D := .str ⟨#[c]⟩
def oIxT : R2v := fun x y S => match x, y with
  | .str z, .int i => if z.length ≤ sizeLine then (atI z.cps.toList i).map fun c => (chD c, S) else none
  | _, _ => oIxA x y S
section
variable {X : Cx} {a b e : Expr} {ta tb te tl th : Ev} {pos p2 : Pos}
def cLenT : RCv := fun ds S => match ds with
  | [.str z] => if z.length ≤ sizeLine then some (.int z.length, S) else none
  | _ => cLen ds S
def kFmt (p : D × Sto) : Option (D × Sto) := match p.1 with
  | .str z => if z.length ≤ sizeLine then some (.str z, p.2) else none
  | .int i => if i.natAbs.log2 < 1920 then some (.str (toString i), p.2) else none
  | _ => none
def eFmt (t : Ev) : Ev := fun ρ S => (t ρ S).bind kFmt
abbrev Jv := En → Sto → Option (Str × Sto)
def kJs (p : D × Sto) : Option (Str × Sto) := match p.1 with
  | .str z => some (z, p.2)
  | _ => none
def jNil : Jv := fun _ S => some (Str.empty, S)
def jCons (ta : Ev) (tr : Jv) : Jv := fun ρ S => ((ta ρ S).bind kJs).bind fun p => (tr ρ p.2).bind fun q => some (p.1 ++ q.1, q.2)
def kJoin (p : Str × Sto) : Option (D × Sto) := if p.1.length ≤ sizeLine then some (.str p.1, p.2) else none
def eJoin (t : Jv) : Ev := fun ρ S => (t ρ S).bind kJoin
structure PLJ (B : Bs) (X : Cx) (es : List Expr) (t : Jv) : Prop where
  p : ∀ (pins : List (Addr × Obj)) (s : Shared) (σ : L2.St) (H : Hp) (out : Str) (Q : VK), Inv X pins σ H s → (∃ ρ ι S, EnvR X.K ι H σ ρ ∧ HR X.K B ι S H ∧ ∃ y S', t ρ S = some (y, S') ∧ (out ++ y).length ≤ sizeLine ∧ ∀ ι' H', Fr ι S H ι' S' H' → HR X.K B ι' S' H' → Q (.str (out ++ y)) H') →
    wpAny (model X.prog X.w) X.A (joinParts out (evalEach es X.env)) (EP X pins σ Q) X.xe s
def iAnyT (t : Ev) : Iv := fun ρ S => (t ρ S).bind fun p => match p.1 with
  | .ref l => (rdL p.2 l).map fun xs => (⟨xs, some (l, xs)⟩, p.2)
  | .tup xs => some (⟨xs, none⟩, p.2)
  | .str z => some (⟨z.cps.toList.map chD, none⟩, p.2)
  | _ => none
variable {tg : Expr}
end
def strsD : List D → Option (List Str)
  | [] => some []
  | .str z :: r => (strsD r).map fun y => z :: y
  | _ :: _ => none
theorem strsD_of (ys : List Str) : strsD (ys.map D.str) = some ys := by
  induction ys with
  | nil => rfl
  | cons y ys ih => simp only [List.map_cons, strsD, ih, Option.map_some]
section
variable {X : Cx} {o e : Expr} {to te : Ev} {apos pos : Pos}
def kJn2 (a : Str) (q : D × Sto) : Option (D × Sto) := (match q.1 with
    | .ref l => rdL q.2 l
    | .tup xs => some xs
    | _ => none).bind fun (xs : List D) => (strsD xs).bind fun (ys : List Str) => if (ys.map fun (y : Str) => y.length).sum + ys.length * a.length ≤ 16777216 then some (.str (Txt.join a ys), q.2) else none
def kJn1 (te : Ev) (ρ : En) (p : D × Sto) : Option (D × Sto) := match p.1 with
  | .str a => (te ρ p.2).bind (kJn2 a)
  | _ => none
def eJn (to te : Ev) : Ev := fun ρ S => (to ρ S).bind (kJn1 te ρ)
def kSp2 (a : Str) (q : D × Sto) : Option (D × Sto) := match q.1 with
  | .str b => if (b.length == 0) = false ∧ a.length + 2 ≤ sizeLine then some (.ref q.2.length, q.2 ++ [.lst ((Txt.split a b).map D.str)]) else none
  | _ => none
def kSp1 (te : Ev) (ρ : En) (p : D × Sto) : Option (D × Sto) := match p.1 with
  | .str a => (te ρ p.2).bind (kSp2 a)
  | _ => none
def eSp (to te : Ev) : Ev := fun ρ S => (to ρ S).bind (kSp1 te ρ)
def cIntT : RCv := fun ds S => match ds with
  | [.str a] => (PySem.intText? a).bind fun n => if a.length ≤ 640 then some (.int n, S) else none
  | _ => cInt ds S
end
end DL
set_option Elab.async false
set_option linter.all false
set_option maxRecDepth 100000
set_option autoImplicit false
namespace DL
open PySem PySem.Spec PyProof.Rows L2
section
variable {ρ : En} {S : Sto} {n l : Nat} {f m : Str} {to te ta tb : Ev} {t : Av} {F : Fv} {fs : List (Str × D)} {d : D} {r : R2v}
theorem insOf_of (h : S[l]? = some (.x (.ins n fs))) : insOf S l = some (n, fs) := by unfold insOf; rw [h]
theorem insW_of (h : S[l]? = some (.x (.ins n fs))) : insW S l = some (n, fs) := by unfold insW; rw [h]
@[simp] theorem eAt_ap : eAt n f to ρ S = bnd (to ρ S) (kAtF n f) := id rfl
theorem kAtF_ap (h : S[l]? = some (.x (.ins n fs))) (e : fs.lookup f = some d) : kAtF n f (.ref l, S) = some (d, S) := by
  show ((insOf S l).bind _) = _
  rw [insOf_of h]
  show (if n = n then (fs.lookup f).map _ else none) = _
  rw [if_pos rfl, e]; rfl
@[simp] theorem sSetA_ap : sSetA n f to te ρ S = bnd (te ρ S) (fun p => bnd (to ρ p.2) (kSA n f p.1 ρ)) := id rfl
@[simp] theorem eMe_ap : eMe n m F to t ρ S = bnd (to ρ S) (kMe1 n m F t ρ) := id rfl
def kMe2 (F : Fv) (l : Nat) (r : List D × Sto) : Option (D × Sto) := F (.ref l :: r.1) r.2
@[simp] theorem kMe2_ap {ds : List D} : kMe2 F l (ds, S) = F (.ref l :: ds) S := id rfl
theorem kMe1_ap (h : S[l]? = some (.x (.ins n fs))) (e : fs.lookup m = none) : kMe1 n m F t ρ (.ref l, S) = bnd (t ρ S) (kMe2 F l) := by
  show ((insOf S l).bind _) = _
  rw [insOf_of h]
  show (if n = n ∧ fs.lookup m = none then _ else none) = _
  rw [if_pos ⟨rfl, e⟩]; rfl
@[simp] theorem eNew_ap : eNew n F t ρ S = bnd (t ρ S) (kNw n F) := id rfl
def kNw2 (l : Nat) (r : D × Sto) : Option (D × Sto) := match r.1 with
  | .non => some (.ref l, r.2)
  | _ => none
@[simp] theorem kNw2_ap {l : Nat} : kNw2 l (.non, S) = some (.ref l, S) := id rfl
@[simp] theorem kNw_ap {ds : List D} : kNw n F (ds, S) = bnd (F (.ref S.length :: ds) (S ++ [.x (.ins n [])])) (kNw2 S.length) := id rfl
@[simp] theorem sAugA_ap : sAugA r n f to te ρ S = bnd (to ρ S) (kAugA1 r n f te ρ) := id rfl
theorem kAugA1_ap (h : S[l]? = some (.x (.ins n fs))) (e : fs.lookup f = some d) : kAugA1 r n f te ρ (.ref l, S) = bnd (te ρ S) (kAugA2 r n f l d ρ) := by
  show ((insOf S l).bind _) = _
  rw [insOf_of h]
  show (if n = n then (fs.lookup f).bind _ else none) = _
  rw [if_pos rfl, e]; rfl
@[simp] theorem kAugA2_ap {y : D} : kAugA2 r n f l d ρ (y, S) = bnd (r d y S) (kAugA3 n f l ρ) := id rfl
theorem kAugA3_ap {y : D} (h : S[l]? = some (.x (.ins n fs))) (hz : fs.length < 1000) : kAugA3 n f l ρ (y, S) = some (.nx, ρ, S.set l (.x (.ins n (putA f y fs)))) := by
  show ((insW S l).bind _) = _
  rw [insW_of h]
  show (if n = n ∧ fs.length < 1000 then _ else none) = _
  rw [if_pos ⟨rfl, hz⟩]
@[simp] theorem eFmt_ap : eFmt ta ρ S = bnd (ta ρ S) kFmt := id rfl
@[simp] theorem jNil_ap : jNil ρ S = some (Str.empty, S) := id rfl
def kJc (z : Str) (q : Str × Sto) : Option (Str × Sto) := some (z ++ q.1, q.2)
@[simp] theorem kJc_ap {z y : Str} : kJc z (y, S) = some (z ++ y, S) := id rfl
def kJr (tr : Jv) (ρ : En) (p : Str × Sto) : Option (Str × Sto) := bnd (tr ρ p.2) (kJc p.1)
@[simp] theorem kJr_ap {z : Str} {tr : Jv} : kJr tr ρ (z, S) = bnd (tr ρ S) (kJc z) := id rfl
@[simp] theorem jCons_ap {tr : Jv} : jCons ta tr ρ S = bnd (bnd (ta ρ S) kJs) (kJr tr ρ) := id rfl
@[simp] theorem kJs_ap {z : Str} : kJs (.str z, S) = some (z, S) := id rfl
@[simp] theorem eJoin_ap {tr : Jv} : eJoin tr ρ S = bnd (tr ρ S) kJoin := id rfl
@[simp] theorem eJn_ap : eJn to te ρ S = bnd (to ρ S) (kJn1 te ρ) := id rfl
@[simp] theorem kJn1_ap {a : Str} : kJn1 te ρ (.str a, S) = bnd (te ρ S) (kJn2 a) := id rfl
theorem kJn2_ap {a : Str} {ys : List Str} (h : rdL S l = some (ys.map D.str)) (hz : (ys.map fun (y : Str) => y.length).sum + ys.length * a.length ≤ 16777216) : kJn2 a (.ref l, S) = some (.str (Txt.join a ys), S) := by
  show ((rdL S l).bind _) = _
  rw [h, Option.bind_some, strsD_of, Option.bind_some, if_pos hz]
@[simp] theorem eSp_ap : eSp to te ρ S = bnd (to ρ S) (kSp1 te ρ) := id rfl
@[simp] theorem kSp1_ap {a : Str} : kSp1 te ρ (.str a, S) = bnd (te ρ S) (kSp2 a) := id rfl
theorem oIxT_str {z : Str} {i : Int} (h : z.length ≤ 16777216) : oIxT (.str z) (.int i) S = (atI z.cps.toList i).map fun c => (chD c, S) := if_pos (by rw [sizeLine_eq]; exact h)
theorem cLenT_str {z : Str} (h : z.length ≤ 16777216) : cLenT [.str z] S = some (.int z.length, S) := if_pos (by rw [sizeLine_eq]; exact h)
theorem cIntT_str {z : Str} {i : Int} (h : PySem.intText? z = some i) (h2 : z.length ≤ 640) : cIntT [.str z] S = some (.int i, S) := by
  show ((PySem.intText? z).bind _) = _
  rw [h, Option.bind_some, if_pos h2]
theorem iAnyT_str {z : Str} {S1 : Sto} (h : ta ρ S = some (.str z, S1)) : iAnyT ta ρ S = some (⟨z.cps.toList.map chD, none⟩, S1) := by
  show ((ta ρ S).bind _) = _
  rw [h]; rfl
end
end DL
set_option Elab.async false
set_option linter.all false
set_option maxRecDepth 100000
namespace DL
open PySem L2
section
variable {B : Bs} {X : Cx} {elt iter : Expr} {x : Str} {px : Pos} {scope : Scope} {gpos p pos : Pos} {ti : Iv} {te : Ev} {cc P : Addr}
end
end DL
set_option Elab.async false
set_option linter.all false
set_option maxRecDepth 100000
namespace L2
open PySem PySem.Spec PyProof.Rows PySem.SeqAt
open PySem.AutoSeq1 (wpAny_loadPart')
open PySem.MeetsSeq PySem.MeetsSeq2 PySem.MeetsSeq3
def LtAt (A : Around) (s : Shared) (y x : Value) (b : Bool) : Prop :=
  ∀ (prog : Program) (w : World) (E : Value → Shared → Prop) (Q : Value → Shared → Prop), Q (.bool b) s → wpAny (model prog w) A (richCompare .Lt y x) Q E s
inductive LtAll (A : Around) (s : Shared) : List Value → List Value → Bool → Prop
  | nil : LtAll A s [] [] false
  | short {x xs} : LtAll A s [] (x :: xs) true
  | long {x xs} : LtAll A s (x :: xs) [] false
  | eq {y x vs ws k} : EqAt A s y x true → LtAll A s vs ws k → LtAll A s (y :: vs) (x :: ws) k
  | ne {y x vs ws k} : EqAt A s y x false → LtAt A s y x k → LtAll A s (y :: vs) (x :: ws) k
theorem tuple_lt_all (A0 : Around) (s0 : Shared) (l b : Addr) (items items2 : Array Value) (n n2 : Nat) (dd dd2 : Option Addr) (sl sl2 : Array (Option Value)) (k : Bool) (hk : LtAll A0.in1 s0 items.toList items2.toList k) :
    Meets (Builtin.«tuple.__lt__» ⟨[.ref l, .ref b], []⟩)
      (fun A R s => A = A0 ∧ s = s0 ∧ s.heap.get? l = some { cls := .type "tuple", dict := dd, data := .seq items n, slots := sl } ∧ s.heap.get? b = some { cls := .type "tuple", dict := dd2, data := .seq items2 n2, slots := sl2 } ∧
        R (.ok (.ret (.bool k))) s) :=
  .of_wp fun prog w A R s h => by
    obtain ⟨rfl, rfl, hl, hb, h⟩ := h
    obtain ⟨hp, g, d, tk, os⟩ := s
    have f2 := AutoSeq1.sub_tuple_tuple
    wp_walk using wpAny_loadPart' hl, wpAny_loadPart' hb, wpAny_forIn_list _ (fun rest b s' => b.1 = none ∧ s' = ⟨hp, g, d, tk, os⟩ ∧ ∃ (vs ws : List Value), rest = vs.zip ws ∧
      LtAll A.in1 ⟨hp, g, d, tk, os⟩ vs ws k ∧ vs.length + items2.size = ws.length + items.size) _
    case turn =>
      rintro ⟨y, x⟩ rest b s' ⟨hb', rfl, vs, ws, hz, hA, hlen⟩
      cases hA with
      | nil => rw [List.zip_nil_left] at hz; cases hz
      | short => rw [List.zip_nil_left] at hz; cases hz
      | long => rw [List.zip_nil_right] at hz; cases hz
      | eq he hA' =>
        rw [List.zip_cons_cons] at hz
        injection hz with hyx hrest
        injection hyx with hy hx
        subst hy hx
        simp only [List.length_cons] at hlen
        refine wpAny_bind (he prog w _ _ ?_)
        wp_walk
        exact ⟨rfl, rfl, _, _, hrest, hA', by omega⟩
      | ne he hlt =>
        rw [List.zip_cons_cons] at hz
        injection hz with hyx hrest
        injection hyx with hy hx
        subst hy hx
        refine wpAny_bind (he prog w _ _ ?_)
        have hri := hlt prog w
        wp_walk using hri
        exact ⟨_, rfl, h⟩
    case fin =>
      rintro ⟨b1, b2⟩ s' ⟨hb', rfl, vs, ws, hz, hA, hlen⟩
      simp only at hb'
      subst hb'
      have hv : k = decide (items.size < items2.size) := by
        cases hA with
        | nil => simp only [List.length_nil] at hlen; exact (decide_eq_false (by omega)).symm
        | short => simp only [List.length_nil, List.length_cons] at hlen; exact (decide_eq_true (by omega)).symm
        | long => simp only [List.length_nil, List.length_cons] at hlen; exact (decide_eq_false (by omega)).symm
        | eq => rw [List.zip_cons_cons] at hz; cases hz
        | ne => rw [List.zip_cons_cons] at hz; cases hz
      rw [hv] at h
      wp_walk
      exact ⟨_, rfl, by simpa [Builtin.Tuple.tupleCompareSizes] using h⟩
    case h =>
      exact ⟨rfl, rfl, items.toList, items2.toList, rfl, hk, by simp; omega⟩
theorem LtAt.tup {A : Around} {s : Shared} {l b : Addr} {items items2 : Array Value} {k : Bool} (hl : IsTup s.heap l items) (hb : IsTup s.heap b items2) (hk : LtAll A.in1 s items.toList items2.toList k) (hu : A.units < cLine) : LtAt A s (.ref l) (.ref b) k := by
  intro prog w E Q h
  obtain ⟨⟨cls, dd, data, sl⟩, ho, hc, n, hd⟩ := id hl
  obtain ⟨⟨cls2, dd2, data2, sl2⟩, ho2, hc2, n2, hd2⟩ := id hb
  simp only at hc hd hc2 hd2
  subst hc hd hc2 hd2
  exact richCompare_meets_room (op := .Lt) ⟨_, ho, rfl⟩ ⟨_, ho2, rfl⟩ PySem.F.slot_tuple_lt PySem.F.entry_tuple_lt (PySem.F.args_tuple_lt_2 _ _) (tuple_lt_all A s l b items items2 n n2 dd dd2 sl sl2 k hk)
    ⟨rfl, rfl, ho, ho2, show Value.bool k ≠ Value.notImplemented ∧ Q (.bool k) s from ⟨(fun x => nomatch x), h⟩⟩ hu
end L2
set_option Elab.async false
set_option linter.all false
set_option maxRecDepth 100000
namespace L2
open PySem PySem.Spec PyProof.Rows
end L2
namespace DL
open PySem L2
variable {B : Bs} {X : Cx}
end DL
set_option Elab.async false
set_option linter.all false
set_option maxRecDepth 100000
set_option autoImplicit false
namespace W
open PySem DL
end W
set_option Elab.async false
set_option linter.all false
set_option maxRecDepth 100000
set_option autoImplicit false
namespace W
open PySem DL
def b_Reader_here : Sv :=
  (sRt (eIf (bT (eOp oLt (eAt 0 "at" (eV 0)) (eCB cLenT (aCons (eAt 0 "row" (eV 0)) aNil)))) (eOp oIxT (eAt 0 "row" (eV 0)) (eAt 0 "at" (eV 0))) (eC (.str ""))))
def F_Reader_here : Fv := fnRun 1 b_Reader_here
def b_Reader_take : Sv :=
  (sSeq (sAs (eMe 0 "here" F_Reader_here (eV 0) aNil) (gN 1))
    (sSeq (sAugA oAddI 0 "at" (eV 0) (eC (.int 1)))
    (sRt (eV 1))))
def F_Reader_take : Fv := fnRun 2 b_Reader_take
def b_number_in : Sv :=
  (sSeq (sIf (bOr (bNot (bT (eChain oLe oLe (eC (.int 1)) (eCB cLenT (aCons (eV 0) aNil)) (eC (.int 19))))) (bNot (bTru (eAllG (iAnyT (eV 0)) (eOp (oInA false) (eV 0) (eC (.tup [(.str "0"), (.str "1"), (.str "2"), (.str "3"), (.str "4"), (.str "5"), (.str "6"), (.str "7"), (.str "8"), (.str "9")]))))))) (sRt (eNeg (eC (.int 1)))) sNil)
    (sRt (eCB cIntT (aCons (eV 0) aNil))))
def F_number_in : Fv := fnRun 1 b_number_in
def b_pattern_from (X_pattern_from : Fv) (X_row_from : Fv) : Sv :=
  (sSeq (sIf (bT (eOp oLt (eV 1) (eC (.int 1)))) sNo sNil)
    (sSeq (sIf (bT (eOp oEq (eMe 0 "here" F_Reader_here (eV 0) aNil) (eC (.str "(")))) (sRt (eCall X_row_from (aCons (eV 0) (aCons (eV 1) aNil)))) sNil)
    (sSeq (sAs (eLst aNil) (gN 2))
    (sSeq (sWh (bT (eOp (oInA false) (eMe 0 "here" F_Reader_here (eV 0) aNil) (eC (.tup [(.str "0"), (.str "1"), (.str "2"), (.str "3"), (.str "4"), (.str "5"), (.str "6"), (.str "7"), (.str "8"), (.str "9")])))) (sEx (eM mAppend (eV 2) (aCons (eMe 0 "take" F_Reader_take (eV 0) aNil) aNil))))
    (sSeq (sAs (eCall F_number_in (aCons (eJn (eC (.str "")) (eV 2)) aNil)) (gN 3))
    (sSeq (sAs (eMe 0 "take" F_Reader_take (eV 0) aNil) (gN 4))
    (sSeq (sIf (bT (eOp oEq (eV 4) (eC (.str "*")))) (sRt (eTup (aCons (eC (.str "times")) (aCons (eV 3) (aCons (eCall X_pattern_from (aCons (eV 0) (aCons (eOp oSub (eV 1) (eC (.int 1))) aNil))) aNil))))) sNil)
    (sSeq (sIf (bT (eOp (oInA true) (eV 4) (eTup (aCons (eC (.str "+")) (aCons (eC (.str "-")) aNil))))) sNo sNil)
    (sRt (eTup (aCons (eC (.str "way")) (aCons (eV 3) (aCons (eIf (bT (eOp oEq (eV 4) (eC (.str "+")))) (eC (.int 1)) (eC (.int 0))) aNil)))))))))))))
def b_row_from (X_pattern_from : Fv) (X_row_from : Fv) : Sv :=
  (sSeq (sEx (eMe 0 "take" F_Reader_take (eV 0) aNil))
    (sSeq (sAs (eLst aNil) (gN 2))
    (sSeq (sWh (bT (eOp oNe (eMe 0 "here" F_Reader_here (eV 0) aNil) (eC (.str ")")))) (sSeq (sIf (bT (eOp oGt (eCB cLen (aCons (eV 2) aNil)) (eC (.int 0)))) (sEx (eMe 0 "take" F_Reader_take (eV 0) aNil)) sNil)
    (sEx (eM mAppend (eV 2) (aCons (eCall X_pattern_from (aCons (eV 0) (aCons (eOp oSub (eV 1) (eC (.int 1))) aNil))) aNil)))))
    (sSeq (sEx (eMe 0 "take" F_Reader_take (eV 0) aNil))
    (sRt (eTup (aCons (eC (.str "row")) (aCons (eCB cTuple (aCons (eV 2) aNil)) aNil))))))))
def R_pattern_from : Nat → Fv × Fv
  | 0 => (fun _ _ => none, fun _ _ => none)
  | k + 1 => (fnRun 5 (b_pattern_from (R_pattern_from k).1 (R_pattern_from k).2), fnRun 3 (b_row_from (R_pattern_from k).1 (R_pattern_from k).2))
end W
set_option Elab.async false
set_option linter.all false
set_option maxRecDepth 100000
set_option autoImplicit false
namespace W
open PySem L2 DL TL
variable {S S' : Sto}
def mkS (l : List Nat) : Str := ⟨l.toArray⟩
theorem len_mkS (l : List Nat) : (mkS l).length = l.length := len_tl _
theorem mkS_of {x : Str} {l : List Nat} (h : tl x = l) : x = mkS l := by rw [← h]; exact (mk_tl x).symm
mutual
def tx : Pt → List Nat
  | .way p w => numL p ++ [if w = 1 then 43 else 45]
  | .row ps => 40 :: (joinL [32] (txs ps) ++ [41])
  | .times n p => numL n ++ 42 :: tx p
def txs : List Pt → List (List Nat)
  | [] => []
  | p :: ps => tx p :: txs ps
end
theorem numL_19 {n : Nat} (h : n ≤ 1000000000000000000) : (numL n).length ≤ 19 := numL_len (by decide) (Nat.lt_of_le_of_lt h (by decide))
@[simp] theorem w65a : ¬ ("times" : Str) = "way" := by decide
@[simp] theorem w65b : ¬ ("row" : Str) = "way" := by decide
@[simp] theorem w65c : ¬ ("times" : Str) = "row" := by decide
@[simp] theorem w65d : ¬ ("row" : Str) = "times" := by decide
end W
set_option Elab.async false
set_option linter.all false
set_option maxRecDepth 100000
set_option autoImplicit false
namespace W
open PySem L2 DL TL
variable {S S' : Sto}
def RD (S : Sto) (l : Nat) (T : Str) (a : Nat) : Prop := S[l]? = some (.x (.ins 0 [("row", .str T), ("at", .int (a : Nat))]))
theorem RD.frm {l a : Nat} {T : Str} {fp : List Nat} (x : RD S l T a) (f : Frm fp S S') (h : l ∉ fp) : RD S' l T a := f.get x h
theorem lk_row {x y : D} : List.lookup ("row" : Str) [(("row" : Str), x), (("at" : Str), y)] = some x := rfl
theorem lk_at {x y : D} : List.lookup ("at" : Str) [(("row" : Str), x), (("at" : Str), y)] = some y := by
  have : (("at" : Str) == ("row" : Str)) = false := by decide
  simp [List.lookup, this]
theorem lk_here {x y : D} : List.lookup ("here" : Str) [(("row" : Str), x), (("at" : Str), y)] = none := by
  have h1 : (("here" : Str) == ("row" : Str)) = false := by decide
  have h2 : (("here" : Str) == ("at" : Str)) = false := by decide
  simp [List.lookup, h1, h2]
theorem lk_take {x y : D} : List.lookup ("take" : Str) [(("row" : Str), x), (("at" : Str), y)] = none := by
  have h1 : (("take" : Str) == ("row" : Str)) = false := by decide
  have h2 : (("take" : Str) == ("at" : Str)) = false := by decide
  simp [List.lookup, h1, h2]
theorem put_at {x y z : D} : putA ("at" : Str) z [(("row" : Str), x), (("at" : Str), y)] = [(("row" : Str), x), (("at" : Str), z)] := by
  have h1 : ¬ (("row" : Str) = ("at" : Str)) := by decide
  simp [putA, h1]
def hereS (T : Str) (a : Nat) : Str := match (tl T)[a]? with
  | some c => ⟨#[c]⟩
  | none => ""
theorem here_ok {l a : Nat} {T : Str} (x : RD S l T a) (hz : T.length ≤ 1000000) : F_Reader_here [.ref l] S = some (.str (hereS T a), S) := by
  have e1 := kAtF_ap (f := "at") x lk_at
  have e2 := kAtF_ap (f := "row") x lk_row
  have e3 := cLenT_str (S := S) (z := T) (by omega)
  rw [F_Reader_here, fnRun_ap]
  unfold b_Reader_here hereS
  have lt1 : oLt (.int (a : Nat)) (.int (T.length : Nat)) S = some (.bl (decide (a < T.length)), S) := by
    rw [oLt_int]
    congr 3
    exact decide_eq_decide.mpr (by omega)
  by_cases h : a < T.length
  · have h' : a < (tl T).length := by rw [← len_tl]; exact h
    rw [decide_eq_true h] at lt1
    have ix : oIxT (.str T) (.int (a : Nat)) S = some (.str ⟨#[(tl T)[a]]⟩, S) := by
      rw [oIxT_str (by omega), atI_n]
      show ((tl T)[a]?).map _ = _
      rw [List.getElem?_eq_getElem h']; rfl
    rw [List.getElem?_eq_getElem h']
    simp [e1, e2, e3, lt1, ix]
  · rw [decide_eq_false h] at lt1
    rw [List.getElem?_eq_none (by rw [← len_tl]; omega)]
    simp [e1, e2, e3, lt1]
theorem take_ok {l a : Nat} {T : Str} (x : RD S l T a) (hz : T.length ≤ 1000000) : ∃ S', F_Reader_take [.ref l] S = some (.str (hereS T a), S') ∧ RD S' l T (a + 1) ∧ Frm [l] S S' := by
  have e1 : kMe1 0 "here" F_Reader_here aNil [some (.ref l), none] (.ref l, S) = some (.str (hereS T a), S) := by
    rw [kMe1_ap x lk_here]
    simp [here_ok x hz]
  have e2 : ∀ ρ : En, kAugA1 oAddI 0 "at" (eC (.int 1)) ρ (.ref l, S) = some (.nx, ρ, S.set l (.x (.ins 0 [("row", .str T), ("at", .int ((a + 1 : Nat) : Int))]))) := fun ρ => by
    rw [kAugA1_ap x lk_at]
    simp only [eC_ap, bnd_some, kAugA2_ap, oAddI_int]
    rw [kAugA3_ap x (by simp), put_at]
    rfl
  refine ⟨S.set l (.x (.ins 0 [("row", .str T), ("at", .int ((a + 1 : Nat) : Int))])), ?_, set_get (lt_of x), .set (by simp)⟩
  rw [F_Reader_take, fnRun_ap]
  unfold b_Reader_take
  simp [e1, e2]
end W
set_option Elab.async false
set_option linter.all false
set_option maxRecDepth 100000
set_option autoImplicit false
namespace W
open PySem L2 DL TL
variable {S S' : Sto}
abbrev figD : D := .tup [.str "0", .str "1", .str "2", .str "3", .str "4", .str "5", .str "6", .str "7", .str "8", .str "9"]
def dig (c : Nat) : Bool := decide (48 ≤ c) && decide (c ≤ 57)
theorem one_eq (c k : Nat) : decide ((⟨#[k]⟩ : Str) = ⟨#[c]⟩) = decide (c = k) := by
  apply decide_eq_decide.mpr
  constructor
  · intro h
    have := congrArg (fun s : Str => s.cps.toList) h
    simp at this
    exact this.symm
  · intro h; rw [h]
theorem fig_in {z : Str} {b : Bool} (h : ([("0" : Str), "1", "2", "3", "4", "5", "6", "7", "8", "9"].any fun y => decide (y = z)) = b) : oInA false (.str z) figD S = some (.bl b, S) := by
  show oIn false (.str z) figD S = _
  unfold oIn
  rw [show seqD S figD = some [.str "0", .str "1", .str "2", .str "3", .str "4", .str "5", .str "6", .str "7", .str "8", .str "9"] from rfl, Option.bind_some]
  show (if true = true then some (D.bl (xor false _), S) else none) = _
  rw [if_pos rfl]
  have : ∀ l : List Str, ((l.map D.str).any fun y => eqF y (.str z)) = l.any fun y => decide (y = z) := fun l => by
    induction l with
    | nil => rfl
    | cons y l ih =>
      rw [List.map_cons, List.any_cons, List.any_cons, ih]
      congr 1
  have := this [("0" : Str), "1", "2", "3", "4", "5", "6", "7", "8", "9"]
  rw [h] at this
  rw [show ([D.str "0", .str "1", .str "2", .str "3", .str "4", .str "5", .str "6", .str "7", .str "8", .str "9"].any fun y => eqF y (.str z)) = b from this]
  simp
theorem fig_ch (c : Nat) : oInA false (chD c) figD S = some (.bl (dig c), S) := by
  refine fig_in ?_
  have e : ∀ (s : Str) (k : Nat), s = ⟨#[k]⟩ → decide (s = (⟨#[c]⟩ : Str)) = decide (c = k) := fun s k h => by rw [h]; exact one_eq c k
  simp only [List.any_cons, List.any_nil, e "0" 48 rfl, e "1" 49 rfl, e "2" 50 rfl, e "3" 51 rfl, e "4" 52 rfl, e "5" 53 rfl, e "6" 54 rfl, e "7" 55 rfl, e "8" 56 rfl, e "9" 57 rfl]
  unfold dig
  by_cases h1 : 48 ≤ c <;> by_cases h2 : c ≤ 57 <;> simp [h1, h2] <;> omega
def numIn (l : List Nat) : Int := if 1 ≤ l.length ∧ l.length ≤ 19 ∧ l.all dig = true then ((NumText.digitsVal l : Nat) : Int) else -1
theorem number_in_ok {l : List Nat} (hz : l.length ≤ 1000000) : F_number_in [.str (mkS l)] S = some (.int (numIn l), S) := by
  have e1 := cLenT_str (S := S) (z := mkS l) (by rw [len_mkS]; omega)
  rw [len_mkS] at e1
  have g := allG_t (S := S) (ti := iAnyT (eV 0)) (te := eOp (oInA false) (eV 0) (eC figD)) (ρ := [some (.str (mkS l))]) (f := fun d => match d with | .str z => (match tl z with | [c] => dig c | _ => false) | _ => false) (ds := l.map chD) (iAnyT_str (z := mkS l) rfl) (fun d hd => by
    obtain ⟨c, _, rfl⟩ := List.mem_map.mp hd
    have := fig_ch (S := view S) c
    simp only [eOp_ap, eV_ap, List.getElem?_cons_zero, kV_s, bnd_some, kOp1_ap, eC_ap, kOp2_ap, this]
    rfl)
  have ea : ((l.map chD).all fun d => match d with | .str z => (match tl z with | [c] => dig c | _ => false) | _ => false) = l.all dig := by
    clear g e1 hz
    induction l with
    | nil => rfl
    | cons c l ih => rw [List.map_cons, List.all_cons, List.all_cons, ih]; rfl
  rw [ea] at g
  rw [F_number_in, fnRun_ap]
  unfold b_number_in numIn
  have c1 : oLe (.int 1) (.int (l.length : Nat)) S = some (.bl (decide (1 ≤ l.length)), S) := by
    have : oLe (.int 1) (.int (l.length : Nat)) S = some (.bl (decide ((1 : Int) ≤ (l.length : Int))), S) := rfl
    rw [this]; congr 3; exact decide_eq_decide.mpr (by omega)
  have c2 : oLe (.int (l.length : Nat)) (.int 19) S = some (.bl (decide (l.length ≤ 19)), S) := by
    have : oLe (.int (l.length : Nat)) (.int 19) S = some (.bl (decide ((l.length : Int) ≤ (19 : Int))), S) := rfl
    rw [this]; congr 3; exact decide_eq_decide.mpr (by omega)
  have ch : eChain oLe oLe (eC (.int 1)) (eCB cLenT (aCons (eV 0) aNil)) (eC (.int 19)) [some (.str (mkS l))] S = some (.bl (decide (1 ≤ l.length) && decide (l.length ≤ 19)), S) := by
    by_cases h : 1 ≤ l.length
    · rw [decide_eq_true h] at c1
      simp [e1, c1, c2, h]
    · rw [decide_eq_false h] at c1
      simp [e1, c1, h]
  by_cases h1 : 1 ≤ l.length ∧ l.length ≤ 19
  · have ch' : eChain oLe oLe (eC (.int 1)) (eCB cLenT (aCons (eV 0) aNil)) (eC (.int 19)) [some (.str (mkS l))] S = some (.bl true, S) := by rw [ch, decide_eq_true h1.1, decide_eq_true h1.2]; rfl
    cases h2 : l.all dig with
    | true =>
      rw [h2] at g
      have ad : NumText.AllDigits l := fun c hc => by
        have := List.all_eq_true.mp h2 c hc
        unfold dig at this
        simpa using this
      have it := PySem.intText_digits (x := mkS l) ad (fun z => by rw [show (mkS l).cps.toList = l from rfl] at z; rw [z] at h1; simp at h1) (by rw [len_mkS]; omega)
      have ci := cIntT_str (S := S) it (by rw [len_mkS]; omega)
      rw [show (mkS l).cps.toList = l from rfl] at ci
      rw [if_pos ⟨h1.1, h1.2, rfl⟩]
      simp only [List.map_cons, List.map_nil, List.length_cons, List.length_nil, show List.replicate (1 - (0 + 1)) (none : Option D) = [] from rfl, List.cons_append, List.nil_append, sSeq_ap, sIf_ap, bOr_ap, bNot_ap, bT_ap, ch', bnd_some, kT_ap, kBnot_ap, Bool.not_true, kBor_f, bTru_ap, g, kTru_bl, kSif_f, sNil_ap, kSeq_n, sRt_ap, eCB_ap, aCons_ap, eV_ap, kA1_ap, aNil_ap, kA2_ap, kCB_ap, List.cons_append, List.nil_append, List.getElem?_cons_zero, kV_s, ci, kRt_ap, kFn_r]
    | false =>
      rw [h2] at g
      rw [if_neg (by simp)]
      simp only [List.map_cons, List.map_nil, List.length_cons, List.length_nil, sSeq_ap, sIf_ap, bOr_ap, bNot_ap, bT_ap, bnd_some, kT_ap, kBnot_ap, Bool.not_true, Bool.not_false, kBor_f, bTru_ap, kTru_bl, kSif_t, kSeq_r, sRt_ap, List.cons_append, List.nil_append, show List.replicate (1 - (0 + 1)) (none : Option D) = [] from rfl, ch', g, eNeg_ap, eC_ap, kNeg_ap, kRt_ap, kFn_r]
  · have ch' : eChain oLe oLe (eC (.int 1)) (eCB cLenT (aCons (eV 0) aNil)) (eC (.int 19)) [some (.str (mkS l))] S = some (.bl false, S) := by
      rw [ch]
      congr 3
      by_cases h : 1 ≤ l.length
      · have : ¬ l.length ≤ 19 := fun z => h1 ⟨h, z⟩
        simp [this]
      · simp [h]
    rw [if_neg (fun z => h1 ⟨z.1, z.2.1⟩)]
    simp only [List.map_cons, List.map_nil, List.length_cons, List.length_nil, sSeq_ap, sIf_ap, bOr_ap, bNot_ap, bT_ap, bnd_some, kT_ap, kBnot_ap, Bool.not_false, kBor_t, kSif_t, kSeq_r, sRt_ap, List.cons_append, List.nil_append, show List.replicate (1 - (0 + 1)) (none : Option D) = [] from rfl, ch', eNeg_ap, eC_ap, kNeg_ap, kRt_ap, kFn_r]
theorem numIn_num {n : Nat} (h : n ≤ 1000000000000000000) : numIn (numL n) = (n : Int) := by
  have h1 : 1 ≤ (numL n).length := by
    have := numL_ne n
    cases hn : numL n with
    | nil => exact absurd hn this
    | cons _ _ => simp
  have h2 : (numL n).all dig = true := List.all_eq_true.mpr fun c hc => by
    have := numL_digits n c hc
    unfold dig; simp [this.1, this.2]
  unfold numIn
  rw [if_pos ⟨h1, numL_19 h, h2⟩, numL_val]
end W
set_option Elab.async false
set_option linter.all false
set_option maxRecDepth 100000
set_option autoImplicit false
namespace W
open PySem L2 DL TL
variable {S S' : Sto}
theorem here_c {T : Str} {a c : Nat} {r : List Nat} (h : (tl T).drop a = c :: r) : hereS T a = ⟨#[c]⟩ ∧ (tl T).drop (a + 1) = r := by
  have e : (tl T)[a]? = some c := by
    have := congrArg (fun x => x[0]?) h
    simpa using this
  refine ⟨by unfold hereS; rw [e], ?_⟩
  have := congrArg (fun x => x.drop 1) h
  simpa using this
theorem drop_app {T : Str} {a : Nat} {x r : List Nat} (h : (tl T).drop a = x ++ r) : (tl T).drop (a + x.length) = r := by
  have := congrArg (fun y => y.drop x.length) h
  simpa [List.drop_drop] using this
abbrev whC : Tv := bT (eOp (oInA false) (eMe 0 "here" F_Reader_here (eV 0) aNil) (eC figD))
abbrev wfB : Sv := sEx (eM mAppend (eV 2) (aCons (eMe 0 "take" F_Reader_take (eV 0) aNil) aNil))
theorem me_here {l a : Nat} {T : Str} {ρ : En} (x : RD S l T a) (hz : T.length ≤ 1000000) (h0 : ρ[0]? = some (some (.ref l))) : eMe 0 "here" F_Reader_here (eV 0) aNil ρ S = some (.str (hereS T a), S) := by
  have e : eV 0 ρ S = some (.ref l, S) := by unfold eV; rw [h0]
  simp only [eMe_ap, e, bnd_some, kMe1_ap x lk_here, aNil_ap, kMe2_ap, here_ok x hz]
theorem me_take {l a : Nat} {T : Str} {ρ : En} (x : RD S l T a) (hz : T.length ≤ 1000000) (h0 : ρ[0]? = some (some (.ref l))) : ∃ S', eMe 0 "take" F_Reader_take (eV 0) aNil ρ S = some (.str (hereS T a), S') ∧ RD S' l T (a + 1) ∧ Frm [l] S S' := by
  have e : eV 0 ρ S = some (.ref l, S) := by unfold eV; rw [h0]
  obtain ⟨S', e1, x1, f1⟩ := take_ok x hz
  exact ⟨S', by simp only [eMe_ap, e, bnd_some, kMe1_ap x lk_take, aNil_ap, kMe2_ap, e1], x1, f1⟩
theorem figs_run {l F c : Nat} {T : Str} {rest : List Nat} {v1 v3 v4 : Option D} (hz : T.length ≤ 1000000) (hc : dig c = false) (hF : F ≠ l) : ∀ (ds : List Nat) (S : Sto) (a n : Nat) (acc : List Nat), ds.all dig = true → ds.length < n → acc.length + ds.length ≤ 1000000 → (tl T).drop a = ds ++ c :: rest → RD S l T a → S[F]? = some (.lst (acc.map chD)) →
    ∃ S', whRun whC wfB n [some (.ref l), v1, some (.ref F), v3, v4] S = some (.nx, [some (.ref l), v1, some (.ref F), v3, v4], S') ∧ RD S' l T (a + ds.length) ∧ S'[F]? = some (.lst ((acc ++ ds).map chD)) ∧ Frm [l, F] S S'
  | [], S, a, 0, acc, _, hn, _, _, _, _ => absurd hn (Nat.lt_irrefl _)
  | _ :: _, S, a, 0, acc, _, hn, _, _, _, _ => absurd hn (Nat.not_lt_zero _)
  | [], S, a, n + 1, acc, _, _, _, hd, x, hL => by
    obtain ⟨e1, _⟩ := here_c hd
    have h1 := me_here (ρ := [some (.ref l), v1, some (.ref F), v3, v4]) x hz rfl
    rw [e1] at h1
    have h2 := fig_ch (S := S) c
    rw [hc] at h2
    have ec : whC [some (.ref l), v1, some (.ref F), v3, v4] S = some (false, S) := by
      simp only [whC, bT_ap, eOp_ap, h1, bnd_some, kOp1_ap, eC_ap, kOp2_ap]
      rw [show D.str ⟨#[c]⟩ = chD c from rfl, h2]; rfl
    refine ⟨S, ?_, by simpa using x, by simpa using hL, .refl⟩
    show (Option.bind _ _) = _
    rw [ec]; rfl
  | d :: ds, S, a, n + 1, acc, ha, hn, hl, hd, x, hL => by
    rw [List.all_cons, Bool.and_eq_true] at ha
    obtain ⟨e1, hd2⟩ := here_c hd
    have h1 := me_here (ρ := [some (.ref l), v1, some (.ref F), v3, v4]) x hz rfl
    rw [e1] at h1
    have h2 := fig_ch (S := S) d
    rw [ha.1] at h2
    have ec : whC [some (.ref l), v1, some (.ref F), v3, v4] S = some (true, S) := by
      simp only [whC, bT_ap, eOp_ap, h1, bnd_some, kOp1_ap, eC_ap, kOp2_ap]
      rw [show D.str ⟨#[d]⟩ = chD d from rfl, h2]; rfl
    obtain ⟨S1, h3, x1, f1⟩ := me_take (ρ := [some (.ref l), v1, some (.ref F), v3, v4]) x hz rfl
    rw [e1] at h3
    have L1 := f1.get hL (by simpa using hF)
    have ap := append_l (d := chD d) (wrL_lst L1) (by simp at hl ⊢; omega)
    have eb : wfB [some (.ref l), v1, some (.ref F), v3, v4] S = some (.nx, [some (.ref l), v1, some (.ref F), v3, v4], S1.set F (.lst ((acc ++ [d]).map chD))) := by
      simp only [wfB, sEx_ap, eM_ap, eV_ap, List.getElem?_cons_succ, List.getElem?_cons_zero, kV_s, bnd_some, kM1_ap (rdL_lst hL), aCons_ap, h3, kA1_ap, aNil_ap, kA2_ap, kM2_ap]
      rw [show D.str ⟨#[d]⟩ = chD d from rfl, ap, bnd_some, kEx_ap, List.map_append]; rfl
    have f2 : Frm [l, F] S (S1.set F (.lst ((acc ++ [d]).map chD))) := (f1.mono (by simp)).trans (.set (by simp))
    have x2 : RD (S1.set F (.lst ((acc ++ [d]).map chD))) l T (a + 1) := x1.frm (Frm.set (fp := [F]) (by simp)) (by simpa using fun z => hF z.symm)
    obtain ⟨S', e4, x4, l4, f4⟩ := figs_run (v1 := v1) (v3 := v3) (v4 := v4) hz hc hF ds _ (a + 1) n (acc ++ [d]) ha.2 (by simp at hn; omega) (by simp at hl ⊢; omega) hd2 x2 (set_get (lt_of L1))
    refine ⟨S', ?_, by rw [List.length_cons, show a + (ds.length + 1) = a + 1 + ds.length by omega]; exact x4, by rw [l4]; simp, f2.trans f4⟩
    show (Option.bind _ _) = _
    rw [ec, Option.bind_some]
    show (if true = true then (wfB _ S).bind _ else _) = _
    rw [if_pos rfl, eb]
    exact e4
theorem first_c : ∀ p : Pt, ∃ c r, tx p = c :: r ∧ (dig c = true ∨ c = 40)
  | .way p w => by
    have := numL_ne p
    cases hn : numL p with
    | nil => exact absurd hn this
    | cons c r => exact ⟨c, _, by rw [tx, hn]; rfl, .inl (by
        have := numL_digits p c (by rw [hn]; simp)
        unfold dig; simp [this.1, this.2])⟩
  | .times n p => by
    have := numL_ne n
    cases hn : numL n with
    | nil => exact absurd hn this
    | cons c r => exact ⟨c, _, by rw [tx, hn]; rfl, .inl (by
        have := numL_digits n c (by rw [hn]; simp)
        unfold dig; simp [this.1, this.2])⟩
  | .row ps => ⟨40, _, by rw [tx], .inr rfl⟩
def tailT (first : Bool) (qs : List Pt) : List Nat := if qs = [] then [] else (if first then [] else [32]) ++ joinL [32] (txs qs)
theorem tailT_cons {first : Bool} {q : Pt} {qs : List Pt} : tailT first (q :: qs) = (if first then [] else [32]) ++ (tx q ++ tailT false qs) := by
  unfold tailT
  rw [if_neg (by simp)]
  congr 1
  cases qs with
  | nil => simp [txs, joinL]
  | cons q2 qs => simp [txs, joinL]
theorem ne_ch {c k : Nat} {s : Str} (hs : s = ⟨#[k]⟩) (h : c ≠ k) : oNe (chD c) (.str s) S = some (.bl true, S) := by
  unfold chD
  rw [oNe_str, hs, one_eq k c, decide_eq_false (fun z => h z.symm)]; rfl
theorem ne_same {k : Nat} {s : Str} (hs : s = ⟨#[k]⟩) : oNe (chD k) (.str s) S = some (.bl false, S) := by
  unfold chD
  rw [oNe_str, hs, decide_eq_true rfl]; rfl
theorem eq_ch {c k : Nat} {s : Str} (hs : s = ⟨#[k]⟩) : oEq (chD c) (.str s) S = some (.bl (decide (c = k)), S) := by
  unfold chD
  rw [oEq_str, hs, one_eq k c]
  congr 3
  exact decide_eq_decide.mpr ⟨fun h => h.symm, fun h => h.symm⟩
abbrev rwC : Tv := bT (eOp oNe (eMe 0 "here" F_Reader_here (eV 0) aNil) (eC (.str ")")))
abbrev rwB (X : Fv) : Sv := (sSeq (sIf (bT (eOp oGt (eCB cLen (aCons (eV 2) aNil)) (eC (.int 0)))) (sEx (eMe 0 "take" F_Reader_take (eV 0) aNil)) sNil)
    (sEx (eM mAppend (eV 2) (aCons (eCall X (aCons (eV 0) (aCons (eOp oSub (eV 1) (eC (.int 1))) aNil))) aNil))))
def Reads1 (X : Fv) (l : Nat) (T : Str) (k : Nat) : Prop := ∀ (p : Pt) (room a : Nat) (S : Sto) (rest : List Nat), p.Ok → p.deep ≤ room → 2 * p.deep ≤ k → RD S l T a → (tl T).drop a = tx p ++ rest → Ok (X [.ref l, .int (room : Nat)] S) fun d S' => d = p.toD ∧ RD S' l T (a + (tx p).length) ∧ Frm [l] S S'
theorem row_run {X : Fv} {l F k room : Nat} {T : Str} {rest : List Nat} (hz : T.length ≤ 1000000) (hX : Reads1 X l T k) (hF : F ≠ l) (hr : 1 ≤ room) : ∀ (qs : List Pt) (first : Bool) (S : Sto) (a n : Nat) (acc : List D), Pt.Oks qs → Pt.deeps qs ≤ room - 1 → 2 * Pt.deeps qs ≤ k → qs.length < n → acc.length + qs.length ≤ 1000000 → (first = true ↔ acc = []) → (tl T).drop a = tailT first qs ++ 41 :: rest → RD S l T a → S[F]? = some (.lst acc) → F < S.length →
    ∃ S', whRun rwC (rwB X) n [some (.ref l), some (.int (room : Nat)), some (.ref F)] S = some (.nx, [some (.ref l), some (.int (room : Nat)), some (.ref F)], S') ∧ RD S' l T (a + (tailT first qs).length) ∧ S'[F]? = some (.lst (acc ++ Pt.toDs qs)) ∧ Frm [l, F] S S'
  | [], first, S, a, 0, acc, _, _, _, hn, _, _, _, _, _, _ => absurd hn (Nat.lt_irrefl _)
  | _ :: _, first, S, a, 0, acc, _, _, _, hn, _, _, _, _, _, _ => absurd hn (Nat.not_lt_zero _)
  | [], first, S, a, n + 1, acc, _, _, _, _, _, _, hd, x, hL, _ => by
    have hd : (tl T).drop a = 41 :: rest := hd
    obtain ⟨e1, _⟩ := here_c hd
    have h1 := me_here (ρ := [some (.ref l), some (.int (room : Nat)), some (.ref F)]) x hz rfl
    rw [e1] at h1
    have ec : rwC [some (.ref l), some (.int (room : Nat)), some (.ref F)] S = some (false, S) := by
      simp only [rwC, bT_ap, eOp_ap, h1, bnd_some, kOp1_ap, eC_ap, kOp2_ap]
      rw [show D.str ⟨#[41]⟩ = chD 41 from rfl, ne_same (S := S) (k := 41) (s := ")") rfl]; rfl
    refine ⟨S, ?_, by simpa [tailT] using x, by simpa [Pt.toDs] using hL, .refl⟩
    show (Option.bind _ _) = _
    rw [ec]; rfl
  | q :: qs, first, S, a, n + 1, acc, ok, hdp, hk, hn, hl, hf, hd, x, hL, hlt => by
    rw [tailT_cons] at hd
    have dq : q.deep ≤ room - 1 ∧ Pt.deeps qs ≤ room - 1 := by rw [Pt.deeps] at hdp; omega
    have dk : 2 * q.deep ≤ k ∧ 2 * Pt.deeps qs ≤ k := by rw [Pt.deeps] at hk; omega
    obtain ⟨c, r, hc, hcd⟩ := first_c q
    have h1 := me_here (ρ := [some (.ref l), some (.int (room : Nat)), some (.ref F)]) x hz rfl
    have ec : rwC [some (.ref l), some (.int (room : Nat)), some (.ref F)] S = some (true, S) := by
      have e1 : ∃ c0, hereS T a = ⟨#[c0]⟩ ∧ c0 ≠ 41 := by
        cases first with
        | true =>
          rw [if_pos rfl, List.nil_append, hc] at hd
          refine ⟨c, (here_c hd).1, fun z => ?_⟩
          subst z
          rcases hcd with h | h
          · exact absurd h (by decide)
          · omega
        | false =>
          rw [if_neg (by simp)] at hd
          exact ⟨32, (here_c hd).1, by decide⟩
      obtain ⟨c0, e1, e2⟩ := e1
      rw [e1] at h1
      simp only [rwC, bT_ap, eOp_ap, h1, bnd_some, kOp1_ap, eC_ap, kOp2_ap]
      rw [show D.str ⟨#[c0]⟩ = chD c0 from rfl, ne_ch (S := S) (k := 41) (s := ")") rfl e2]; rfl
    -- the blank
    have blank : ∃ S1, sIf (bT (eOp oGt (eCB cLen (aCons (eV 2) aNil)) (eC (.int 0)))) (sEx (eMe 0 "take" F_Reader_take (eV 0) aNil)) sNil [some (.ref l), some (.int (room : Nat)), some (.ref F)] S = some (.nx, [some (.ref l), some (.int (room : Nat)), some (.ref F)], S1) ∧ RD S1 l T (a + (if first then ([] : List Nat) else [32]).length) ∧ Frm [l] S S1 := by
      have gt : oGt (.int (acc.length : Nat)) (.int 0) S = some (.bl (decide (0 < acc.length)), S) := by
        have : oGt (.int (acc.length : Nat)) (.int 0) S = some (.bl (decide ((0 : Int) < (acc.length : Int))), S) := rfl
        rw [this]; congr 3; exact decide_eq_decide.mpr (by omega)
      cases first with
      | true =>
        have z0 := hf.mp rfl
        have z1 : ¬ (0 < acc.length) := by rw [z0]; exact Nat.lt_irrefl _
        rw [decide_eq_false z1] at gt
        refine ⟨S, ?_, by simpa using x, .refl⟩
        simp only [sIf_ap, bT_ap, eOp_ap, eCB_ap, aCons_ap, eV_ap, List.getElem?_cons_succ, List.getElem?_cons_zero, kV_s, bnd_some, kA1_ap, aNil_ap, kA2_ap, kCB_ap, cLen_ref (rdL_lst hL), kOp1_ap, eC_ap, kOp2_ap, gt, kT_ap, kSif_f, sNil_ap]
      | false =>
        have ne : acc ≠ [] := fun z => by have := hf.mpr z; simp at this
        have pos : 0 < acc.length := List.length_pos_iff.mpr ne
        rw [decide_eq_true pos] at gt
        obtain ⟨S1, h3, x1, f1⟩ := me_take (ρ := [some (.ref l), some (.int (room : Nat)), some (.ref F)]) x hz rfl
        refine ⟨S1, ?_, by simpa using x1, f1⟩
        simp only [sIf_ap, bT_ap, eOp_ap, eCB_ap, aCons_ap, eV_ap, List.getElem?_cons_succ, List.getElem?_cons_zero, kV_s, bnd_some, kA1_ap, aNil_ap, kA2_ap, kCB_ap, cLen_ref (rdL_lst hL), kOp1_ap, eC_ap, kOp2_ap, gt, kT_ap, kSif_t, sEx_ap, h3, kEx_ap]
    obtain ⟨S1, eb, x1, f1⟩ := blank
    have hd1 := drop_app hd
    rw [List.append_assoc] at hd
    have hd1 : (tl T).drop (a + (if first then ([] : List Nat) else [32]).length) = tx q ++ (tailT false qs ++ 41 :: rest) := by
      have := drop_app hd
      rw [this, List.append_assoc]
    obtain ⟨d, S2, e2, rfl, x2, f2⟩ := hX q (room - 1) _ S1 _ ok.1 dq.1 dk.1 x1 hd1
    have L2 := f2.get (f1.get hL (by simpa using hF)) (by simpa using hF)
    have ap := append_l (d := q.toD) (wrL_lst L2) (by simp at hl; omega)
    have sb : oSub (.int (room : Nat)) (.int 1) S1 = some (.int ((room - 1 : Nat) : Int), S1) := by
      have : oSub (.int (room : Nat)) (.int 1) S1 = some (.int ((room : Int) - 1), S1) := rfl
      rw [this, show (room : Int) - 1 = ((room - 1 : Nat) : Int) by omega]
    have L1 := f1.get hL (by simpa using hF)
    have ebody : rwB X [some (.ref l), some (.int (room : Nat)), some (.ref F)] S = some (.nx, [some (.ref l), some (.int (room : Nat)), some (.ref F)], S2.set F (.lst (acc ++ [q.toD]))) := by
      rw [rwB, sSeq_ap, eb]
      simp only [bnd_some, kSeq_n, sEx_ap, eM_ap, eV_ap, List.getElem?_cons_succ, List.getElem?_cons_zero, kV_s, kM1_ap (rdL_lst L1), aCons_ap, eCall_ap, eOp_ap, kOp1_ap, eC_ap, kOp2_ap, sb, kA1_ap, aNil_ap, kA2_ap, kCB_ap, e2, kM2_ap, ap, kEx_ap]
    have f3 : Frm [l, F] S (S2.set F (.lst (acc ++ [q.toD]))) := ((f1.trans f2).mono (by simp)).trans (.set (by simp))
    have x3 : RD (S2.set F (.lst (acc ++ [q.toD]))) l T (a + (if first then ([] : List Nat) else [32]).length + (tx q).length) := x2.frm (Frm.set (fp := [F]) (by simp)) (by simpa using fun z => hF z.symm)
    obtain ⟨S', e4, x4, l4, f4⟩ := row_run hz hX hF hr qs false _ _ n (acc ++ [q.toD]) ok.2 dq.2 dk.2 (by simp at hn; omega) (by simp at hl ⊢; omega) (by simp) (drop_app hd1) x3 (set_get (lt_of L2)) (by rw [List.length_set]; exact lt_of L2)
    refine ⟨S', ?_, ?_, by rw [l4, Pt.toDs]; simp, f3.trans f4⟩
    · show (Option.bind _ _) = _
      rw [ec, Option.bind_some]
      show (if true = true then (rwB X _ S).bind _ else _) = _
      rw [if_pos rfl, ebody]
      exact e4
    · rw [tailT_cons, List.length_append, List.length_append]
      rw [show a + ((if first = true then ([] : List Nat) else [32]).length + ((tx q).length + (tailT false qs).length)) = a + (if first = true then ([] : List Nat) else [32]).length + (tx q).length + (tailT false qs).length by omega]
      exact x4
end W
set_option Elab.async false
set_option linter.all false
set_option maxRecDepth 100000
set_option autoImplicit false
namespace W
open PySem L2 DL TL
variable {S S' : Sto}
theorem num_dig (n : Nat) : (numL n).all dig = true := List.all_eq_true.mpr fun c hc => by
  have := numL_digits n c hc
  unfold dig; simp [this.1, this.2]
theorem join_figs {l : Nat} {cs : List Nat} (h : S[l]? = some (.lst (cs.map chD))) (hz : cs.length ≤ 1000000) : kJn2 ("" : Str) (.ref l, S) = some (.str (mkS cs), S) := by
  have e : cs.map chD = (cs.map fun c => (⟨#[c]⟩ : Str)).map D.str := by rw [List.map_map]; rfl
  have hl : ∀ cs : List Nat, ((cs.map fun c => (⟨#[c]⟩ : Str)).map fun (y : Str) => y.length).sum = cs.length := fun cs => by
    induction cs with
    | nil => rfl
    | cons c cs ih => rw [List.map_cons, List.map_cons, List.sum_cons, ih, List.length_cons, show (⟨#[c]⟩ : Str).length = 1 from rfl]; omega
  rw [kJn2_ap (a := ("" : Str)) (ys := cs.map fun c => (⟨#[c]⟩ : Str)) (rdL_lst (by rw [h, e])) (by rw [hl, show ("" : Str).length = 0 from rfl]; omega)]
  have : Txt.join ("" : Str) (cs.map fun c => (⟨#[c]⟩ : Str)) = mkS cs := mkS_of (by
    rw [join_eq, tl_join, List.map_map, show tl ("" : Str) = [] from rfl]
    clear h hz e hl
    induction cs with
    | nil => rfl
    | cons c cs ih =>
      cases cs with
      | nil => rfl
      | cons d cs =>
        rw [List.map_cons, List.map_cons, joinL]
        rw [List.map_cons] at ih
        rw [ih]; rfl)
  rw [this]
theorem lt_turns {n : Nat} (h : n < 1000000) : n < turns := h
theorem me_hereB {l a c : Nat} {T : Str} {r : List Nat} {ρ : En} (x : RD S l T a) (hz : T.length ≤ 1000000) (hd : (tl T).drop a = c :: r) (h0 : ρ[0]? = some (some (.ref l))) : eMe 0 "here" F_Reader_here (eV 0) aNil ρ S = some (chD c, S) := by
  rw [me_here x hz h0, (here_c hd).1]; rfl
theorem me_takeB {l a c : Nat} {T : Str} {r : List Nat} {ρ : En} (x : RD S l T a) (hz : T.length ≤ 1000000) (hd : (tl T).drop a = c :: r) (h0 : ρ[0]? = some (some (.ref l))) : ∃ S', eMe 0 "take" F_Reader_take (eV 0) aNil ρ S = some (chD c, S') ∧ RD S' l T (a + 1) ∧ Frm [l] S S' := by
  obtain ⟨S', e, h⟩ := me_take x hz h0
  rw [(here_c hd).1] at e
  exact ⟨S', e, h⟩
theorem gsNo {n : Nat} : oLt (.int (n : Nat)) (.int 1) S = some (.bl (decide (n < 1)), S) := by
  have : oLt (.int (n : Nat)) (.int 1) S = some (.bl (decide ((n : Int) < 1)), S) := rfl
  rw [this]; congr 3; exact decide_eq_decide.mpr (by omega)
theorem sub1 {room : Nat} (hr : 1 ≤ room) : oSub (.int (room : Nat)) (.int 1) S = some (.int ((room - 1 : Nat) : Int), S) := by
  have : oSub (.int (room : Nat)) (.int 1) S = some (.int ((room : Int) - 1), S) := rfl
  rw [this, show (room : Int) - 1 = ((room - 1 : Nat) : Int) by omega]
theorem figures {l room a n c : Nat} {T : Str} {rest : List Nat} (hz : T.length ≤ 1000000) (hn : n ≤ 1000000000000000000) (hc : dig c = false) (x : RD S l T a) (hd : (tl T).drop a = numL n ++ c :: rest) :
    ∃ S', whRun whC wfB turns [some (.ref l), some (.int (room : Nat)), some (.ref S.length), none, none] (S ++ [.lst []]) = some (.nx, [some (.ref l), some (.int (room : Nat)), some (.ref S.length), none, none], S') ∧ RD S' l T (a + (numL n).length) ∧ S'[S.length]? = some (.lst ((numL n).map chD)) ∧ Frm [l] S S' := by
  have ll := lt_of x
  have := numL_19 hn
  obtain ⟨S', e, x', h, f⟩ := figs_run (F := S.length) (l := l) (T := T) (v1 := some (.int (room : Nat))) (v3 := none) (v4 := none) hz hc (by omega) (numL n) (S ++ [.lst []]) a turns [] (num_dig n) (lt_turns (by omega)) (by simp; omega) hd (x.frm (Frm.app (fp := []) _) (by simp)) new_get
  exact ⟨S', e, x', h, Frm.drop (Frm.app (fp := [l]) [.lst []]) f fun i hi => by
    rcases List.mem_cons.mp hi with rfl | hi
    · exact .inl (by simp)
    · rcases List.mem_cons.mp hi with rfl | hi
      · exact .inr (Nat.le_refl _)
      · simp at hi⟩
theorem in_sign {s : Str} (h : s = "+" ∨ s = "-") : oInA true (.str s) (.tup [.str "+", .str "-"]) S = some (.bl false, S) := by
  rcases h with rfl | rfl <;> rfl
abbrev rdX (k : Nat) : Fv := (R_pattern_from k).1
abbrev rowX (k : Nat) : Fv := (R_pattern_from k).2
theorem reads_num {l k room a n c : Nat} {T : Str} {rest : List Nat} (hz : T.length ≤ 1000000) (hn : n ≤ 1000000000000000000) (hc : dig c = false) (hr : 1 ≤ room) (x : RD S l T a) (hd : (tl T).drop a = numL n ++ c :: rest) {Q : D → Sto → Prop}
    (post : ∀ S1 F, RD S1 l T (a + (numL n).length + 1) → Frm [l] S S1 → Ok (bnd ((sSeq (sIf (bT (eOp oEq (eV 4) (eC (.str "*")))) (sRt (eTup (aCons (eC (.str "times")) (aCons (eV 3) (aCons (eCall (rdX k) (aCons (eV 0) (aCons (eOp oSub (eV 1) (eC (.int 1))) aNil))) aNil))))) sNil)
    (sSeq (sIf (bT (eOp (oInA true) (eV 4) (eTup (aCons (eC (.str "+")) (aCons (eC (.str "-")) aNil))))) sNo sNil)
    (sRt (eTup (aCons (eC (.str "way")) (aCons (eV 3) (aCons (eIf (bT (eOp oEq (eV 4) (eC (.str "+")))) (eC (.int 1)) (eC (.int 0))) aNil))))))) [some (.ref l), some (.int (room : Nat)), some (.ref F), some (.int (n : Nat)), some (chD c)] S1) kFn) Q) :
    Ok (rdX (k + 1) [.ref l, .int (room : Nat)] S) Q := by
  obtain ⟨d0, r0, hn0, hd0⟩ : ∃ d0 r0, numL n = d0 :: r0 ∧ dig d0 = true := by
    have := numL_ne n
    cases h : numL n with
    | nil => exact absurd h this
    | cons d r => exact ⟨d, r, rfl, by have := num_dig n; rw [h] at this; simpa using (by simpa using this : dig d = true ∧ _).1⟩
  have hh := me_hereB (ρ := [some (.ref l), some (.int (room : Nat)), none, none, none]) x hz (by rw [hd, hn0]; rfl : (tl T).drop a = d0 :: (r0 ++ c :: rest)) rfl
  have ne40 : ¬ d0 = 40 := fun z => by subst z; exact absurd hd0 (by decide)
  have e40 : oEq (chD d0) (.str "(") S = some (.bl false, S) := by rw [eq_ch (k := 40) (s := "(") rfl, decide_eq_false ne40]
  have hlt : oLt (.int (room : Nat)) (.int 1) S = some (.bl false, S) := by rw [gsNo, decide_eq_false (by omega)]
  obtain ⟨S1, e1, x1, L1, f1⟩ := figures (room := room) hz hn hc x hd
  have l19 := numL_19 hn
  have ej := join_figs L1 (by omega)
  have en := number_in_ok (S := S1) (l := numL n) (by omega)
  rw [numIn_num hn] at en
  obtain ⟨S2, e2, x2, f2⟩ := me_takeB (ρ := [some (.ref l), some (.int (room : Nat)), some (.ref S.length), some (.int (n : Nat)), none]) x1 hz (drop_app hd) rfl
  have := post S2 S.length x2 (f1.trans f2)
  show Ok (fnRun 5 (b_pattern_from (rdX k) (rowX k)) _ _) Q
  rw [fnRun_ap]
  unfold b_pattern_from
  simp only [List.map_cons, List.map_nil, List.length_cons, List.length_nil, show List.replicate (5 - (0 + 1 + 1)) (none : Option D) = [none, none, none] from rfl, List.cons_append, List.nil_append, sSeq_ap, sIf_ap, bT_ap, eOp_ap, eV_ap, eC_ap, List.getElem?_cons_succ, List.getElem?_cons_zero, kV_s, bnd_some, kOp1_ap, kOp2_ap, hlt, kT_ap, kSif_f, sNil_ap, kSeq_n, hh, e40, sAs_ap, eLst_ap, aNil_ap, kLst_0, kAs1_ap, gN_ap, List.set_cons_succ, List.set_cons_zero, kAs2_ap, sWh_ap, e1, eCall_ap, aCons_ap, eJn_ap, kJn1_ap, ej, kA1_ap, kA2_ap, kCB_ap, en, e2]
  exact this
theorem tx_row (ps : List Pt) : tx (.row ps) = 40 :: (tailT true ps ++ [41]) := by
  rw [tx]
  unfold tailT
  cases ps with
  | nil => rfl
  | cons p ps => rw [if_neg (by simp), if_pos rfl]; rfl
theorem reads {l : Nat} {T : Str} (hz : T.length ≤ 1000000) : ∀ k : Nat, Reads1 (rdX k) l T k
  | 0 => fun p room a S rest ok hd hk x ht => by have := p.deep_pos; omega
  | 1 => fun p room a S rest ok hd hk x ht => by have := p.deep_pos; omega
  | k + 2 => fun p room a S rest ok hd hk x ht => by
    have hr : 1 ≤ room := by have := p.deep_pos; omega
    have hlt : oLt (.int (room : Nat)) (.int 1) S = some (.bl false, S) := by rw [gsNo, decide_eq_false (by omega)]
    cases p with
    | way n w =>
      have hn : n ≤ 1000000000000000000 := by have := ok.1; omega
      have hw : w ≤ 1 := ok.2
      rw [tx, List.append_assoc] at ht
      have hcd : dig (if w = 1 then 43 else 45) = false := by split <;> rfl
      refine reads_num (k := k + 1) hz hn hcd hr x ht fun S1 F x1 f1 => ?_
      have post : RD S1 l T (a + (tx (Pt.way n w)).length) := by
        rw [tx, List.length_append]; exact x1
      rcases (show w = 0 ∨ w = 1 by omega) with rfl | rfl
      · have e1 : oEq (chD 45) (.str "*") S1 = some (.bl false, S1) := by rw [eq_ch (k := 42) (s := "*") rfl]; rfl
        have e2 : oInA true (chD 45) (.tup [.str "+", .str "-"]) S1 = some (.bl false, S1) := in_sign (s := "-") (.inr rfl)
        have e3 : oEq (chD 45) (.str "+") S1 = some (.bl false, S1) := by rw [eq_ch (k := 43) (s := "+") rfl]; rfl
        have z : (if (0 : Nat) = 1 then (43 : Nat) else 45) = 45 := rfl
        rw [z]
        simp [e1, e2, e3]
        exact ⟨rfl, post, f1⟩
      · have e1 : oEq (chD 43) (.str "*") S1 = some (.bl false, S1) := by rw [eq_ch (k := 42) (s := "*") rfl]; rfl
        have e2 : oInA true (chD 43) (.tup [.str "+", .str "-"]) S1 = some (.bl false, S1) := in_sign (s := "+") (.inl rfl)
        have e3 : oEq (chD 43) (.str "+") S1 = some (.bl true, S1) := by rw [eq_ch (k := 43) (s := "+") rfl]; rfl
        have z : (if (1 : Nat) = 1 then (43 : Nat) else 45) = 43 := rfl
        rw [z]
        simp [e1, e2, e3]
        exact ⟨rfl, post, f1⟩
    | times n q =>
      have hn : n ≤ 1000000000000000000 := ok.1
      simp only [Pt.deep] at hd hk
      rw [tx, List.append_assoc] at ht
      refine reads_num (k := k + 1) hz hn (by rfl : dig 42 = false) hr x ht fun S1 F x1 f1 => ?_
      have e1 : oEq (chD 42) (.str "*") S1 = some (.bl true, S1) := by rw [eq_ch (k := 42) (s := "*") rfl]; rfl
      have hdr : (tl T).drop (a + (numL n).length + 1) = tx q ++ rest := by
        have := drop_app ht
        exact (here_c this).2
      obtain ⟨d, S2, e2, rfl, x2, f2⟩ := reads hz (k + 1) q (room - 1) _ S1 rest ok.2 (by omega) (by omega) x1 hdr
      simp [e1, sub1 hr, e2]
      exact ⟨rfl, by rw [tx, List.length_append, List.length_cons]; rw [show a + ((numL n).length + ((tx q).length + 1)) = a + (numL n).length + 1 + (tx q).length by omega]; exact x2, f1.trans f2⟩
    | row ps =>
      simp only [Pt.deep] at hd hk
      have hps : ps.length ≤ 1000 := ok.1
      rw [tx_row, List.cons_append, List.append_assoc] at ht
      have hh := me_hereB (ρ := [some (.ref l), some (.int (room : Nat)), none, none, none]) x hz ht rfl
      have e40 : oEq (chD 40) (.str "(") S = some (.bl true, S) := by rw [eq_ch (k := 40) (s := "(") rfl]; rfl
      -- the row
      obtain ⟨S1, e1, x1, f1⟩ := me_takeB (ρ := [some (.ref l), some (.int (room : Nat)), none]) x hz ht rfl
      have ht1 : (tl T).drop (a + 1) = tailT true ps ++ 41 :: rest := (here_c ht).2
      have ll := lt_of x1
      obtain ⟨S2, e2, x2, L2, f2⟩ := row_run (X := rdX k) (F := S1.length) (S := S1 ++ [.lst []]) hz (reads hz k) (by omega) hr ps true (a + 1) turns [] ok.2 (by omega) (by omega) (lt_turns (by omega)) (by simp; omega) (by simp) ht1 (x1.frm (Frm.app (fp := []) _) (by simp)) new_get (by simp)
      rw [List.nil_append] at L2
      have ht2 : (tl T).drop (a + 1 + (tailT true ps).length) = 41 :: rest := drop_app ht1
      obtain ⟨S3, e3, x3, f3⟩ := me_takeB (ρ := [some (.ref l), some (.int (room : Nat)), some (.ref S1.length)]) x2 hz ht2 rfl
      have L3 := f3.get L2 (by simp; omega)
      have fr : Frm [l] S S3 := by
        have g2 : Frm [l] S1 S2 := Frm.drop (Frm.app (fp := [l]) [.lst []]) f2 fun i hi => by
          rcases List.mem_cons.mp hi with rfl | hi
          · exact .inl (by simp)
          · rcases List.mem_cons.mp hi with rfl | hi
            · exact .inr (Nat.le_refl _)
            · simp at hi
        exact (f1.trans g2).trans f3
      have er : rowX (k + 1) [.ref l, .int (room : Nat)] S = some ((Pt.row ps).toD, S3) := by
        show fnRun 3 (b_row_from (rdX k) (rowX k)) _ _ = _
        rw [fnRun_ap]
        unfold b_row_from
        simp only [List.map_cons, List.map_nil, List.length_cons, List.length_nil, show List.replicate (3 - (0 + 1 + 1)) (none : Option D) = [none] from rfl, List.cons_append, List.nil_append, sSeq_ap, sEx_ap, e1, bnd_some, kEx_ap, kSeq_n, sAs_ap, eLst_ap, aNil_ap, kLst_0, kAs1_ap, gN_ap, List.set_cons_succ, List.set_cons_zero, kAs2_ap, sWh_ap, e2, e3, sRt_ap, eTup_ap, aCons_ap, eC_ap, kA1_ap, eCB_ap, eV_ap, List.getElem?_cons_succ, List.getElem?_cons_zero, kV_s, kA2_ap, kCB_ap, cTuple_ref (rdL_lst L3), kTup_2, kRt_ap, kFn_r]
        rfl
      refine .eq (a := (Pt.row ps).toD) (S := S3) ?_ ⟨rfl, ?_, fr⟩
      · show fnRun 5 (b_pattern_from (rdX (k + 1)) (rowX (k + 1))) _ _ = _
        rw [fnRun_ap]
        unfold b_pattern_from
        simp only [List.map_cons, List.map_nil, List.length_cons, List.length_nil, show List.replicate (5 - (0 + 1 + 1)) (none : Option D) = [none, none, none] from rfl, List.cons_append, List.nil_append, sSeq_ap, sIf_ap, bT_ap, eOp_ap, eV_ap, eC_ap, List.getElem?_cons_succ, List.getElem?_cons_zero, kV_s, bnd_some, kOp1_ap, kOp2_ap, hlt, kT_ap, kSif_f, kSif_t, sNil_ap, kSeq_n, kSeq_r, hh, e40, sRt_ap, eCall_ap, aCons_ap, aNil_ap, kA1_ap, kA2_ap, kCB_ap, er, kRt_ap, kFn_r]
      · rw [tx_row, List.length_cons, List.length_append]
        rw [show a + ((tailT true ps).length + [41].length + 1) = a + 1 + (tailT true ps).length + 1 by simp; omega]
        exact x3
end W
set_option Elab.async false
set_option linter.all false
set_option maxRecDepth 100000
set_option autoImplicit false
namespace W
open PySem DL
end W
set_option Elab.async false
set_option linter.all false
set_option maxRecDepth 100000
set_option autoImplicit false
namespace W
open PySem L2 DL
variable {S S' : Sto}
def nxt (st as : List Nat) (s w : Nat) : Nat := if w = 0 then st.getD s 0 else as.getD s 0
def bump (c : Nat → Nat → Nat) (s w : Nat) : Nat → Nat → Nat := fun i v => if i = s ∧ v = w then c i v + 1 else c i v
def cnt (st as : List Nat) : List Nat → Nat → (Nat → Nat → Nat) → Nat → Nat → Nat
  | [], _, c => c
  | w :: ws, s, c => cnt st as ws (nxt st as s w) (bump c s w)
def refsAt (n m : Nat) : List D := (List.range m).map fun i => .ref (n + 1 + i)
def rowsOf (m : Nat) (c : Nat → Nat → Nat) : Sto := (List.range m).map fun i => .lst [.int (c i 0 : Nat), .int (c i 1 : Nat)]
def tk (S : Sto) (m : Nat) (c : Nat → Nat → Nat) : Sto := S ++ .lst (refsAt S.length m) :: rowsOf m c
variable {m : Nat} {c : Nat → Nat → Nat}
end W
set_option Elab.async false
set_option linter.all false
set_option maxRecDepth 100000
set_option autoImplicit false
namespace W
open PySem L2 DL
variable {S S' : Sto} {m : Nat} {c : Nat → Nat → Nat}
structure Tb (m : Nat) (st as : List Nat) : Prop where
  ls : st.length = m
  la : as.length = m
  sl : ∀ x ∈ st, x < m
  al : ∀ x ∈ as, x < m
theorem getD_at {xs : List Nat} {i : Nat} (h : i < xs.length) : xs[i]? = some (xs.getD i 0) := by
  rw [List.getD_eq_getElem?_getD, List.getElem?_eq_getElem h]; rfl
theorem getD_mem {xs : List Nat} {i : Nat} (h : i < xs.length) : xs.getD i 0 ∈ xs := List.mem_of_getElem? (getD_at h)
theorem Tb.nxt {st as : List Nat} (t : Tb m st as) {s w : Nat} (hs : s < m) : nxt st as s w < m := by
  unfold W.nxt
  split
  · exact t.sl _ (getD_mem (by rw [t.ls]; exact hs))
  · exact t.al _ (getD_mem (by rw [t.la]; exact hs))
def gOf (c : Nat → Nat → Nat) (i : Nat) : Nat := if c i 1 ≤ c i 0 then 0 else 1
def mOf (c : Nat → Nat → Nat) (i : Nat) : Nat := min (c i 0) (c i 1)
def gsOf (m : Nat) (c : Nat → Nat → Nat) : List Nat := (List.range m).map (gOf c)
def msOf (m : Nat) (c : Nat → Nat → Nat) : Nat := ((List.range m).map (mOf c)).sum
def c00 : Nat → Nat → Nat := fun _ _ => 0
end W
set_option Elab.async false
set_option linter.all false
set_option maxRecDepth 100000
set_option autoImplicit false
namespace W
open PySem L2 DL
variable {S S' : Sto}
abbrev Pt3 := List Nat × List Nat × Nat
def wtI (st as : List Nat) (many th low : Nat) : List Pt3 := (List.range (min (th + 1) many)).map fun h => (st ++ [low], as ++ [h], max th (h + 1))
def wt (st as : List Nat) (met many : Nat) : List Pt3 := (List.range (min (met + 1) many)).flatMap fun low => wtI st as many (max met (low + 1)) low
end W
set_option Elab.async false
set_option linter.all false
set_option maxRecDepth 100000
set_option autoImplicit false
namespace W
open PySem L2 DL
variable {S S' : Sto}
theorem extend_l {L l : Nat} {xs ys : List D} (h : S[L]? = some (.lst xs)) (h2 : S[l]? = some (.lst ys)) (hz : xs.length + ys.length ≤ 16777216) : mExtend (.ref L) [.ref l] S = some (.non, S.set L (.lst (xs ++ ys))) := by
  show ((wrL S L).bind fun xs => (wrL S l).bind fun ys => if xs.length + ys.length ≤ sizeLine then _ else _) = _
  rw [wrL_lst h, Option.bind_some, wrL_lst h2, Option.bind_some, if_pos (by rw [sizeLine_eq]; exact hz)]
end W
set_option Elab.async false
set_option linter.all false
set_option maxRecDepth 100000
set_option autoImplicit false
namespace W
open PySem L2 DL
variable {S S' : Sto}
structure Fd where
  (ms k : Nat) (g st as : List Nat)
def pn (l : List Nat) : PyData := .tuple (l.map fun (n : Nat) => PyData.int n)
structure Fd.Ok (x : Fd) : Prop where
  lg : x.g.length = x.k
  ls : x.st.length = x.k
  la : x.as.length = x.k
def flat (x : Fd) : List Nat := x.ms :: x.k :: (x.g ++ (x.st ++ x.as))
end W
set_option Elab.async false
set_option linter.all false
set_option maxRecDepth 100000
set_option autoImplicit false
namespace W
open PySem L2 DL
variable {S S' : Sto}
def fdOf (ws : List Nat) (k : Nat) (st as : List Nat) : Fd := ⟨msOf k (cnt st as ws 0 c00), k, gsOf k (cnt st as ws 0 c00), st, as⟩
theorem Tb.ok {ws : List Nat} {k : Nat} {st as : List Nat} (t : Tb k st as) : (fdOf ws k st as).Ok := ⟨by simp [fdOf, gsOf], t.ls, t.la⟩
end W
set_option Elab.async false
set_option linter.all false
set_option maxRecDepth 100000
set_option autoImplicit false
namespace W
open PySem L2 DL
variable {S S' : Sto}
end W
set_option Elab.async false
set_option linter.all false
set_option maxRecDepth 100000
set_option autoImplicit false
namespace W
open PySem L2 DL
variable {S S' : Sto} {h : Nat}
def Dc (S : Sto) (h n : Nat) : Prop := ∃ a b c : Int, S[h]? = some (.lst [.int a, .int b, .int c]) ∧ 0 ≤ c ∧ c ≤ n
theorem Dc.lt {n : Nat} (x : Dc S h n) : h < S.length := let ⟨_, _, _, e, _⟩ := x; lt_of e
theorem Dc.frm {n : Nat} (x : Dc S h n) {fp : List Nat} (f : Frm fp S S') (z : h ∉ fp) : Dc S' h n := let ⟨a, b, c, e, r⟩ := x; ⟨a, b, c, f.get e z, r⟩
theorem Dc.set {n L : Nat} {m : MO} (x : Dc S h n) (z : L ≠ h) : Dc (S.set L m) h n := let ⟨a, b, c, e, r⟩ := x; ⟨a, b, c, by rw [List.getElem?_set_ne z]; exact e, r⟩
theorem Dc.mono {n n' : Nat} (x : Dc S h n) (z : n ≤ n') : Dc S h n' := let ⟨a, b, c, e, r1, r2⟩ := x; ⟨a, b, c, e, r1, by omega⟩
end W
set_option Elab.async false
set_option linter.all false
set_option maxRecDepth 100000
set_option autoImplicit false
namespace W
open PySem L2 DL
variable {S S' : Sto}
structure Mt (m : Nat) (ms : List Nat) : Prop where
  nd : ms.Nodup
  lt : ∀ x ∈ ms, x < m
theorem Mt.len {m : Nat} {ms : List Nat} (x : Mt m ms) : ms.length ≤ m := nodup_len x.nd x.lt
end W
set_option Elab.async false
set_option linter.all false
set_option maxRecDepth 100000
set_option autoImplicit false
namespace W
open PySem L2 DL
variable {S S' : Sto}
def turn (ws : List Nat) : List Nat := ws.map fun w => 1 - w
end W
set_option Elab.async false
set_option linter.all false
set_option maxRecDepth 100000
set_option autoImplicit false
namespace W
open PySem L2 DL
variable {S S' : Sto}
structure W6 (S : Sto) (L n : Nat) (ws : List Nat) : Prop where
  at_ : S[L]? = some (.lst (dn' ws))
  two : ∀ w ∈ ws, w < 2
  len : ws.length ≤ n
end W
set_option Elab.async false
set_option linter.all false
set_option maxRecDepth 100000
set_option autoImplicit false
namespace W
open PySem L2 DL TL
variable {S S' : Sto} {h : Nat}
def zN : Nat → Nat
  | 0 => 0
  | d + 1 => 3 * (zN d + 1) + 24
structure Pd (deep : Nat) (p : Pt) : Prop where
  ok : p.Ok
  dp : p.deep ≤ deep
  tz : (tx p).length ≤ zN deep
end W
set_option Elab.async false
set_option linter.all false
set_option maxRecDepth 100000
set_option autoImplicit false
namespace W
open PySem L2 DL TL
variable {S S' : Sto} {h : Nat}
theorem p8 : oPow (.int 10) (.int 8) S = some (.int 100000000, S) := by rw [oPow_int (by decide) (by decide) (by decide)]; rfl
theorem p9 : oPow (.int 10) (.int 9) S = some (.int 1000000000, S) := by rw [oPow_int (by decide) (by decide) (by decide)]; rfl
theorem p18 : oPow (.int 10) (.int 18) S = some (.int 1000000000000000000, S) := by rw [oPow_int (by decide) (by decide) (by decide)]; rfl
end W
set_option Elab.async false
set_option linter.all false
set_option maxRecDepth 100000
set_option autoImplicit false
namespace W
open PySem L2 DL TL
variable {S S' : Sto} {h : Nat}
mutual
def pyP : Pt → PyData
  | .way p w => .tuple [.str "way", .int (p : Nat), .int (w : Nat)]
  | .row ps => .tuple [.str "row", .tuple (pyPs ps)]
  | .times n p => .tuple [.str "times", .int (n : Nat), pyP p]
def pyPs : List Pt → List PyData
  | [] => []
  | p :: ps => pyP p :: pyPs ps
end
mutual
theorem toPy_P : ∀ (p : Pt) (n : Nat), 2 * p.deep < n → toPy S n p.toD = some (pyP p)
  | .way p w, 0, h => by omega
  | .way p w, 1, h => by rw [Pt.deep] at h; omega
  | .way p w, n + 2, h => by simp only [Pt.toD, toPy, toPys, Option.bind_some, Option.map_some, pyP]
  | .row ps, 0, h => by omega
  | .row ps, 1, h => by rw [Pt.deep] at h; omega
  | .row ps, n + 2, h => by
    rw [Pt.deep] at h
    simp only [Pt.toD, toPy, toPys, Option.bind_some, Option.map_some, pyP, toPys_P ps n (by omega)]
  | .times m p, 0, h => by omega
  | .times m p, 1, h => by rw [Pt.deep] at h; omega
  | .times m p, n + 2, h => by
    rw [Pt.deep] at h
    simp only [Pt.toD, toPy, toPys, Option.bind_some, Option.map_some, pyP, toPy_P p (n + 1) (by omega)]
theorem toPys_P : ∀ (ps : List Pt) (n : Nat), 2 * Pt.deeps ps < n → toPys S n (Pt.toDs ps) = some (pyPs ps)
  | [], n, h => by simp only [Pt.toDs, toPys, pyPs]
  | p :: ps, n, h => by
    rw [Pt.deeps] at h
    simp only [Pt.toDs, toPys, toPy_P p n (by omega), toPys_P ps n (by omega), Option.bind_some, Option.map_some, pyPs]
end
theorem lay_s1 : PyData.canLay0 (.str "way") = true := by simp only [PyData.canLay0]; decide +kernel
theorem lay_s2 : PyData.canLay0 (.str "row") = true := by simp only [PyData.canLay0]; decide +kernel
theorem lay_s3 : PyData.canLay0 (.str "times") = true := by simp only [PyData.canLay0]; decide +kernel
mutual
theorem lay_P : ∀ p : Pt, PyData.canLay0 (pyP p) = true
  | .way p w => by
    show (PyData.canLay0 (.str "way") && (true && (true && true))) = true
    rw [lay_s1]; rfl
  | .row ps => by
    show (PyData.canLay0 (.str "row") && (PyData.canLayAll0 (pyPs ps) && true)) = true
    rw [lay_s2, lays_P ps]; rfl
  | .times n p => by
    show (PyData.canLay0 (.str "times") && (true && (PyData.canLay0 (pyP p) && true))) = true
    rw [lay_s3, lay_P p]; rfl
theorem lays_P : ∀ ps : List Pt, PyData.canLayAll0 (pyPs ps) = true
  | [] => rfl
  | p :: ps => by
    show (PyData.canLay0 (pyP p) && PyData.canLayAll0 (pyPs ps)) = true
    rw [lay_P p, lays_P ps]; rfl
end
mutual
theorem dep_P : ∀ p : Pt, PyData.depth (pyP p) ≤ 2 * p.deep
  | .way p w => by simp only [pyP, PyData.depth, PyData.depthAll, Pt.deep]; omega
  | .row ps => by
    have := deps_P ps
    simp only [pyP, PyData.depth, PyData.depthAll, Pt.deep]; omega
  | .times n p => by
    have := dep_P p
    simp only [pyP, PyData.depth, PyData.depthAll, Pt.deep]; omega
theorem deps_P : ∀ ps : List Pt, PyData.depthAll (pyPs ps) ≤ 2 * Pt.deeps ps
  | [] => Nat.zero_le _
  | p :: ps => by
    have h1 := dep_P p
    have h2 := deps_P ps
    simp only [pyPs, PyData.depthAll, Pt.deeps]; omega
end
structure Pg (p : Pt) : Prop where
  ok : p.Ok
  dp : p.deep ≤ 20
  tz : (tx p).length ≤ 1000000
theorem zN6 : zN 6 ≤ 1000000 := by decide
theorem Pd.pg {p : Pt} (x : Pd 6 p) : Pg p := ⟨x.ok, by have := x.dp; omega, Nat.le_trans x.tz zN6⟩
structure Pe (j : Nat) (p : Pt) : Prop where
  ok : p.Ok
  dp : p.deep ≤ j + 1
  tz : (tx p).length ≤ 20 * (j + 1)
structure Pw (p : Pt) : Prop where
  ok : p.Ok
  dp : p.deep ≤ 1
  tz : (tx p).length ≤ 20
end W
set_option Elab.async false
set_option linter.all false
set_option maxRecDepth 100000
set_option autoImplicit false
namespace W
open PySem L2 DL
variable {S S' : Sto} {h : Nat}
theorem deeps_le {P : List Pt} {n : Nat} (h : ∀ p ∈ P, p.deep ≤ n) : Pt.deeps P ≤ n := by
  induction P with
  | nil => exact Nat.zero_le _
  | cons p P ih =>
    have h1 := h p (by simp)
    have h2 := ih fun q hq => h q (List.mem_cons_of_mem _ hq)
    rw [Pt.deeps]; omega
theorem eqO_pats {a b : Nat} {P : List Pt} (hd : ∀ p ∈ P, p.deep ≤ 20) (h1 : rdL S a = some (Pt.toDs P)) (h2 : rdL S b = some []) : eqO (.ref a) (.ref b) S = some (decide (P = [])) := by
  have dl := deeps_le hd
  have e1 : toPy S 70 (.ref a) = some (.list (pyPs P)) := by
    simp only [toPy, h1, Option.bind_some, toPys_P P 69 (by omega), Option.map_some]
  have e2 : toPy S 70 (.ref b) = some (.list []) := by
    simp only [toPy, h2, Option.bind_some, toPys, Option.map_some]
  have s1 : SeqAt.shaped (.list (pyPs P)) = true := by
    have := deps_P P
    have h3 : PyData.depth (.list (pyPs P)) ≤ 64 := by simp only [PyData.depth]; omega
    unfold SeqAt.shaped
    rw [decide_eq_true h3, Bool.and_true]
    exact lays_P P
  unfold eqO
  rw [if_neg (by simp [scalD]), e1, e2]
  show (if SeqAt.shaped _ = true ∧ SeqAt.shaped _ = true then _ else _) = _
  rw [if_pos ⟨s1, rfl⟩]
  cases P with
  | nil => simp [PyData.eqv, PyData.eqvAll, pyPs]
  | cons p P => simp [PyData.eqv, PyData.eqvAll, pyPs]
end W
set_option Elab.async false
set_option linter.all false
set_option maxRecDepth 100000
set_option autoImplicit false
namespace W
open PySem L2 DL
variable {S S' : Sto} {h : Nat}
mutual
def Pt.wt : Pt → Nat
  | .way _ _ => 1
  | .row ps => 1 + Pt.wts ps
  | .times n p => 1 + (if 0 < n ∧ 0 < p.many then n * p.wt else 0)
def Pt.wts : List Pt → Nat
  | [] => 0
  | p :: ps => p.wt + Pt.wts ps
end
theorem wts_app : ∀ (a b : List Pt), Pt.wts (a ++ b) = Pt.wts a + Pt.wts b
  | [], b => by simp [Pt.wts]
  | p :: a, b => by simp only [List.cons_append, Pt.wts, wts_app a b]; omega
theorem wts_rev : ∀ a : List Pt, Pt.wts a.reverse = Pt.wts a
  | [] => rfl
  | p :: a => by rw [List.reverse_cons, wts_app, wts_rev a, Pt.wts, Pt.wts, Pt.wts]; omega
theorem wts_rep (n : Nat) (p : Pt) : Pt.wts (List.replicate n p) = n * p.wt := by
  induction n with
  | zero => simp [Pt.wts]
  | succ n ih => rw [List.replicate_succ, Pt.wts, ih, Nat.add_mul]; omega
theorem evs_app : ∀ (a b : List Pt), Pt.evs (a ++ b) = Pt.evs a ++ Pt.evs b
  | [], b => by simp [Pt.evs]
  | p :: a, b => by simp only [List.cons_append, Pt.evs, evs_app a b, List.append_assoc]
def stE (W : List Pt) : List (Nat × Nat) := Pt.evs W.reverse
theorem stE_pop (W : List Pt) (q : Pt) : stE (W ++ [q]) = q.ev ++ stE W := by
  unfold stE
  rw [List.reverse_append, evs_app]
  simp [Pt.evs]
theorem stE_row (W ps : List Pt) : stE (W ++ ps.reverse) = Pt.evs ps ++ stE W := by
  unfold stE
  rw [List.reverse_append, evs_app, List.reverse_reverse]
theorem evs_rep (n : Nat) (p : Pt) : Pt.evs (List.replicate n p) = (List.replicate n p.ev).flatten := by
  induction n with
  | zero => simp [Pt.evs]
  | succ n ih => rw [List.replicate_succ, Pt.evs, ih, List.replicate_succ, List.flatten_cons]
theorem stE_times (W : List Pt) (n : Nat) (p : Pt) : stE (W ++ List.replicate n p) = (List.replicate n p.ev).flatten ++ stE W := by
  unfold stE
  rw [List.reverse_append, evs_app, List.reverse_replicate, evs_rep]
mutual
theorem wt_le : ∀ (p : Pt) (M : Nat), 1 ≤ M → p.many ≤ M → p.wt ≤ p.sz * M
  | .way _ _, M, h1, _ => by simp only [Pt.wt, Pt.sz]; omega
  | .row ps, M, h1, h => by
    have := wts_le ps M h1 h
    rw [Pt.wt, Pt.sz, Nat.add_mul]; omega
  | .times n p, M, h1, h => by
    rw [Pt.wt, Pt.sz, Nat.add_mul]
    split
    · rename_i c
      rw [Pt.many] at h
      have h2 := wt_le p p.many c.2 (Nat.le_refl _)
      have h3 : n * p.wt ≤ p.sz * M := by
        have a := Nat.mul_le_mul_left n h2
        have b : n * (p.sz * p.many) = p.sz * (n * p.many) := by rw [Nat.mul_left_comm]
        rw [b] at a
        exact Nat.le_trans a (Nat.mul_le_mul_left _ h)
      omega
    · omega
theorem wts_le : ∀ (ps : List Pt) (M : Nat), 1 ≤ M → Pt.manys ps ≤ M → Pt.wts ps ≤ Pt.szs ps * M
  | [], M, _, _ => by simp [Pt.wts]
  | p :: ps, M, h1, h => by
    rw [Pt.manys] at h
    have a := wt_le p M h1 (by omega)
    have b := wts_le ps M h1 (by omega)
    rw [Pt.wts, Pt.szs, Nat.add_mul]; omega
end
end W
set_option Elab.async false
set_option linter.all false
set_option maxRecDepth 100000
set_option autoImplicit false
namespace W
open PySem L2 DL
variable {S S' : Sto} {h : Nat}
theorem toDs_rev (ps : List Pt) : (Pt.toDs ps).reverse = Pt.toDs ps.reverse := by
  induction ps with
  | nil => rfl
  | cons p ps ih => rw [Pt.toDs, List.reverse_cons, ih, List.reverse_cons, toDs_app]; rfl
theorem toDs_rep (n : Nat) (p : Pt) : (List.replicate n [p.toD]).flatten = Pt.toDs (List.replicate n p) := by
  induction n with
  | zero => rfl
  | succ n ih => rw [List.replicate_succ, List.flatten_cons, ih, List.replicate_succ]; rfl
theorem wt_pos (p : Pt) : 0 < p.wt := by cases p <;> simp only [Pt.wt] <;> omega
theorem len_wts : ∀ ps : List Pt, ps.length ≤ Pt.wts ps
  | [] => Nat.zero_le _
  | p :: ps => by have := wt_pos p; have := len_wts ps; rw [Pt.wts, List.length_cons]; omega
abbrev rnC : Tv := (bAnd (bT (eOp oNe (eV 3) (eLst aNil))) (bT (eOp oLe (eCB cLen (aCons (eV 2) aNil)) (eV 1))))
abbrev rnB : Sv := (sSeq (sAs (eM mPop (eV 3) aNil) (gN 4))
    (sIf (bT (eOp oEq (eOp oIxA (eV 4) (eC (.int 0))) (eC (.str "way")))) (sEx (eM mAppend (eV 2) (aCons (eTup (aCons (eOp oIxA (eV 4) (eC (.int 1))) (aCons (eOp oIxA (eV 4) (eC (.int 2))) aNil))) aNil))) (sIf (bT (eOp oEq (eOp oIxA (eV 4) (eC (.int 0))) (eC (.str "row")))) (sEx (eM mExtend (eV 3) (aCons (eListRev (eOp oIxA (eV 4) (eC (.int 1)))) aNil))) (sIf (bAnd (bT (eOp oGt (eOp oIxA (eV 4) (eC (.int 1))) (eC (.int 0)))) (bT (eOp oGt (eCall (F_law_many_2 24) (aCons (eOp oIxA (eV 4) (eC (.int 2))) aNil)) (eC (.int 0))))) (sEx (eM mExtend (eV 3) (aCons (eOp oMul (eLst (aCons (eOp oIxA (eV 4) (eC (.int 2))) aNil)) (eCB cMin (aCons (eOp oIxA (eV 4) (eC (.int 1))) (aCons (eOp oAdd (eV 1) (eC (.int 1))) aNil)))) aNil))) sNil))))
section
variable {T : Sto} {R A : Nat} {E : List (Nat × Nat)} {w : List Pt} {d0 : D} {v4 : Option D}
theorem rnC_ap (hR : T[R]? = some (.lst (evD E))) (hE : E.length ≤ 400) (hA : T[A]? = some (.lst (Pt.toDs w))) (hd : ∀ p ∈ w, p.deep ≤ 20) :
    rnC [some d0, some (.int 400), some (.ref R), some (.ref A), v4] T = some (!decide (w = []), T ++ [.lst []]) := by
  have f : Frm [] T (T ++ [MO.lst []]) := .app _
  have q := oNe_of (eqO_pats hd (f.rd (rdL_lst hA) (by simp)) (new_rd (S := T) (xs := [])))
  have le := cLen_ref (f.rd (rdL_lst hR) (by simp))
  have c : decide (((evD E).length : Int) ≤ 400) = true := by rw [evD_len]; exact decide_eq_true (by omega)
  simp only [rnC, bAnd_ap, bT_ap, eOp_ap, eV_ap, List.getElem?_cons_succ, List.getElem?_cons_zero, kV_s, bnd_some, kOp1_ap, eLst_ap, aNil_ap, kLst_0, kOp2_ap, q, kT_ap]
  by_cases z : w = []
  · simp [z]
  · simp only [decide_eq_false z, Bool.not_false, kBand_t, eCB_ap, aCons_ap, eV_ap, List.getElem?_cons_succ, List.getElem?_cons_zero, kV_s, bnd_some, kA1_ap, aNil_ap, kA2_ap, kCB_ap, bT_ap, eOp_ap, le, kOp1_ap, kOp2_ap, oLe_int, c, kT_ap]
theorem pop_ap {q : Pt} (hA : T[A]? = some (.lst (Pt.toDs (w ++ [q])))) : mPop (.ref A) [] T = some (q.toD, T.set A (.lst (Pt.toDs w))) := by
  show ((wrL T A).bind fun xs => (xs[xs.length - 1]?).map fun d => (d, T.set A (.lst xs.dropLast))) = _
  rw [wrL_lst hA, Option.bind_some, toDs_app, show Pt.toDs [q] = [q.toD] from rfl]
  rw [List.dropLast_concat]
  simp
theorem rnB_way {a b : Nat} (hRA : R ≠ A) (hR : T[R]? = some (.lst (evD E))) (hE : E.length ≤ 1000) (hA : T[A]? = some (.lst (Pt.toDs (w ++ [.way a b])))) :
    rnB [some d0, some (.int 400), some (.ref R), some (.ref A), v4] T = some (.nx, [some d0, some (.int 400), some (.ref R), some (.ref A), some (Pt.way a b).toD], (T.set A (MO.lst (Pt.toDs w))).set R (.lst (evD (E ++ [(a, b)])))) := by
  have p := pop_ap hA
  have lA := lt_of hA
  have hR1 : (T.set A (MO.lst (Pt.toDs w)))[R]? = some (.lst (evD E)) := by rw [List.getElem?_set_ne (Ne.symm hRA)]; exact hR
  have ap := append_l (d := .tup [.int (a : Nat), .int (b : Nat)]) (wrL_lst hR1) (by rw [evD_len]; omega)
  simp [kM1_ap (rdL_lst hA), p, Pt.toD, kM1_ap (rdL_lst hR1), ap, evD_app]
  rfl
theorem rnB_row {ps : List Pt} (hRA : R ≠ A) (hA : T[A]? = some (.lst (Pt.toDs (w ++ [.row ps])))) (hz : w.length + ps.length ≤ 16777216) :
    rnB [some d0, some (.int 400), some (.ref R), some (.ref A), v4] T = some (.nx, [some d0, some (.int 400), some (.ref R), some (.ref A), some (Pt.row ps).toD], (T.set A (MO.lst (Pt.toDs w)) ++ [MO.lst (Pt.toDs ps.reverse)]).set A (.lst (Pt.toDs (w ++ ps.reverse)))) := by
  have p := pop_ap hA
  have lA := lt_of hA
  have hA1 : (T.set A (MO.lst (Pt.toDs w)))[A]? = some (.lst (Pt.toDs w)) := set_get lA
  have f : Frm [] (T.set A (MO.lst (Pt.toDs w))) (T.set A (MO.lst (Pt.toDs w)) ++ [MO.lst (Pt.toDs ps.reverse)]) := .app _
  have ex := extend_l (f.get hA1 (by simp)) (new_get (S := T.set A (MO.lst (Pt.toDs w))) (m := .lst (Pt.toDs ps.reverse))) (by rw [toDs_len, toDs_len, List.length_reverse]; exact hz)
  rw [← toDs_app] at ex
  have i0 : ∀ U : Sto, oIxA (Pt.row ps).toD (.int 0) U = some (.str "row", U) := fun U => by simp [Pt.toD]
  have i1 : ∀ U : Sto, oIxA (Pt.row ps).toD (.int 1) U = some (.tup (Pt.toDs ps), U) := fun U => by simp [Pt.toD]
  simp [kM1_ap (rdL_lst hA), p, i0, i1, sw1, kM1_ap (rdL_lst hA1), kLRev_tup, toDs_rev]
  simp at ex
  rw [ex]
  rfl
theorem rnB_no {n : Nat} {q : Pt} (hRA : R ≠ A) (hA : T[A]? = some (.lst (Pt.toDs (w ++ [.times n q])))) (ok : q.Ok) (h24 : q.deep ≤ 24) (hz : ¬ (0 < n ∧ 0 < q.many)) :
    rnB [some d0, some (.int 400), some (.ref R), some (.ref A), v4] T = some (.nx, [some d0, some (.int 400), some (.ref R), some (.ref A), some (Pt.times n q).toD], T.set A (MO.lst (Pt.toDs w))) := by
  have p := pop_ap hA
  have mm := fun U => many2_ap 24 q U ok h24
  have td : (Pt.times n q).toD = .tup [.str "times", .int (n : Nat), q.toD] := by simp [Pt.toD]
  rw [td] at p ⊢
  by_cases a : 0 < n
  · have b : q.many = 0 := by omega
    have a' : (0 : Int) < (n : Int) := by omega
    simp [kM1_ap (rdL_lst hA), p, sw2, sw3, mm, b, a]
  · have a' : n = 0 := by omega
    subst a'
    simp [kM1_ap (rdL_lst hA), p, sw2, sw3]
theorem rnB_yes {n : Nat} {q : Pt} (hRA : R ≠ A) (hA : T[A]? = some (.lst (Pt.toDs (w ++ [.times n q])))) (ok : q.Ok) (h24 : q.deep ≤ 24) (h0 : 0 < n) (h1 : 0 < q.many) (hn : n ≤ 400) (hz : w.length + n ≤ 16777216) :
    rnB [some d0, some (.int 400), some (.ref R), some (.ref A), v4] T = some (.nx, [some d0, some (.int 400), some (.ref R), some (.ref A), some (Pt.times n q).toD], (T.set A (MO.lst (Pt.toDs w)) ++ [MO.lst [q.toD], MO.lst (Pt.toDs (List.replicate n q))]).set A (.lst (Pt.toDs (w ++ List.replicate n q)))) := by
  have p := pop_ap hA
  have lA := lt_of hA
  have mm := fun U => many2_ap 24 q U ok h24
  have td : (Pt.times n q).toD = .tup [.str "times", .int (n : Nat), q.toD] := by simp [Pt.toD]
  rw [td] at p ⊢
  have hA1 : (T.set A (MO.lst (Pt.toDs w)))[A]? = some (.lst (Pt.toDs w)) := set_get lA
  generalize hT1 : T.set A (MO.lst (Pt.toDs w)) = T1 at p hA1 ⊢
  have a' : (0 : Int) < (n : Int) := by omega
  have b' : (0 : Int) < (q.many : Int) := by omega
  have mn : ¬ ((401 : Int) < (n : Int)) := by omega
  have em := oMul_ll (S := T1 ++ [MO.lst [q.toD]]) (n := n) (wrL_lst (new_get (S := T1) (m := .lst [q.toD]))) (by omega) (by simp; omega)
  rw [toDs_rep] at em
  have f : Frm [] T1 (T1 ++ [MO.lst [q.toD]] ++ [MO.lst (Pt.toDs (List.replicate n q))]) := (Frm.app _).trans (.app _)
  have ex := extend_l (f.get hA1 (by simp)) (new_get (S := T1 ++ [MO.lst [q.toD]]) (m := .lst (Pt.toDs (List.replicate n q)))) (by rw [toDs_len, toDs_len, List.length_replicate]; exact hz)
  rw [← toDs_app] at ex
  simp [kM1_ap (rdL_lst hA), p, sw2, sw3, mm, h0, h1, kM1_ap (rdL_lst hA1), mn, em]
  simp at ex
  rw [ex]
  rfl
end
end W
set_option Elab.async false
set_option linter.all false
set_option maxRecDepth 100000
set_option autoImplicit false
namespace W
open PySem L2 DL
variable {S S' : Sto} {h : Nat}
theorem run_loop {R A : Nat} {d0 : D} {ev : List (Nat × Nat)} (hRA : R ≠ A) (he : ev.length ≤ 400) : ∀ (n : Nat) (T : Sto) (E : List (Nat × Nat)) (w : List Pt) (v4 : Option D), T[R]? = some (.lst (evD E)) → T[A]? = some (.lst (Pt.toDs w)) → (∀ p ∈ w, p.Ok ∧ p.deep ≤ 20) → E ++ stE w = ev → Pt.wts w < n → Pt.wts w ≤ 1000000 →
    ∃ v4' T', whRun rnC rnB n [some d0, some (.int 400), some (.ref R), some (.ref A), v4] T = some (.nx, [some d0, some (.int 400), some (.ref R), some (.ref A), v4'], T') ∧ T'[R]? = some (.lst (evD ev)) ∧ Frm [R, A] T T'
  | 0, _, _, _, _, _, _, _, _, hn, _ => absurd hn (Nat.not_lt_zero _)
  | n + 1, T, E, w, v4, hR, hA, hw, hE, hn, hM => by
    have lE : E.length ≤ 400 := by rw [← hE, List.length_append] at he; omega
    have c := rnC_ap (d0 := d0) (v4 := v4) hR lE hA fun p hp => (hw p hp).2
    have f0 : Frm [R, A] T (T ++ [MO.lst []]) := .app _
    have f0' : Frm [] T (T ++ [MO.lst []]) := .app _
    have hR0 := f0'.get hR (by simp)
    have hA0 := f0'.get hA (by simp)
    unfold whRun
    rw [c]
    generalize T ++ [MO.lst []] = T0 at f0 hR0 hA0
    rw [Option.bind_some]
    rcases List.eq_nil_or_concat w with rfl | ⟨w1, q, rfl⟩
    · refine ⟨v4, T0, rfl, ?_, f0⟩
      rw [hR0, ← hE]
      simp [stE, Pt.evs]
    · rw [List.concat_eq_append] at *
      have c1 : (!decide (w1 ++ [q] = [])) = true := by simp
      have okq := hw q (by simp)
      have hw1 : ∀ p ∈ w1, p.Ok ∧ p.deep ≤ 20 := fun p hp => hw p (by simp [hp])
      rw [stE_pop] at hE
      rw [wts_app] at hn hM
      simp only [Pt.wts] at hn hM
      have lw := len_wts w1
      show ∃ v4' T', (if (!decide (w1 ++ [q] = [])) = true then (rnB _ T0).bind _ else _) = _ ∧ _
      rw [if_pos c1]
      cases q with
      | way a b =>
        simp only [Pt.wt] at hn hM
        rw [rnB_way hRA hR0 (by omega) hA0, Option.bind_some]
        obtain ⟨v4', T', e, g1, g2⟩ := run_loop (d0 := d0) hRA he n ((T0.set A (.lst (Pt.toDs w1))).set R (.lst (evD (E ++ [(a, b)])))) (E ++ [(a, b)]) w1 (some (Pt.way a b).toD) (set_get (by rw [List.length_set]; exact lt_of hR0)) (by rw [List.getElem?_set_ne hRA]; exact set_get (lt_of hA0)) hw1 (by rw [← hE]; simp [Pt.ev]) (by omega) (by omega)
        exact ⟨v4', T', e, g1, f0.trans ((Frm.set (by simp) : Frm [R, A] T0 _).trans ((Frm.set (by simp)).trans g2))⟩
      | row ps =>
        simp only [Pt.wt] at hn hM
        have lp := len_wts ps
        have hdp : Pt.deeps ps ≤ 20 := by have := okq.2; simp only [Pt.deep] at this; omega
        have okp : ∀ p ∈ ps, p.Ok ∧ p.deep ≤ 20 := fun p hp => ⟨Oks_in okq.1.2 p hp, Nat.le_trans (deeps_in p hp) hdp⟩
        rw [rnB_row hRA hA0 (by omega), Option.bind_some]
        have f1 : Frm [R, A] T0 (T0.set A (MO.lst (Pt.toDs w1)) ++ [MO.lst (Pt.toDs ps.reverse)]) := (Frm.set (by simp)).trans (.app _)
        have f1' : Frm [A] T0 (T0.set A (MO.lst (Pt.toDs w1)) ++ [MO.lst (Pt.toDs ps.reverse)]) := (Frm.set (by simp)).trans (.app _)
        have hR1 := f1'.get hR0 (by simpa using hRA)
        have lA1 := Nat.lt_of_lt_of_le (lt_of hA0) f1.len
        generalize T0.set A (MO.lst (Pt.toDs w1)) ++ [MO.lst (Pt.toDs ps.reverse)] = T1 at f1 hR1 lA1
        obtain ⟨v4', T', e, g1, g2⟩ := run_loop (d0 := d0) hRA he n (T1.set A (.lst (Pt.toDs (w1 ++ ps.reverse)))) E (w1 ++ ps.reverse) (some (Pt.row ps).toD) (by rw [List.getElem?_set_ne (Ne.symm hRA)]; exact hR1) (set_get lA1) (fun p hp => by
            rcases List.mem_append.mp hp with z | z
            · exact hw1 p z
            · exact okp p (by simpa using z)) (by rw [stE_row, ← hE]; simp [Pt.ev]) (by rw [wts_app, wts_rev]; omega) (by rw [wts_app, wts_rev]; omega)
        exact ⟨v4', T', e, g1, f0.trans (f1.trans ((Frm.set (by simp)).trans g2))⟩
      | times m q =>
        have hq24 : q.deep ≤ 20 := by have := okq.2; simp only [Pt.deep] at this; omega
        simp only [Pt.wt] at hn hM
        by_cases z : 0 < m ∧ 0 < q.many
        · rw [if_pos z] at hn hM
          have lev : m * q.many ≤ 400 := by
            rw [← hE] at he
            simp only [List.length_append, many_len, Pt.many] at he
            omega
          have hm : m ≤ 400 := Nat.le_trans (Nat.le_mul_of_pos_right m z.2) lev
          rw [rnB_yes hRA hA0 okq.1.2 (by omega) z.1 z.2 hm (by omega), Option.bind_some]
          have f1 : Frm [R, A] T0 (T0.set A (MO.lst (Pt.toDs w1)) ++ [MO.lst [q.toD], MO.lst (Pt.toDs (List.replicate m q))]) := (Frm.set (by simp)).trans (.app _)
          have f1' : Frm [A] T0 (T0.set A (MO.lst (Pt.toDs w1)) ++ [MO.lst [q.toD], MO.lst (Pt.toDs (List.replicate m q))]) := (Frm.set (by simp)).trans (.app _)
          have hR1 := f1'.get hR0 (by simpa using hRA)
          have lA1 := Nat.lt_of_lt_of_le (lt_of hA0) f1.len
          generalize T0.set A (MO.lst (Pt.toDs w1)) ++ [MO.lst [q.toD], MO.lst (Pt.toDs (List.replicate m q))] = T1 at f1 hR1 lA1
          obtain ⟨v4', T', e, g1, g2⟩ := run_loop (d0 := d0) hRA he n (T1.set A (.lst (Pt.toDs (w1 ++ List.replicate m q)))) E (w1 ++ List.replicate m q) (some (Pt.times m q).toD) (by rw [List.getElem?_set_ne (Ne.symm hRA)]; exact hR1) (set_get lA1) (fun p hp => by
              rcases List.mem_append.mp hp with y | y
              · exact hw1 p y
              · obtain ⟨_, rfl⟩ := List.mem_replicate.mp y
                exact ⟨okq.1.2, hq24⟩) (by rw [stE_times, ← hE]; simp [Pt.ev]) (by rw [wts_app, wts_rep]; omega) (by rw [wts_app, wts_rep]; omega)
          exact ⟨v4', T', e, g1, f0.trans (f1.trans ((Frm.set (by simp)).trans g2))⟩
        · rw [if_neg z] at hn hM
          have e0 : (Pt.times m q).ev = [] := List.eq_nil_of_length_eq_zero (by
            rw [many_len, Pt.many]
            rcases Nat.eq_zero_or_pos m with y | y
            · rw [y, Nat.zero_mul]
            · rcases Nat.eq_zero_or_pos q.many with y2 | y2
              · rw [y2, Nat.mul_zero]
              · exact absurd ⟨y, y2⟩ z)
          rw [rnB_no hRA hA0 okq.1.2 (by omega) z, Option.bind_some]
          obtain ⟨v4', T', e, g1, g2⟩ := run_loop (d0 := d0) hRA he n (T0.set A (.lst (Pt.toDs w1))) E w1 (some (Pt.times m q).toD) (by rw [List.getElem?_set_ne (Ne.symm hRA)]; exact hR0) (set_get (lt_of hA0)) hw1 (by rw [← hE, e0]; rfl) (by omega) (by omega)
          exact ⟨v4', T', e, g1, f0.trans ((Frm.set (by simp)).trans g2)⟩
theorem run3_ok {p : Pt} (ok : p.Ok) (hd : p.deep ≤ 20) (hm : p.many ≤ 400) (hs : p.sz ≤ 2000) : ∃ l S', F_law_run_3 [p.toD, .int 400] S = some (.ref l, S') ∧ S.length ≤ l ∧ S'[l]? = some (.lst (evD p.ev)) ∧ Frm [] S S' := by
  have hw : p.wt ≤ 800000 := by
    refine Nat.le_trans (wt_le p 400 (by decide) hm) (Nat.le_trans (Nat.mul_le_mul_right _ hs) (by decide))
  have n0 : (S ++ [MO.lst [], MO.lst [p.toD]])[S.length]? = some (.lst (evD [])) := ap0
  have n1 : (S ++ [MO.lst [], MO.lst [p.toD]])[S.length + 1]? = some (.lst (Pt.toDs [p])) := ap1
  obtain ⟨v4, T, e, g1, g2⟩ := run_loop (d0 := p.toD) (R := S.length) (A := S.length + 1) (ev := p.ev) (by omega) (by rw [many_len]; exact hm) turns (S ++ [MO.lst [], MO.lst [p.toD]]) [] [p] none n0 n1 (fun q hq => by rw [List.mem_singleton.mp hq]; exact ⟨ok, hd⟩) (by simp [stE, Pt.evs]) (by simp only [Pt.wts, turns]; omega) (by simp only [Pt.wts]; omega)
  refine ⟨S.length, T, ?_, Nat.le_refl _, g1, (Frm.app (fp := []) _).drop g2 (by simp)⟩
  rw [F_law_run_3, fnRun_ap]
  unfold b_law_run_3
  show bnd ((sSeq (sAs (eLst aNil) (gN 2)) (sSeq (sAs (eLst (aCons (eV 0) aNil)) (gN 3)) (sSeq (sWh rnC rnB) (sRt (eV 2))))) [some p.toD, some (.int 400), none, none, none] S) kFn = _
  simp
  rw [e]
  simp
end W
set_option Elab.async false
set_option linter.all false
set_option maxRecDepth 100000
set_option autoImplicit false
namespace W
open PySem L2 DL
variable {S S' : Sto} {h : Nat}
abbrev rtB : Sv := (sIf (bOr (bNot (bTru (eCB cIsi (aCons (eV 2) (aCons (eC (.ty "tuple")) aNil))))) (bOr (bTru (eCB cIsi (aCons (eOp oIxA (eV 2) (eC (.int 0))) (aCons (eC (.ty "bool")) aNil)))) (bTru (eCB cIsi (aCons (eOp oIxA (eV 2) (eC (.int 1))) (aCons (eC (.ty "bool")) aNil)))))) (sRt (eC (.bl false))) sNil)
theorem rt_loop {l : Nat} {xs : List D} {v0 v1 v3 v4 v5 : Option D} (hl : rdL S l = some xs) : ∀ (es : List (Nat × Nat)) (v2 : Option D), ∃ v2', forRun (some (l, xs)) (gN 2) rtB (evD es) [v0, v1, v2, v3, v4, v5] S = some (.nx, [v0, v1, v2', v3, v4, v5], S)
  | [], v2 => ⟨v2, by
      show (if okC (some (l, xs)) S = true then _ else _) = _
      rw [if_pos (show okC (some (l, xs)) S = true from decide_eq_true hl)]⟩
  | e :: es, v2 => by
    obtain ⟨v2', ih⟩ := rt_loop (v0 := v0) (v1 := v1) (v3 := v3) (v4 := v4) (v5 := v5) hl es (some (.tup [.int (e.1 : Nat), .int (e.2 : Nat)]))
    refine ⟨v2', ?_⟩
    have i1 : cIsi [.tup [.int (e.1 : Nat), .int (e.2 : Nat)], .ty "tuple"] S = some (.bl true, S) := isi_tup (d := .tup [.int (e.1 : Nat), .int (e.2 : Nat)]) ⟨_, rfl⟩
    have i2 : cIsi [.int (e.1 : Nat), .ty "bool"] S = some (.bl false, S) := isi_any (d := .int (e.1 : Nat)) (T := "int") rfl (by decide)
    have i3 : cIsi [.int (e.2 : Nat), .ty "bool"] S = some (.bl false, S) := isi_any (d := .int (e.2 : Nat)) (T := "int") rfl (by decide)
    have b : rtB [v0, v1, some (.tup [.int (e.1 : Nat), .int (e.2 : Nat)]), v3, v4, v5] S = some (.nx, [v0, v1, some (.tup [.int (e.1 : Nat), .int (e.2 : Nat)]), v3, v4, v5], S) := by
      simp [rtB, i1, i2, i3]
    show (if okC (some (l, xs)) S = true then _ else _) = _
    rw [if_pos (show okC (some (l, xs)) S = true from decide_eq_true hl), gN_ap, Option.bind_some]
    show (rtB [v0, v1, some (.tup [.int (e.1 : Nat), .int (e.2 : Nat)]), v3, v4, v5] S).bind _ = _
    rw [b]
    exact ih
theorem right7_ok {p : Pt} (ok : p.Ok) (hd : p.deep ≤ 20) (hs : p.sz ≤ 2000) : ∃ S', F_law_right_7 [p.toD] S = some (.bl true, S') ∧ Frm [] S S' := by
  by_cases hm : p.many ≤ 400
  · obtain ⟨l, S1, e1, l1, g1, f1⟩ := asked_yes (S := S) ok (by omega) hm
    have mm := many2_ap 24 p S1 ok (by omega)
    obtain ⟨l2, S2, e2, l2', g2, f2⟩ := run3_ok (S := S1) ok hd hm hs
    have g12 := f2.get g1 (by simp)
    have l1S := lt_of g1
    have il : cIsi [.ref l, .ty "list"] S2 = some (.bl true, S2) := isi_any (d := .ref l) (T := "list") (by simp only [tyD, g12]) (by decide)
    have q1 := oNe_of (eqO_evs (rdL_lst g12) (rdL_lst g2))
    obtain ⟨v2', lp⟩ := rt_loop (v0 := some p.toD) (v1 := some (.ref l2)) (v3 := none) (v4 := some (.bl false)) (v5 := some (.ref l)) (rdL_lst g12) p.ev none
    have gt : ¬ ((400 : Int) < (p.many : Int)) := by omega
    have lev : p.ev.length ≤ 400 := by rw [many_len]; exact hm
    have ap := append_l (d := .tup [.int 0, .int 0]) (wrL_lst g12) (by rw [evD_len]; omega)
    have eev : evD p.ev ++ [.tup [.int 0, .int 0]] = evD (p.ev ++ [(0, 0)]) := by rw [evD_app]; rfl
    rw [eev] at ap
    have f3 : Frm [l] S2 (S2.set l (.lst (evD (p.ev ++ [(0, 0)])))) := .set (by simp)
    have g3 : (S2.set l (.lst (evD (p.ev ++ [(0, 0)]))))[l]? = some (.lst (evD (p.ev ++ [(0, 0)]))) := set_get (lt_of g12)
    have g32 := f3.get g2 (by simp; omega)
    rw [F_law_right_7, fnRun_ap]
    unfold b_law_right_7
    simp [e1, mm, gt, e2, il, q1, kAny_l (rdL_lst g12), lp, kM1_ap (rdL_lst g12), ap]
    generalize S2.set l (.lst (evD (p.ev ++ [(0, 0)]))) = S3 at f3 g3 g32 ⊢
    obtain ⟨l4, S4, e4, l4', g4, f4⟩ := asked_yes (S := S3) ok (by omega) hm
    have g42 := f4.get g32 (by simp)
    have g43 := f4.get g3 (by simp)
    have q2 := oEq_of (eqO_evs (rdL_lst g4) (rdL_lst g42))
    simp [e4, q2]
    have f5 : Frm [] S4 (S4 ++ [MO.lst [.tup [.int 0, .int 0]]]) := .app _
    have ad := oAdd_ll (f5.rd (rdL_lst g42) (by simp)) (new_rd (S := S4) (xs := [.tup [.int 0, .int 0]])) (by simp [evD_len]; omega)
    rw [eev] at ad
    have f6 : Frm [] S4 (S4 ++ [MO.lst [.tup [.int 0, .int 0]]] ++ [MO.lst (evD (p.ev ++ [(0, 0)]))]) := f5.trans (.app _)
    have q3 := oEq_of (eqO_evs (f6.rd (rdL_lst g43) (by simp)) (new_rd (S := S4 ++ [MO.lst [.tup [.int 0, .int 0]]]) (xs := evD (p.ev ++ [(0, 0)]))))
    simp at ad q3 f6
    simp [ad, q3]
    exact ((f1.trans f2).drop f3 (by simp; omega)).trans (f4.trans f6)
  · have hm' : 400 < p.many := by omega
    have e1 := asked_no (S := S) ok (by omega) hm'
    have mm := many2_ap 24 p (S ++ [MO.x (.exc 1)]) ok (by omega)
    have gt : (400 : Int) < (p.many : Int) := by omega
    rw [F_law_right_7, fnRun_ap]
    unfold b_law_right_7
    simp [e1, mm, gt]
    exact .app _
end W
set_option Elab.async false
set_option linter.all false
set_option maxRecDepth 100000
set_option autoImplicit false
namespace W
open PySem L2 DL
variable {S S' : Sto} {h : Nat}
def Gd (p : Pt) : Prop := p.Ok ∧ p.deep ≤ 20 ∧ p.sz ≤ 2000
abbrev lwB : Sv := (sIf (bNot (bTru (eCall F_law_right_7 (aCons (eV 5) aNil)))) (sRt (eC (.bl false))) sNil)
theorem lw_loop {l : Nat} {xs : List D} {v0 v1 v2 v3 v4 : Option D} : ∀ (ps : List Pt) (S : Sto) (v5 : Option D), rdL S l = some xs → (∀ p ∈ ps, Gd p) → ∃ v5' S', forRun (some (l, xs)) (gN 5) lwB (Pt.toDs ps) [v0, v1, v2, v3, v4, v5] S = some (.nx, [v0, v1, v2, v3, v4, v5'], S') ∧ Frm [] S S'
  | [], S, v5, hl, _ => ⟨v5, S, by
      show (if okC (some (l, xs)) S = true then _ else _) = _
      rw [if_pos (show okC (some (l, xs)) S = true from decide_eq_true hl)], .refl⟩
  | p :: ps, S, v5, hl, hp => by
    obtain ⟨o, d, z⟩ := hp p (by simp)
    obtain ⟨S1, e, f⟩ := right7_ok (S := S) o d z
    obtain ⟨v5', S', ih, f2⟩ := lw_loop (v0 := v0) (v1 := v1) (v2 := v2) (v3 := v3) (v4 := v4) ps S1 (some p.toD) (f.rd hl (by simp)) fun q hq => hp q (List.mem_cons_of_mem _ hq)
    refine ⟨v5', S', ?_, f.trans f2⟩
    have b : lwB [v0, v1, v2, v3, v4, some p.toD] S = some (.nx, [v0, v1, v2, v3, v4, some p.toD], S1) := by
      simp [lwB, e]
    rw [Pt.toDs]
    show (if okC (some (l, xs)) S = true then _ else _) = _
    rw [if_pos (show okC (some (l, xs)) S = true from decide_eq_true hl), gN_ap, Option.bind_some]
    show (lwB [v0, v1, v2, v3, v4, some p.toD] S).bind _ = _
    rw [b]
    exact ih
theorem edge_gd {o r : Nat} {p : Pt} (ok : p.Ok) (hd : p.deep ≤ 3) (hs : p.sz ≤ 8) (ho : o ≤ 402) (hr : r ≤ 402) : Gd (edgeP o r p) := by
  refine ⟨⟨by simp, ⟨by omega, ok⟩, ⟨by omega, by decide, by decide⟩, ⟨by decide, by simp, trivial⟩, trivial⟩, ?_, ?_⟩
  · simp only [edgeP, Pt.deep, Pt.deeps]; omega
  · simp only [edgeP, Pt.sz, Pt.szs]; omega
theorem law03_ok {r : Nat} {ns : List Int} (hr : rdL S r = some (ns.map D.int)) (hl : ns.length ≤ 63) : Ok (F_law_30 [.ref r] S) fun d _ => d = .bl true := by
  have rl := rd_lt hr
  rw [F_law_30, fnRun_ap]
  unfold b_law_30
  simp
  try simp only [Ok_bnd, Ok_bndS, OkS_bnd, OkS_bndS]
  refine (cells_ok hr hl).mono ?_
  rintro _ S1 ⟨c, rfl, hc, hq, fr⟩
  have c1 : rdL S1 c = some (pairsD 0 ((cellsOf ns).map D.int)) := rdL_lst hq
  simp [kAny_l c1]
  try simp only [Ok_bnd, Ok_bndS, OkS_bnd, OkS_bndS]
  refine (for_ok (Q := fun fl ρ S' => fl = .nx)
    (fun ds ρ S' => ∃ cs k a b c e f, ds = pairsD k (cs.map D.int) ∧ ρ = [some (.ref r), a, b, c, e, f] ∧ Frm [] S1 S') ?_ ?_ _ _ _
    ⟨cellsOf ns, 0, none, none, none, none, none, rfl, rfl, .refl⟩).mono ?_
  · rintro d ds ρ S2 ⟨cs, k, v1, v2, v3, v4, v5, e, rfl, f2⟩
    have c2 := f2.rd c1 (by simp)
    have hr2 : rdL S2 r = some (ns.map D.int) := f2.rd (fr.rd hr (by simp)) (by simp)
    cases cs with
    | nil => cases e
    | cons n cs =>
      cases e
      refine ⟨decide_eq_true c2, ?_⟩
      simp
      try simp only [Ok_bnd, Ok_bndS, OkS_bnd, OkS_bndS]
      refine (hand_ok (k := k) (cell := n) hr2).mono ?_
      rintro _ S3 ⟨hh, rfl, hhl, hd3, f3⟩
      simp
      try simp only [Ok_bnd, Ok_bndS, OkS_bnd, OkS_bndS]
      refine (drawn_sz (few := true) hd3).mono ?_
      rintro _ S4 ⟨p1, rfl, o1, d1, z1, r4⟩
      simp
      try simp only [Ok_bnd, Ok_bndS, OkS_bnd, OkS_bndS]
      refine (drawn_sz (few := false) r4.hd).mono ?_
      rintro _ S5 ⟨p2, rfl, o2, d2, z2, r5⟩
      simp
      try simp only [Ok_bnd, Ok_bndS, OkS_bnd, OkS_bndS]
      refine (edge_ok r5.hd).mono ?_
      rintro _ S6 ⟨p3, o, q, rfl, o3, d3, z3, ho, hq3, r6⟩
      have dp := deeper_ap (S := S6) (p := p1) (n := 14) (by decide)
      have mu : oMul (.tup [p1.toD]) (.int 6) S6 = some (.tup [p1.toD, p1.toD, p1.toD, p1.toD, p1.toD, p1.toD], S6) := rfl
      obtain ⟨k1, k2, _, _, k5⟩ := deepR_ok 14 p1 o1
      have g6 : Gd (.row [p1, p1, p1, p1, p1, p1]) := by
        refine ⟨⟨by simp, o1, o1, o1, o1, o1, o1, trivial⟩, ?_, ?_⟩
        · simp only [Pt.deep, Pt.deeps]; omega
        · simp only [Pt.sz, Pt.szs]; omega
      have gd : ∀ p ∈ [p1, p2, edgeP o q p3, deepR 14 p1, .row [p1, p1, p1, p1, p1, p1]], Gd p := by
        simp only [List.forall_mem_cons]
        exact ⟨⟨o1, by omega, by omega⟩, ⟨o2, by omega, by omega⟩, edge_gd o3 d3 z3 ho hq3, ⟨k1, by omega, by omega⟩, g6, by simp⟩
      have nw : (S6 ++ [MO.lst (Pt.toDs [p1, p2, edgeP o q p3, deepR 14 p1, .row [p1, p1, p1, p1, p1, p1]])])[S6.length]? = some (.lst (Pt.toDs [p1, p2, edgeP o q p3, deepR 14 p1, .row [p1, p1, p1, p1, p1, p1]])) := new_get
      have f7 : Frm [] S6 (S6 ++ [MO.lst (Pt.toDs [p1, p2, edgeP o q p3, deepR 14 p1, .row [p1, p1, p1, p1, p1, p1]])]) := .app _
      obtain ⟨v5', S8, e8, f8⟩ := lw_loop (v0 := some (.ref r)) (v1 := some (.int (k : Nat))) (v2 := some (.int n)) (v3 := some (.ref hh)) (v4 := some p1.toD) [p1, p2, edgeP o q p3, deepR 14 p1, .row [p1, p1, p1, p1, p1, p1]] _ v5 (rdL_lst nw) gd
      have td : Pt.toDs [p1, p2, edgeP o q p3, deepR 14 p1, .row [p1, p1, p1, p1, p1, p1]] = [p1.toD, p2.toD, (edgeP o q p3).toD, (deepR 14 p1).toD, .tup [.str "row", .tup [p1.toD, p1.toD, p1.toD, p1.toD, p1.toD, p1.toD]]] := rfl
      rw [td] at e8 nw f7
      simp at dp
      simp [dp, mu, kAny_l (rdL_lst nw)]
      rw [e8]
      simp
      refine ⟨⟨cs, k + 1, rfl⟩, ?_⟩
      exact f2.trans ((f3.drop (r4.frm.trans (r5.frm.trans r6.frm)) (by simp; omega)).trans (f7.trans f8))
  · rintro ρ S2 ⟨cs, k, v1, v2, v3, v4, v5, e, rfl, f2⟩
    exact ⟨decide_eq_true (f2.rd c1 (by simp)), rfl⟩
  · rintro fl ρ S2 rfl
    have p18 : ∀ T : Sto, oPow (.int 10) (.int 18) T = some (.int 1000000000000000000, T) := fun T => p18e
    have ga : Gd (.times 0 (.times 1000000000000000000 (.way 1 1))) := ⟨⟨by decide, by decide, by decide, by decide⟩, by decide, by decide⟩
    have gb : Gd (.way 999 1) := ⟨⟨by decide, by decide⟩, by decide, by decide⟩
    obtain ⟨S3, e3, f3⟩ := right7_ok (S := S2) ga.1 ga.2.1 ga.2.2
    obtain ⟨S4, e4, f4⟩ := right7_ok (S := S3) gb.1 gb.2.1 gb.2.2
    have ta : (Pt.times 0 (.times 1000000000000000000 (.way 1 1))).toD = .tup [.str "times", .int 0, .tup [.str "times", .int 1000000000000000000, .tup [.str "way", .int 1, .int 1]]] := rfl
    have tb : (Pt.way 999 1).toD = .tup [.str "way", .int 999, .int 1] := rfl
    rw [ta] at e3
    rw [tb] at e4
    simp [p18, e3, e4]
theorem law03 {ns : List Int} (hl : ns.length ≤ 63) : ∃ S', F_law_30 [.ref 0] [.rol (ns.map D.int)] = some (.bl true, S') := by
  obtain ⟨d, S', e, rfl⟩ := law03_ok (S := [.rol (ns.map D.int)]) (r := 0) (rdL_rol rfl) hl
  exact ⟨S', e⟩
end W
set_option Elab.async false
set_option linter.all false
set_option maxRecDepth 100000
set_option autoImplicit false
namespace DL
open PySem PySem.Spec PyProof.Rows L2
def clsOf (K : PySem.W.Frag) (xs : List Str) (n : Nat) : Option Addr := match xs[n]? with
  | some x => (match PySem.W.nsIn K mainGlobals x with
    | some (some (.ref C)) => some C
    | _ => none)
  | none => none
theorem clsOf_at {K : PySem.W.Frag} {xs : List Str} {n : Nat} {x : Str} {C : Addr} (hx : xs[n]? = some x) (a : PySem.W.nsIn K mainGlobals x = some (some (.ref C))) : clsOf K xs n = some C := by
  unfold clsOf
  rw [hx]
  show (match PySem.W.nsIn K mainGlobals x with
    | some (some (.ref C)) => some C
    | _ => none) = some C
  rw [a]
theorem top_spK {K : PySem.W.Frag} {cls : Nat → Option Addr} {wo : Option World} {tabs : Tabs} {F : Fv} {ns : List Int} {H : Hp} {a : Addr} (hK : noLists K = true) (hF : ∃ S', F [.ref 0] [.rol (ns.map D.int)] = some (.bl true, S')) (hO : OnlyT tabs H) (hS : SqL K H a (ns.map V.int)) :
    upF K { tabs := tabs.map (·.2), ct := fun _ => none, cls := cls, wo := wo } 1 F [.ref a] H (fun v H' => v = .bl true ∧ Sm H H') fun _ _ _ => False := by
  obtain ⟨S', hF⟩ := hF
  have rd := rd_of hK hS
  have nt : a ∉ tabs.map (·.2) := fun z => by
    obtain ⟨q, hq, rfl⟩ := List.mem_map.mp z
    have t := hO.2 q hq
    rcases rd with rd | ⟨ob, rd⟩
    · rw [t] at rd; cases rd
    · rw [t] at rd; cases rd
  have ri : ∀ ns : List Int, Rps K [a] H (ns.map D.int) (ns.map V.int) := fun ns => by
    induction ns with
    | nil => rfl
    | cons n r ih => exact ⟨_, _, rfl, rfl, ih⟩
  refine ⟨rfl, [.ref 0], [a], [.rol (ns.map D.int)], ⟨.ref a, [], rfl, ⟨a, rfl, rfl⟩, rfl⟩, ⟨rfl, by simp, fun l m b e q => ?_, hO.ndt, fun P hP => ⟨?_, ?_⟩⟩, .bl true, S', hF, fun v ι' H' f r hr => ⟨r, fun b o e => ?_⟩⟩
  · cases l with
    | zero => simp at e q; subst e; subst q; exact ⟨_, rd, ri ns⟩
    | succ l => simp at e
  · intro z
    have z' : P = a := by simpa using z
    exact nt (z' ▸ hP)
  · obtain ⟨q, hq, rfl⟩ := List.mem_map.mp hP
    exact hO.2 q hq
  · by_cases z : b ∈ [a]
    · have z' : b = a := by simpa using z
      subst z'
      exact ((f.rd 0 (.rol (ns.map D.int)) b rfl rfl rfl).1).trans e
    · exact (f.hid b o e z).1
end DL
set_option Elab.async false
set_option linter.all false
set_option maxRecDepth 100000
set_option maxHeartbeats 4000000
set_option autoImplicit false
namespace K03
open PySem L2 DL W
theorem all_mk {l : PySem.W.OpenLaw} {w : World} {K : PySem.W.Frag} {h : Heap} {mg : Str → Option Value} {fa : Addr} (X : K.In h) (G : h.Ns mainGlobals mg) (hfa : mg "law" = some (.ref fa))
    {f1 f2 f3 f4 f5 f6 f7 f8 f9 f10 f11 f12 f13 f14 f15 f16 f17 : Addr} {od1 an1 od2 an2 od3 an3 od4 an4 od5 an5 od6 an6 od7 an7 od8 an8 od9 an9 od10 an10 od11 an11 od12 an12 od13 an13 od14 an14 od15 an15 od16 an16 od17 an17 : Option Addr} {sl1 sl2 sl3 sl4 sl5 sl6 sl7 sl8 sl9 sl10 sl11 sl12 sl13 sl14 sl15 sl16 sl17 : Array (Option Value)}
    {oc1 kV1 dc1 pm1 cd1 ct1 oc2 kV2 dc2 pm2 cd2 ct2 oc3 kV3 dc3 pm3 cd3 ct3 oc4 kV4 dc4 pm4 cd4 ct4 oc5 kV5 dc5 pm5 cd5 ct5 oc6 kV6 dc6 pm6 cd6 ct6 oc7 kV7 dc7 pm7 cd7 ct7 oc8 kV8 dc8 pm8 cd8 ct8 oc9 kV9 dc9 pm9 cd9 ct9 oc10 kV10 dc10 pm10 cd10 ct10 oc11 kV11 dc11 pm11 cd11 ct11 oc12 kV12 dc12 pm12 cd12 ct12 oc13 kV13 dc13 pm13 cd13 ct13 oc14 kV14 dc14 pm14 cd14 ct14 oc15 kV15 dc15 pm15 cd15 ct15 oc16 kV16 dc16 pm16 cd16 ct16 oc17 kV17 dc17 pm17 cd17 ct17 : Value}
    {X1 : Addr} (aX1 : PySem.W.nsIn K mainGlobals "GuessError" = some (some (.ref X1))) (eX1 : PySem.W.excIn K X1 [.type "ValueError", .type "Exception", .type "BaseException", .type "object"] "ValueError.__new__" = true)
    {X2 : Addr} (aX2 : PySem.W.nsIn K mainGlobals "NoRun" = some (some (.ref X2))) (eX2 : PySem.W.excIn K X2 [.type "ValueError", .type "Exception", .type "BaseException", .type "object"] "ValueError.__new__" = true)
    {X3 : Addr} (aX3 : PySem.W.nsIn K mainGlobals "NoGuesser" = some (some (.ref X3))) (eX3 : PySem.W.excIn K X3 [.type "ValueError", .type "Exception", .type "BaseException", .type "object"] "ValueError.__new__" = true)
    {X4 : Addr} (aX4 : PySem.W.nsIn K mainGlobals "NoPattern" = some (some (.ref X4))) (eX4 : PySem.W.excIn K X4 [.type "ValueError", .type "Exception", .type "BaseException", .type "object"] "ValueError.__new__" = true)
    {X5 : Addr} (aX5 : PySem.W.nsIn K mainGlobals "NoRow" = some (some (.ref X5))) (eX5 : PySem.W.excIn K X5 [.type "ValueError", .type "Exception", .type "BaseException", .type "object"] "ValueError.__new__" = true)
    {X6 : Addr} (aX6 : PySem.W.nsIn K mainGlobals "NoName" = some (some (.ref X6))) (eX6 : PySem.W.excIn K X6 [.type "ValueError", .type "Exception", .type "BaseException", .type "object"] "ValueError.__new__" = true)
    (xg2 : PySem.W.findIn K (.ref X2) "__getattribute__" = some (some (.builtin "BaseException.__getattribute__"))) (xt2 : PySem.W.findIn K (.ref X2) "__getattr__" = some none) (xi2 : (PySem.W.clsIn K X2).isSome = true) (xo2 : PySem.W.mroIn K X2 (.type "object") = some true) (xb2 : PySem.W.mroIn K X2 (.type "BaseException") = some true)
    (xc2 : PySem.W.findIn K (.ref X2) "__class__" = some (some (.builtin "object.__class__"))) (xs2 : PySem.W.specialIn K (.builtin "object.__class__") "__get__" = some (some (.builtin "getset_descriptor.__get__"))) (xk2 : PySem.W.takesIn K (.builtin "object.__class__") = some true) (xv2 : PySem.W.kitOne K (.ref X2) (.type "ValueError") = some true)
    (xks2_1 : kSub K X2 X1 = true) (xki2_1 : PySem.W.kitOne K (.ref X2) (.ref X1) = some true)
    (xks2_2 : kSub K X2 X2 = true) (xki2_2 : PySem.W.kitOne K (.ref X2) (.ref X2) = some true)
    (xks2_3 : kSub K X2 X3 = false) (xki2_3 : PySem.W.kitOne K (.ref X2) (.ref X3) = some false)
    (xks2_4 : kSub K X2 X4 = false) (xki2_4 : PySem.W.kitOne K (.ref X2) (.ref X4) = some false)
    (xks2_5 : kSub K X2 X5 = false) (xki2_5 : PySem.W.kitOne K (.ref X2) (.ref X5) = some false)
    (xks2_6 : kSub K X2 X6 = false) (xki2_6 : PySem.W.kitOne K (.ref X2) (.ref X6) = some false)
    (zve : PySem.W.nsIn K mainGlobals "ValueError" = some none)
    (t1 : (PySem.W.tabIn K "many_events").isSome = true)
    (a1 : PySem.W.nsIn K mainGlobals "many_events" = some (some (.ref f1))) (l1 : K.lookup f1 = some ⟨oc1, od1, .func (PySem.W.fnOf "many_events" "many_events" (defArgs s_many_events) (defBody s_many_events) (defScope s_many_events) .none kV1 dc1 pm1 an1 cd1 ct1), sl1⟩) (c1 : PySem.W.codeIn K cd1 "many_events" = true) (k1 : PySem.W.keepIn K (.ref f1) = true)
    (a2 : PySem.W.nsIn K mainGlobals "run_of" = some (some (.ref f2))) (l2 : K.lookup f2 = some ⟨oc2, od2, .func (PySem.W.fnOf "run_of" "run_of" (defArgs s_run_of) (defBody s_run_of) (defScope s_run_of) .none kV2 dc2 pm2 an2 cd2 ct2), sl2⟩) (c2 : PySem.W.codeIn K cd2 "run_of" = true) (k2 : PySem.W.keepIn K (.ref f2) = true)
    (a3 : PySem.W.nsIn K mainGlobals "events_of" = some (some (.ref f3))) (l3 : K.lookup f3 = some ⟨oc3, od3, .func (PySem.W.fnOf "events_of" "events_of" (defArgs s_events_of) (defBody s_events_of) (defScope s_events_of) .none kV3 dc3 pm3 an3 cd3 ct3), sl3⟩) (c3 : PySem.W.codeIn K cd3 "events_of" = true) (k3 : PySem.W.keepIn K (.ref f3) = true)
    (a4 : PySem.W.nsIn K mainGlobals "_law_hand" = some (some (.ref f4))) (l4 : K.lookup f4 = some ⟨oc4, od4, .func (PySem.W.fnOf "_law_hand" "_law_hand" (defArgs s_law_hand) (defBody s_law_hand) (defScope s_law_hand) .none kV4 dc4 pm4 an4 cd4 ct4), sl4⟩) (c4 : PySem.W.codeIn K cd4 "_law_hand" = true) (k4 : PySem.W.keepIn K (.ref f4) = true)
    (a5 : PySem.W.nsIn K mainGlobals "_law_draw" = some (some (.ref f5))) (l5 : K.lookup f5 = some ⟨oc5, od5, .func (PySem.W.fnOf "_law_draw" "_law_draw" (defArgs s_law_draw) (defBody s_law_draw) (defScope s_law_draw) .none kV5 dc5 pm5 an5 cd5 ct5), sl5⟩) (c5 : PySem.W.codeIn K cd5 "_law_draw" = true) (k5 : PySem.W.keepIn K (.ref f5) = true)
    (a6 : PySem.W.nsIn K mainGlobals "_law_cells" = some (some (.ref f6))) (l6 : K.lookup f6 = some ⟨oc6, od6, .func (PySem.W.fnOf "_law_cells" "_law_cells" (defArgs s_law_cells) (defBody s_law_cells) (defScope s_law_cells) .none kV6 dc6 pm6 an6 cd6 ct6), sl6⟩) (c6 : PySem.W.codeIn K cd6 "_law_cells" = true) (k6 : PySem.W.keepIn K (.ref f6) = true)
    (a7 : PySem.W.nsIn K mainGlobals "_law_place" = some (some (.ref f7))) (l7 : K.lookup f7 = some ⟨oc7, od7, .func (PySem.W.fnOf "_law_place" "_law_place" (defArgs s_law_place) (defBody s_law_place) (defScope s_law_place) .none kV7 dc7 pm7 an7 cd7 ct7), sl7⟩) (c7 : PySem.W.codeIn K cd7 "_law_place" = true) (k7 : PySem.W.keepIn K (.ref f7) = true)
    (a8 : PySem.W.nsIn K mainGlobals "_law_times" = some (some (.ref f8))) (l8 : K.lookup f8 = some ⟨oc8, od8, .func (PySem.W.fnOf "_law_times" "_law_times" (defArgs s_law_times) (defBody s_law_times) (defScope s_law_times) .none kV8 dc8 pm8 an8 cd8 ct8), sl8⟩) (c8 : PySem.W.codeIn K cd8 "_law_times" = true) (k8 : PySem.W.keepIn K (.ref f8) = true)
    (a9 : PySem.W.nsIn K mainGlobals "_law_pattern" = some (some (.ref f9))) (l9 : K.lookup f9 = some ⟨oc9, od9, .func (PySem.W.fnOf "_law_pattern" "_law_pattern" (defArgs s_law_pattern) (defBody s_law_pattern) (defScope s_law_pattern) .none kV9 dc9 pm9 an9 cd9 ct9), sl9⟩) (c9 : PySem.W.codeIn K cd9 "_law_pattern" = true) (k9 : PySem.W.keepIn K (.ref f9) = true)
    (a10 : PySem.W.nsIn K mainGlobals "_law_drawn" = some (some (.ref f10))) (l10 : K.lookup f10 = some ⟨oc10, od10, .func (PySem.W.fnOf "_law_drawn" "_law_drawn" (defArgs s_law_drawn) (defBody s_law_drawn) (defScope s_law_drawn) .none kV10 dc10 pm10 an10 cd10 ct10), sl10⟩) (c10 : PySem.W.codeIn K cd10 "_law_drawn" = true) (k10 : PySem.W.keepIn K (.ref f10) = true)
    (a11 : PySem.W.nsIn K mainGlobals "_law_run" = some (some (.ref f11))) (l11 : K.lookup f11 = some ⟨oc11, od11, .func (PySem.W.fnOf "_law_run" "_law_run" (defArgs s_law_run) (defBody s_law_run) (defScope s_law_run) .none kV11 dc11 pm11 an11 cd11 ct11), sl11⟩) (c11 : PySem.W.codeIn K cd11 "_law_run" = true) (k11 : PySem.W.keepIn K (.ref f11) = true)
    (a12 : PySem.W.nsIn K mainGlobals "_law_many" = some (some (.ref f12))) (l12 : K.lookup f12 = some ⟨oc12, od12, .func (PySem.W.fnOf "_law_many" "_law_many" (defArgs s_law_many) (defBody s_law_many) (defScope s_law_many) .none kV12 dc12 pm12 an12 cd12 ct12), sl12⟩) (c12 : PySem.W.codeIn K cd12 "_law_many" = true) (k12 : PySem.W.keepIn K (.ref f12) = true)
    (a13 : PySem.W.nsIn K mainGlobals "_law_asked" = some (some (.ref f13))) (l13 : K.lookup f13 = some ⟨oc13, od13, .func (PySem.W.fnOf "_law_asked" "_law_asked" (defArgs s_law_asked) (defBody s_law_asked) (defScope s_law_asked) .none kV13 dc13 pm13 an13 cd13 ct13), sl13⟩) (c13 : PySem.W.codeIn K cd13 "_law_asked" = true) (k13 : PySem.W.keepIn K (.ref f13) = true)
    (a14 : PySem.W.nsIn K mainGlobals "_law_right" = some (some (.ref f14))) (l14 : K.lookup f14 = some ⟨oc14, od14, .func (PySem.W.fnOf "_law_right" "_law_right" (defArgs s_law_right) (defBody s_law_right) (defScope s_law_right) .none kV14 dc14 pm14 an14 cd14 ct14), sl14⟩) (c14 : PySem.W.codeIn K cd14 "_law_right" = true) (k14 : PySem.W.keepIn K (.ref f14) = true)
    (a15 : PySem.W.nsIn K mainGlobals "_law_edge" = some (some (.ref f15))) (l15 : K.lookup f15 = some ⟨oc15, od15, .func (PySem.W.fnOf "_law_edge" "_law_edge" (defArgs s_law_edge) (defBody s_law_edge) (defScope s_law_edge) .none kV15 dc15 pm15 an15 cd15 ct15), sl15⟩) (c15 : PySem.W.codeIn K cd15 "_law_edge" = true) (k15 : PySem.W.keepIn K (.ref f15) = true)
    (a16 : PySem.W.nsIn K mainGlobals "_law_deeper" = some (some (.ref f16))) (l16 : K.lookup f16 = some ⟨oc16, od16, .func (PySem.W.fnOf "_law_deeper" "_law_deeper" (defArgs s_law_deeper) (defBody s_law_deeper) (defScope s_law_deeper) .none kV16 dc16 pm16 an16 cd16 ct16), sl16⟩) (c16 : PySem.W.codeIn K cd16 "_law_deeper" = true) (k16 : PySem.W.keepIn K (.ref f16) = true)
    (a17 : PySem.W.nsIn K mainGlobals "law" = some (some (.ref f17))) (l17 : K.lookup f17 = some ⟨oc17, od17, .func (PySem.W.fnOf "law" "law" (defArgs s_law) (defBody s_law) (defScope s_law) .none kV17 dc17 pm17 an17 cd17 ct17), sl17⟩) (c17 : PySem.W.codeIn K cd17 "law" = true) (k17 : PySem.W.keepIn K (.ref f17) = true)
    {tk1 : Tok} (y1 : PySem.W.nsIn K mainGlobals "MOST_EVENTS" = some (some (.int 400 tk1)))
    (z1 : PySem.W.nsIn K mainGlobals "bool" = some none)
    (z2 : PySem.W.nsIn K mainGlobals "enumerate" = some none)
    (z3 : PySem.W.nsIn K mainGlobals "int" = some none)
    (z4 : PySem.W.nsIn K mainGlobals "isinstance" = some none)
    (z5 : PySem.W.nsIn K mainGlobals "len" = some none)
    (z6 : PySem.W.nsIn K mainGlobals "list" = some none)
    (z7 : PySem.W.nsIn K mainGlobals "max" = some none)
    (z8 : PySem.W.nsIn K mainGlobals "min" = some none)
    (z9 : PySem.W.nsIn K mainGlobals "range" = some none)
    (z10 : PySem.W.nsIn K mainGlobals "reversed" = some none)
    (z11 : PySem.W.nsIn K mainGlobals "sum" = some none)
    (z12 : PySem.W.nsIn K mainGlobals "tuple" = some none)
    :
    ∃ fd : FuncData, (∀ (s : Shared) (v : Value), BindsTo s fd ⟨[v], []⟩ [("script", v)]) ∧ ∀ base : Heap, K.In base → base.Ns mainGlobals mg → (∀ q ∈ tabsOf K (["many_events"] : List Str), CodeOk base mg q.1 q.2) → FnOk l.prog w K mg base CX0 77 fa fd ["script"] (upF K { tabs := (tabsOf K (["many_events"] : List Str)).map (·.2), ct := fun _ => none, cls := clsOf K (["GuessError", "NoRun", "NoGuesser", "NoPattern", "NoRow", "NoName"] : List Str) } 1 F_law_30) := by
  have e := hfa.symm.trans (PySem.W.mg_of X G a17)
  cases e
  obtain ⟨⟨tc1, tP1⟩, t1⟩ := Option.isSome_iff_exists.mp t1
  have F1 := fun_mk (st := s_many_events) l1 c1 k1
  have F2 := fun_mk (st := s_run_of) l2 c2 k2
  have F3 := fun_mk (st := s_events_of) l3 c3 k3
  have F4 := fun_mk (st := s_law_hand) l4 c4 k4
  have F5 := fun_mk (st := s_law_draw) l5 c5 k5
  have F6 := fun_mk (st := s_law_cells) l6 c6 k6
  have F7 := fun_mk (st := s_law_place) l7 c7 k7
  have F8 := fun_mk (st := s_law_times) l8 c8 k8
  have F9 := fun_mk (st := s_law_pattern) l9 c9 k9
  have F10 := fun_mk (st := s_law_drawn) l10 c10 k10
  have F11 := fun_mk (st := s_law_run) l11 c11 k11
  have F12 := fun_mk (st := s_law_many) l12 c12 k12
  have F13 := fun_mk (st := s_law_asked) l13 c13 k13
  have F14 := fun_mk (st := s_law_right) l14 c14 k14
  have F15 := fun_mk (st := s_law_edge) l15 c15 k15
  have F16 := fun_mk (st := s_law_deeper) l16 c16 k16
  have F17 := fun_mk (st := s_law) l17 c17 k17
  have T : Tx K mg ⟨f1, f2, f3, f4, f5, f6, f7, f8, f9, f10, f11, f12, f13, f14, f15, f16, fa, _, _, _, _, _, _, _, _, _, _, _, _, _, _, _, _, _, tc1, tP1, X1, X2, X3, X4, X5, X6⟩ :=
    ⟨F1, PySem.W.mg_of X G a1, F1.binds (ps := ["pattern"]) fun _ _ _ _ _ _ us hl => match us, hl with | [_], _ => rfl,
     F2, PySem.W.mg_of X G a2, F2.binds (ps := ["pattern"]) fun _ _ _ _ _ _ us hl => match us, hl with | [_], _ => rfl,
     F3, PySem.W.mg_of X G a3, F3.binds (ps := ["pattern"]) fun _ _ _ _ _ _ us hl => match us, hl with | [_], _ => rfl,
     F4, PySem.W.mg_of X G a4, F4.binds (ps := ["script", "cell", "k"]) fun _ _ _ _ _ _ us hl => match us, hl with | [_, _, _], _ => rfl,
     F5, PySem.W.mg_of X G a5, F5.binds (ps := ["hand", "limit"]) fun _ _ _ _ _ _ us hl => match us, hl with | [_, _], _ => rfl,
     F6, PySem.W.mg_of X G a6, F6.binds (ps := ["script"]) fun _ _ _ _ _ _ us hl => match us, hl with | [_], _ => rfl,
     F7, PySem.W.mg_of X G a7, F7.binds (ps := ["hand"]) fun _ _ _ _ _ _ us hl => match us, hl with | [_], _ => rfl,
     F8, PySem.W.mg_of X G a8, F8.binds (ps := ["hand", "few"]) fun _ _ _ _ _ _ us hl => match us, hl with | [_, _], _ => rfl,
     F9, PySem.W.mg_of X G a9, F9.binds (ps := ["hand", "deep", "room", "few"]) fun _ _ _ _ _ _ us hl => match us, hl with | [_, _, _, _], _ => rfl,
     F10, PySem.W.mg_of X G a10, F10.binds (ps := ["hand", "few"]) fun _ _ _ _ _ _ us hl => match us, hl with | [_, _], _ => rfl,
     F11, PySem.W.mg_of X G a11, F11.binds (ps := ["pattern", "most"]) fun _ _ _ _ _ _ us hl => match us, hl with | [_, _], _ => rfl,
     F12, PySem.W.mg_of X G a12, F12.binds (ps := ["pattern"]) fun _ _ _ _ _ _ us hl => match us, hl with | [_], _ => rfl,
     F13, PySem.W.mg_of X G a13, F13.binds (ps := ["pattern"]) fun _ _ _ _ _ _ us hl => match us, hl with | [_], _ => rfl,
     F14, PySem.W.mg_of X G a14, F14.binds (ps := ["pattern"]) fun _ _ _ _ _ _ us hl => match us, hl with | [_], _ => rfl,
     F15, PySem.W.mg_of X G a15, F15.binds (ps := ["hand"]) fun _ _ _ _ _ _ us hl => match us, hl with | [_], _ => rfl,
     F16, PySem.W.mg_of X G a16, F16.binds (ps := ["pattern", "many"]) fun _ _ _ _ _ _ us hl => match us, hl with | [_, _], _ => rfl,
     F17,
     PySem.W.mg_of X G aX1, eX1,
     PySem.W.mg_of X G aX2, eX2,
     PySem.W.mg_of X G aX3, eX3,
     PySem.W.mg_of X G aX4, eX4,
     PySem.W.mg_of X G aX5, eX5,
     PySem.W.mg_of X G aX6, eX6,
     ⟨xg2, xt2, xi2, xo2, xb2, xc2, xs2, xk2⟩, xv2,
     xks2_1, xki2_1,
     xks2_2, xki2_2,
     xks2_3, xki2_3,
     xks2_4, xki2_4,
     xks2_5, xki2_5,
     xks2_6, xki2_6,
     PySem.W.mg_none_of X G zve,
     ⟨_, PySem.W.mg_of X G y1⟩,
     PySem.W.mg_none_of X G z1, PySem.W.mg_none_of X G z2, PySem.W.mg_none_of X G z3, PySem.W.mg_none_of X G z4, PySem.W.mg_none_of X G z5, PySem.W.mg_none_of X G z6, PySem.W.mg_none_of X G z7, PySem.W.mg_none_of X G z8, PySem.W.mg_none_of X G z9, PySem.W.mg_none_of X G z10, PySem.W.mg_none_of X G z11, PySem.W.mg_none_of X G z12⟩
  refine ⟨_, fun s v => ?_, fun base KB nb hC => ok_law T ⟨PySem.W.law_code X G t1 (PySem.W.mg_of X G a1) (X _ _ l1) rfl, hC _ ((tabs_mem (xs := (["many_events"] : List Str)) (by simp) t1)), List.mem_map_of_mem (tabs_mem (xs := (["many_events"] : List Str)) (by simp) t1)⟩ ⟨clsOf_at (xs := ["GuessError", "NoRun", "NoGuesser", "NoPattern", "NoRow", "NoName"]) (n := 0) rfl aX1, clsOf_at (xs := ["GuessError", "NoRun", "NoGuesser", "NoPattern", "NoRow", "NoName"]) (n := 1) rfl aX2, clsOf_at (xs := ["GuessError", "NoRun", "NoGuesser", "NoPattern", "NoRow", "NoName"]) (n := 2) rfl aX3, clsOf_at (xs := ["GuessError", "NoRun", "NoGuesser", "NoPattern", "NoRow", "NoName"]) (n := 3) rfl aX4, clsOf_at (xs := ["GuessError", "NoRun", "NoGuesser", "NoPattern", "NoRow", "NoName"]) (n := 4) rfl aX5, clsOf_at (xs := ["GuessError", "NoRun", "NoGuesser", "NoPattern", "NoRow", "NoName"]) (n := 5) rfl aX6⟩⟩
  exact .of_eq rfl
theorem walk {l : PySem.W.OpenLaw} {q : Program} {loose : List Str} {XP : (Str → Option Value) → Heap → Prop} {YP : World → Heap → Prop} {d : DefRec} {K : Params → PySem.W.Frag} (hn : l.most = some 63) (hdf : d.params.defaults = [])
    (hY : ∀ (w : World) (h : Heap), YP w h → (K w.params).In h) (hNT : ∀ w : World, PySem.W.noTabs (K w.params) = true) (hNL : ∀ w : World, noLists (K w.params) = true) (hx : ∀ x ∈ (["many_events"] : List Str), ((PyProof.Rows.recsOf q).find? (fun e => e.name == x)).isSome = true)
    (F : ∀ (w : World) (mg : Str → Option Value) (fa : Addr) (h : Heap), (K w.params).In h → h.Ns mainGlobals mg → mg d.name = some (.ref fa) →
      ∃ fd : FuncData, (∀ (s : Shared) (u : Value), BindsTo s fd ⟨[u], []⟩ [("script", u)]) ∧ ∀ base : Heap, (K w.params).In base → base.Ns mainGlobals mg → (∀ q ∈ tabsOf (K w.params) (["many_events"] : List Str), CodeOk base mg q.1 q.2) → FnOk l.prog w (K w.params) mg base CX0 77 fa fd ["script"] (upF (K w.params) { tabs := (tabsOf (K w.params) (["many_events"] : List Str)).map (·.2), ct := fun _ => none, cls := clsOf (K w.params) (["GuessError", "NoRun", "NoGuesser", "NoPattern", "NoRow", "NoName"] : List Str) } 1 F_law_30)) :
    PySem.W.WalkO q loose XP YP l.row.toRowW d [] (fun f vs => PySem.call f vs) :=
  L2.walk_ofT (n := 63) (k := 77) (x := "script") (CX := fun _ => CX0) (K := K) (tabs := fun w => tabsOf (K w.params) (["many_events"] : List Str)) (sp := fun w => (upF (K w.params) { tabs := (tabsOf (K w.params) (["many_events"] : List Str)).map (·.2), ct := fun _ => none, cls := clsOf (K w.params) (["GuessError", "NoRun", "NoGuesser", "NoPattern", "NoRow", "NoName"] : List Str) } 1 F_law_30)) hn (by decide) hdf ⟨rfl, by decide, by decide, rfl⟩ hY hNT (fun w h lo mean mg mb T X => tabs_at T X hx) F (fun w H a ns hl hO hS => top_spK (hNL w) (law03 hl) hO hS) fun _ _ _ _ _ z => z
end K03
open PySem PySem.W PyProof.Rows
set_option maxRecDepth 100000 in
set_option maxHeartbeats 0 in
theorem PySem.Challenge.cw_wayguess_k03_runs_told_holds : PySem.Challenge.rw_wayguess_k03_runs_told.Holds := by
  w_on; o_law; k_head; (case hw => w_witness2)
  k_fill
  refine K03.walk (l := PySem.Challenge.rw_wayguess_k03_runs_told) rfl rfl (fun w h Y => PySem.W.kIn_of Y) ?NT ?NL ?TB ?F
  case TB => decide +kernel
  case NT => intro w; kernel_rfl
  case NL => intro w; kernel_rfl
  case F =>
    intro w mg fa h KX G hmg
    refine' K03.all_mk KX G hmg ?aX1 ?eX1 ?aX2 ?eX2 ?aX3 ?eX3 ?aX4 ?eX4 ?aX5 ?eX5 ?aX6 ?eX6 ?xg2 ?xt2 ?xi2 ?xo2 ?xb2 ?xc2 ?xs2 ?xk2 ?xv2 ?xks2_1 ?xki2_1 ?xks2_2 ?xki2_2 ?xks2_3 ?xki2_3 ?xks2_4 ?xki2_4 ?xks2_5 ?xki2_5 ?xks2_6 ?xki2_6 ?zve ?t1 ?a1 ?l1 ?c1 ?k1 ?a2 ?l2 ?c2 ?k2 ?a3 ?l3 ?c3 ?k3 ?a4 ?l4 ?c4 ?k4 ?a5 ?l5 ?c5 ?k5 ?a6 ?l6 ?c6 ?k6 ?a7 ?l7 ?c7 ?k7 ?a8 ?l8 ?c8 ?k8 ?a9 ?l9 ?c9 ?k9 ?a10 ?l10 ?c10 ?k10 ?a11 ?l11 ?c11 ?k11 ?a12 ?l12 ?c12 ?k12 ?a13 ?l13 ?c13 ?k13 ?a14 ?l14 ?c14 ?k14 ?a15 ?l15 ?c15 ?k15 ?a16 ?l16 ?c16 ?k16 ?a17 ?l17 ?c17 ?k17 ?y1 ?z1 ?z2 ?z3 ?z4 ?z5 ?z6 ?z7 ?z8 ?z9 ?z10 ?z11 ?z12
    (case aX1 => k_is)
    (case eX1 => kernel_rfl)
    (case aX2 => k_is)
    (case eX2 => kernel_rfl)
    (case aX3 => k_is)
    (case eX3 => kernel_rfl)
    (case aX4 => k_is)
    (case eX4 => kernel_rfl)
    (case aX5 => k_is)
    (case eX5 => kernel_rfl)
    (case aX6 => k_is)
    (case eX6 => kernel_rfl)
    (case xg2 => k_is)
    (case xt2 => k_is)
    (case xi2 => kernel_rfl)
    (case xo2 => k_is)
    (case xb2 => k_is)
    (case xc2 => k_is)
    (case xs2 => k_is)
    (case xk2 => k_is)
    (case xv2 => kernel_rfl)
    (case xks2_1 => kernel_rfl)
    (case xki2_1 => kernel_rfl)
    (case xks2_2 => kernel_rfl)
    (case xki2_2 => kernel_rfl)
    (case xks2_3 => kernel_rfl)
    (case xki2_3 => kernel_rfl)
    (case xks2_4 => kernel_rfl)
    (case xki2_4 => kernel_rfl)
    (case xks2_5 => kernel_rfl)
    (case xki2_5 => kernel_rfl)
    (case xks2_6 => kernel_rfl)
    (case xki2_6 => kernel_rfl)
    (case zve => k_is)
    (case t1 => kernel_rfl)
    (case a1 => k_is); (case l1 => k_is); (case c1 => k_is); (case k1 => k_is)
    (case a2 => k_is); (case l2 => k_is); (case c2 => k_is); (case k2 => k_is)
    (case a3 => k_is); (case l3 => k_is); (case c3 => k_is); (case k3 => k_is)
    (case a4 => k_is); (case l4 => k_is); (case c4 => k_is); (case k4 => k_is)
    (case a5 => k_is); (case l5 => k_is); (case c5 => k_is); (case k5 => k_is)
    (case a6 => k_is); (case l6 => k_is); (case c6 => k_is); (case k6 => k_is)
    (case a7 => k_is); (case l7 => k_is); (case c7 => k_is); (case k7 => k_is)
    (case a8 => k_is); (case l8 => k_is); (case c8 => k_is); (case k8 => k_is)
    (case a9 => k_is); (case l9 => k_is); (case c9 => k_is); (case k9 => k_is)
    (case a10 => k_is); (case l10 => k_is); (case c10 => k_is); (case k10 => k_is)
    (case a11 => k_is); (case l11 => k_is); (case c11 => k_is); (case k11 => k_is)
    (case a12 => k_is); (case l12 => k_is); (case c12 => k_is); (case k12 => k_is)
    (case a13 => k_is); (case l13 => k_is); (case c13 => k_is); (case k13 => k_is)
    (case a14 => k_is); (case l14 => k_is); (case c14 => k_is); (case k14 => k_is)
    (case a15 => k_is); (case l15 => k_is); (case c15 => k_is); (case k15 => k_is)
    (case a16 => k_is); (case l16 => k_is); (case c16 => k_is); (case k16 => k_is)
    (case a17 => k_is); (case l17 => k_is); (case c17 => k_is); (case k17 => k_is)
    (case y1 => k_is)
    (case z1 => k_is); (case z2 => k_is); (case z3 => k_is); (case z4 => k_is); (case z5 => k_is); (case z6 => k_is); (case z7 => k_is); (case z8 => k_is); (case z9 => k_is); (case z10 => k_is); (case z11 => k_is); (case z12 => k_is)
