import PyProof.Rows.All
import Wide.All
import OpenK.AllK
import Wide.FinOn
import PyProof.EqAt
import PyProof.EqKinds
import PyProof.TupleCall
import KE.BitLaws
import PyProof.Rows.StrIntSpec
import KE.KSortTupG
import KE.KRevSl
import KE.RegKIsAll
import PyProof.Rows.SetFrom
import PyProof.WalksMore
import PyProof.SetRoads
import PyProof.SetKind
import PyProof.CollectWalk
import PyProof.ListRange
import PyProof.Rows.SortShellAny
import PyProof.TupleKey
import PyProof.Rows.SetListFold
import PyProof.DictCompW
import KE.KSortTup
import PyProof.Rows.SortG.SortRunsSt
import KE.KNest
import PyProof.ReprRoads
import PySem.Challenge.RW_evenblocks_k44_turned_refused
set_option Elab.async false
set_option linter.all false
set_option maxRecDepth 100000
namespace L2
open PySem PySem.Spec PyProof.Rows
abbrev Key := Sum Int Str
def keyIs : Key → Value → Bool
  | .inl k, v => Value.isInt k v
  | .inr x, v => Value.isStrOf x v
def keyH (w : World) : Key → Int
  | .inl k => hashInt k
  | .inr x => hashStr w x
theorem keyIs_shape : ∀ {k : Key} {v : Value}, keyIs k v = true → (∃ i t, k = Sum.inl i ∧ v = Value.int i t) ∨ (∃ x t, k = Sum.inr x ∧ v = Value.str x t)
  | .inl i, v, h => by
    obtain ⟨t, e⟩ := Value.isInt_shape (k := i) (v := v) h
    exact .inl ⟨i, t, rfl, e⟩
  | .inr x, v, h => by
    obtain ⟨t, e⟩ := Value.isStrOf_shape (x := x) (v := v) h
    exact .inr ⟨x, t, rfl, e⟩
theorem keyIs_int (i : Int) (t : Tok) : keyIs (.inl i) (.int i t) = true := by simp [keyIs, Value.isInt]
theorem keyIs_str (x : Str) (t : Tok) : keyIs (.inr x) (.str x t) = true := by simp [keyIs, Value.isStrOf]
theorem key_ll (a b : Int) : decide ((Sum.inl a : Key) = Sum.inl b) = (a == b) := by
  by_cases e : a = b
  · subst e; simp
  · have h : ¬ (Sum.inl a : Key) = Sum.inl b := fun q => e (Sum.inl.inj q)
    rw [decide_eq_false h]
    exact (beq_eq_false_iff_ne.mpr e).symm
theorem key_rr (a b : Str) : decide ((Sum.inr a : Key) = Sum.inr b) = decide (a = b) := by
  by_cases e : a = b
  · subst e; simp
  · have h : ¬ (Sum.inr a : Key) = Sum.inr b := fun q => e (Sum.inr.inj q)
    rw [decide_eq_false h, decide_eq_false e]
theorem key_lr (a : Int) (b : Str) : decide ((Sum.inl a : Key) = Sum.inr b) = false := decide_eq_false (fun q => nomatch q)
theorem key_rl (a : Str) (b : Int) : decide ((Sum.inr a : Key) = Sum.inl b) = false := decide_eq_false (fun q => nomatch q)
def mixKind (prog : Program) (w : World) : PySem.KeyKind prog w Key where
  is := keyIs
  hash := keyH w
  inj := fun v a b ha hb => by
    rcases keyIs_shape ha with ⟨i, t, rfl, rfl⟩ | ⟨x, t, rfl, rfl⟩
    · rcases keyIs_shape hb with ⟨j, u, rfl, e⟩ | ⟨y, u, rfl, e⟩
      · injection e with e1 _; rw [e1]
      · exact nomatch e
    · rcases keyIs_shape hb with ⟨j, u, rfl, e⟩ | ⟨y, u, rfl, e⟩
      · exact nomatch e
      · injection e with e1 _; rw [e1]
  byValue := fun k v h => by
    rcases keyIs_shape h with ⟨i, t, rfl, rfl⟩ | ⟨x, t, rfl, rfl⟩ <;> rfl
  pyHash := fun hv h => by
    rcases keyIs_shape hv with ⟨i, t, rfl, rfl⟩ | ⟨x, t, rfl, rfl⟩
    · exact wpAny_pyHash_int h
    · exact wpAny_pyHash_str h
  eqBool := fun hu hv h => by
    rcases keyIs_shape hu with ⟨i, t, rfl, rfl⟩ | ⟨x, t, rfl, rfl⟩
    · rcases keyIs_shape hv with ⟨j, u, rfl, rfl⟩ | ⟨y, u, rfl, rfl⟩
      · rw [key_ll] at h; exact wpAny_eqBool_int h
      · rw [key_lr] at h; exact SeqAt.EqAt.int_str i t y u _ _ _ _ h
    · rcases keyIs_shape hv with ⟨j, u, rfl, rfl⟩ | ⟨y, u, rfl, rfl⟩
      · rw [key_rl] at h; exact SeqAt.EqAt.str_int x t j u _ _ _ _ h
      · rw [key_rr] at h; exact wpAny_eqBool_str h
  «strs» := fun k x t v h => by
    rcases keyIs_shape h with ⟨i, u, rfl, e⟩ | ⟨y, u, rfl, e⟩
    · exact nomatch e
    · injection e with e1 _
      subst e1
      cases v <;> rfl
theorem mixKind_int (prog : Program) (w : World) (i : Int) (t : Tok) : (mixKind prog w).is (.inl i) (.int i t) = true := keyIs_int i t
theorem mixKind_str (prog : Program) (w : World) (x : Str) (t : Tok) : (mixKind prog w).is (.inr x) (.str x t) = true := keyIs_str x t
end L2
namespace L2
open PySem PySem.Spec PyProof.Rows
inductive V where
  | non | bl (b : Bool) | int (i : Int) | str (x : Str) | byt (b : Array UInt8) | flt (b : UInt64) | ref (a : Addr) | ty (n : String)
  deriving DecidableEq
def RelV : V → Value → Prop
  | .non, u => u = Value.none
  | .bl b, u => u = Value.bool b
  | .int i, u => ∃ t, u = Value.int i t
  | .str x, u => ∃ t, u = Value.str x t
  | .byt b, u => ∃ t, u = Value.bytes b t
  | .flt b, u => ∃ t, u = Value.float b t
  | .ref a, u => u = Value.ref a
  | .ty n, u => u = Value.type n
abbrev Vals : List V → List Value → Prop := Paired RelV
theorem Vals.length {xs : List V} {us : List Value} (r : Vals xs us) : xs.length = us.length := Paired.length r
theorem Vals.get : ∀ {xs : List V} {us : List Value} {i : Nat} {x : V}, Vals xs us → xs[i]? = some x → ∃ u, us[i]? = some u ∧ RelV x u
  | _, _, _, _, .nil, e => by simp at e
  | _, _, 0, _, .cons r _, e => by simp at e; subst e; exact ⟨_, rfl, r⟩
  | _, _, i + 1, x, .cons _ t, e => by
    obtain ⟨u, h1, h2⟩ := Vals.get (i := i) (x := x) t (by simpa using e)
    exact ⟨u, by simpa using h1, h2⟩
theorem Vals.set {x : V} {u : Value} (r : RelV x u) : ∀ {xs : List V} {us : List Value} (i : Nat), Vals xs us → Vals (xs.set i x) (us.set i u)
  | _, _, _, .nil => .nil
  | _, _, 0, .cons _ t => .cons r t
  | _, _, i + 1, .cons q t => .cons q (Vals.set r i t)
theorem Vals.append : ∀ {xs ys : List V} {us ws : List Value}, Vals xs us → Vals ys ws → Vals (xs ++ ys) (us ++ ws)
  | _, _, _, _, .nil, s => s
  | _, _, _, _, .cons r t, s => .cons r (Vals.append t s)
theorem Vals.take : ∀ {xs : List V} {us : List Value} (n : Nat), Vals xs us → Vals (xs.take n) (us.take n)
  | _, _, 0, _ => .nil
  | _, _, _ + 1, .nil => .nil
  | _, _, n + 1, .cons r t => .cons r (Vals.take n t)
theorem Vals.drop : ∀ {xs : List V} {us : List Value} (n : Nat), Vals xs us → Vals (xs.drop n) (us.drop n)
  | _, _, 0, r => r
  | _, _, _ + 1, .nil => .nil
  | _, _, n + 1, .cons _ t => Vals.drop n t
def RelO : Option V → Option Value → Prop
  | some v, some u => RelV v u
  | none, none => True
  | _, _ => False
def KV {κ : Type} : List (κ × V) → List (κ × Value) → Prop := Paired fun (p : κ × V) (q : κ × Value) => p.1 = q.1 ∧ RelV p.2 q.2
def kV : Key → V
  | .inl i => .int i
  | .inr x => .str x
inductive HO where
  /-- a list -/
  | lst (xs : List V)
  /-- a tuple (never changes) -/
  | tup (xs : List V)
  /-- a dict whose keys are ints and texts; one whose keys are tuples of ints and texts (the empty one is both) -/
  | dK (kvs : List (Key × V)) | dT (kvs : List (List Key × V))
  /-- a set of ints: its members, its size -/
  | set (S : Int → Bool) (n : Nat)
  /-- an instance of the class at C, its dict at dx, its attributes -/
  | ins (C dx : Addr) (fs : List (Str × V))
  /-- the dict of the instance at x -/
  | own (x : Addr)
  /-- the dict of an exception -/
  | xd (fs : List (Str × V))
  /-- a bound method, f of x -/
  | met (f x : Addr)
  /-- a range object lo, lo + 1, .. below hi -/
  | rng (lo hi : Int)
  /-- a thing that is known to the object (the script; a dict while a loop walks it): read, never written while it is so -/
  | frz (o : Obj) (u : HO)
  /-- a code object's table -/
  | tbl (ps : Array Value)
  /-- any other thing, by what is true of its one object (a def of one's own: SetO a S n := HO.ext fun h => ..) -/
  | ext (φ : Heap → Prop)
abbrev Hp := Addr → Option HO
def upd (H : Hp) (a : Addr) (o : HO) : Hp := fun b => if b = a then some o else H b
theorem upd_same {H : Hp} {a : Addr} {o : HO} : upd H a o a = some o := by unfold upd; rw [if_pos rfl]
theorem upd_ne {H : Hp} {a b : Addr} {o : HO} (h : b ≠ a) : upd H a o b = H b := by unfold upd; rw [if_neg h]
theorem upd_upd {H : Hp} {a : Addr} {o u : HO} : upd (upd H a o) a u = upd H a u := by
  funext b; unfold upd; split <;> rfl
theorem ne_of {H : Hp} {a b : Addr} {o u : HO} (h : H a = some o) (h' : H b = some u) (d : o ≠ u) : a ≠ b := by
  intro e; subst e; rw [h] at h'; exact d (Option.some.inj h')
theorem ne_of_none {H : Hp} {a b : Addr} {o : HO} (h : H a = some o) (h' : H b = none) : a ≠ b := by
  intro e; subst e; rw [h] at h'; cases h'
section
variable (P : Program) (w : World)
def ObjOk (H : Hp) (h : Heap) (a : Addr) : HO → Prop
  | .lst xs => xs.length ≤ sizeLine ∧ ∃ (its : List Value) (n : Nat), Vals xs its ∧ h.get? a = some { cls := .type "list", data := .seq its.toArray n }
  | .tup xs => xs.length ≤ sizeLine ∧ ∃ its : List Value, Vals xs its ∧ IsTup h a its.toArray
  | .dK kvs => kvs.length ≤ sizeLine ∧ (a == sysModules) = false ∧ ∃ vs, KV kvs vs ∧ h.DictOf (mixKind P w) a vs
  | .dT kvs => kvs.length ≤ sizeLine ∧ (a == sysModules) = false ∧ ∃ xs : List (List Key × Addr × Value),
      Paired (fun (p : List Key × V) (q : List Key × Addr × Value) => p.1 = q.1 ∧ H q.2.1 = some (.tup (p.1.map kV)) ∧ RelV p.2 q.2.2) kvs xs ∧
      ∃ o es ep, h.get? a = some o ∧ o.ExactDict ∧ o.data = .dict es ep ∧ es.toList = xs.map (entryOfKey (tupleKind (mixKind P w))) ∧ (xs.map (·.1)).Nodup
  | .set S n => h.SetOf (intKind P w) a S n
  | .ins C dx fs => H dx = some (.own a) ∧ fs.length ≤ 1000 ∧ dx ≠ a ∧ h.get? a = some (PySem.W.instObj C dx) ∧
      ∃ mA, h.Ns1 dx mA ∧ (∀ f, RelO (fs.lookup f) (mA f)) ∧ PySem.Within mA (fs.map (·.1))
  | .own _ => ∃ o, h.get? a = some o
  | .xd fs => ∃ mA, h.Ns1 a mA ∧ ∀ f, RelO (fs.lookup f) (mA f)
  | .rng lo hi => ∃ t u v, h.get? a = some { cls := .type "range", data := .fields #[.int lo t, .int hi u, .int 1 v] }
  | .frz o u => h.get? a = some o ∧ ObjOk H h a u
  | .tbl ps => h.get? a = some { cls := .none, data := .fields ps }
  | .met f x => h.get? a = some (PySem.W.methodObj (.ref f) (.ref x))
  | .ext φ => φ h ∧ (∃ o, h.get? a = some o) ∧ ∀ h1 h2 : Heap, φ h1 → (∀ o, h1.get? a = some o → h2.get? a = some o) → φ h2
def HOk (H : Hp) (h : Heap) : Prop := ∀ a o, H a = some o → ObjOk P w H h a o
end
section
variable {P : Program} {w : World} {H H' : Hp} {h h' : Heap} {a : Addr} {o : HO}
theorem ObjOk.lt (x : ObjOk P w H h a o) : a < h.objs.size := by
  cases o with
  | lst xs => obtain ⟨_, _, _, _, e⟩ := x; exact Heap.lt_size e
  | tup xs => obtain ⟨_, _, _, p⟩ := x; exact p.lt
  | dK kvs => obtain ⟨_, _, _, _, o, _, _, e, _⟩ := x; exact Heap.lt_size e
  | dT kvs => obtain ⟨_, _, _, _, o, _, _, e, _⟩ := x; exact Heap.lt_size e
  | set S n => obtain ⟨o, _, _, _, e, _⟩ := x; exact Heap.lt_size e
  | ins C dx fs => obtain ⟨_, _, _, e, _⟩ := x; exact Heap.lt_size e
  | own y => obtain ⟨_, e⟩ := x; exact Heap.lt_size e
  | xd fs => obtain ⟨_, ⟨_, _, _, e, _⟩, _⟩ := x; exact Heap.lt_size e
  | rng lo hi => obtain ⟨_, _, _, e⟩ := x; exact Heap.lt_size e
  | frz ob u => obtain ⟨e, _⟩ := x; exact Heap.lt_size e
  | tbl ps => exact Heap.lt_size (show h.get? a = some _ from x)
  | met f y => exact Heap.lt_size (show h.get? a = some _ from x)
  | ext φ => obtain ⟨_, ⟨_, e⟩, _⟩ := x; exact Heap.lt_size e
theorem Paired.mapP {α β : Type} {F G : α → β → Prop} : ∀ {l₁ : List α} {l₂ : List β}, Paired F l₁ l₂ → (∀ a b, F a b → G a b) → Paired G l₁ l₂
  | _, _, .nil, _ => .nil
  | _, _, .cons r t, f => .cons (f _ _ r) (Paired.mapP t f)
theorem ObjOk.stay (x : ObjOk P w H h a o) (k : ∀ b u, (b = a ∨ H b = some (.own a)) → h.get? b = some u → h'.get? b = some u)
    (ho : ∀ b, H b = some (.own a) → H' b = some (.own a)) (ht : ∀ b xs, H b = some (.tup xs) → H' b = some (.tup xs)) : ObjOk P w H' h' a o := by
  induction o with
  | lst xs => obtain ⟨z, its, n, r, e⟩ := x; exact ⟨z, its, n, r, k _ _ (.inl rfl) e⟩
  | tup xs => obtain ⟨z, its, r, ob, e, c⟩ := x; exact ⟨z, its, r, ob, k _ _ (.inl rfl) e, c⟩
  | dK kvs => obtain ⟨z, y, vs, r, ob, es, ep, e, c⟩ := x; exact ⟨z, y, vs, r, ob, es, ep, k _ _ (.inl rfl) e, c⟩
  | dT kvs =>
    obtain ⟨z, y, xs, r, ob, es, ep, e, c⟩ := x
    exact ⟨z, y, xs, Paired.mapP r fun p q z => ⟨z.1, ht _ _ z.2.1, z.2.2⟩, ob, es, ep, k _ _ (.inl rfl) e, c⟩
  | set S n => obtain ⟨ob, es, ep, t, e, c⟩ := x; exact ⟨ob, es, ep, t, k _ _ (.inl rfl) e, c⟩
  | ins C dx fs =>
    obtain ⟨d, z, ne, e, mA, ⟨od, es, ep, e2, c⟩, r⟩ := x
    exact ⟨ho _ d, z, ne, k _ _ (.inl rfl) e, mA, ⟨od, es, ep, k _ _ (.inr d) e2, c⟩, r⟩
  | own y => obtain ⟨ob, e⟩ := x; exact ⟨ob, k _ _ (.inl rfl) e⟩
  | xd fs => obtain ⟨mA, ⟨od, es, ep, e, c⟩, r⟩ := x; exact ⟨mA, ⟨od, es, ep, k _ _ (.inl rfl) e, c⟩, r⟩
  | rng lo hi => obtain ⟨t, u, v, e⟩ := x; exact ⟨t, u, v, k _ _ (.inl rfl) e⟩
  | frz ob u ih => obtain ⟨e, q⟩ := x; exact ⟨k _ _ (.inl rfl) e, ih q⟩
  | tbl ps =>
    have e : h.get? a = some { cls := .none, data := .fields ps } := x
    show h'.get? a = some { cls := .none, data := .fields ps }
    exact k a _ (.inl rfl) e
  | met f y =>
    have e : h.get? a = some (PySem.W.methodObj (.ref f) (.ref y)) := x
    show h'.get? a = some (PySem.W.methodObj (.ref f) (.ref y))
    exact k a _ (.inl rfl) e
  | ext φ => obtain ⟨p, ⟨o, e⟩, st⟩ := x; exact ⟨st _ _ p fun o q => k _ _ (.inl rfl) q, ⟨o, k _ _ (.inl rfl) e⟩, st⟩
theorem HOk.lt (x : HOk P w H h) (e : H a = some o) : a < h.objs.size := (x a o e).lt
theorem HOk.fresh (x : HOk P w H h) (e : h.objs.size ≤ a) : H a = none := by
  cases q : H a with
  | none => rfl
  | some u => exact absurd (Nat.lt_of_lt_of_le (x.lt q) e) (Nat.lt_irrefl _)
theorem HOk.kept (x : HOk P w H h) (k : ∀ b u, h.get? b = some u → h'.get? b = some u) : HOk P w H h' := fun a o e =>
  (x a o e).stay (fun b u _ q => k b u q) (fun _ q => q) fun _ _ q => q
theorem HOk.laid (x : HOk P w H h) (k : ∀ b u, h.get? b = some u → h'.get? b = some u) (hp : h.objs.size ≤ a) (new : ObjOk P w (upd H a o) h' a o) : HOk P w (upd H a o) h' := fun b u e => by
  have hn := x.fresh hp
  by_cases hb : b = a
  · subst hb; rw [upd_same] at e; cases e; exact new
  · rw [upd_ne hb] at e
    exact (x b u e).stay (fun c v _ q => k c v q) (fun c q => by rw [upd_ne (ne_of_none q hn)]; exact q) fun c xs q => by rw [upd_ne (ne_of_none q hn)]; exact q
end
def Rd (H : Hp) (a : Addr) (u : HO) : Prop := H a = some u ∨ ∃ o, H a = some (.frz o u)
theorem Rd.ok {P : Program} {w : World} {H : Hp} {h : Heap} {a : Addr} {u : HO} (r : Rd H a u) (x : HOk P w H h) : ObjOk P w H h a u := by
  rcases r with r | ⟨o, r⟩
  · exact x a u r
  · obtain ⟨_, q⟩ := x a _ r
    exact q
def Mut : Option HO → Prop
  | some (.lst _) => True
  | some (.dK _) => True
  | some (.dT _) => True
  | some (.set _ _) => True
  | some (.ins _ _ _) => True
  | some (.ext _) => True
  | _ => False
section
variable {P : Program} {w : World} {H : Hp} {h h' : Heap} {x e : Addr} {o' : HO}
theorem HOk.write (ok : HOk P w H h) (mu : Mut (H x)) (he : e = x ∨ H e = some (.own x)) (k : ∀ b u, b ≠ e → h.get? b = some u → h'.get? b = some u) (heo : ∃ u, h'.get? e = some u)
    (new : ObjOk P w (upd H x o') h' x o') : HOk P w (upd H x o') h' := fun b u q => by
  have nown : ∀ c y, H c = some (.own y) → c ≠ x := fun c y r z => by subst z; rw [r] at mu; exact mu
  have ntup : ∀ c xs, H c = some (.tup xs) → c ≠ x := fun c xs r z => by subst z; rw [r] at mu; exact mu
  by_cases hb : b = x
  · subst hb; rw [upd_same] at q; cases q; exact new
  · rw [upd_ne hb] at q
    by_cases hbe : b = e
    · have q' : H b = some (.own x) := by
        rcases he with z | z
        · exact absurd (hbe.trans z) hb
        · rw [hbe]; exact z
      rw [q] at q'; cases q'
      obtain ⟨v, hv⟩ := heo
      exact ⟨v, by rw [hbe]; exact hv⟩
    · refine (ok b u q).stay (fun c v hc r => k c v ?_ r) (fun c r => by rw [upd_ne (nown c b r)]; exact r) fun c xs r => by rw [upd_ne (ntup c xs r)]; exact r
      rcases hc with rfl | hc
      · exact hbe
      · rintro rfl
        rcases he with z | z
        · exact nown c b hc z
        · rw [hc] at z; cases z; exact hb rfl
end
structure Un (fs ex : List Addr) (H H' : Hp) (h h' : Heap) : Prop where
  keep : ∀ b o, h.get? b = some o → H b = none → b ∉ fs → b ∉ ex → h'.get? b = some o
  slot : ∀ b o, h.get? b = some o → H b = none → b ∈ fs → b ∉ ex → ∃ sl, h'.get? b = some { o with slots := sl }
  free : ∀ b o, h.get? b = some o → H b = none → b ∉ ex → H' b = none
  there : ∀ b o, h.get? b = some o → b ∉ ex → ∃ o', h'.get? b = some o'
  tups : ∀ b xs, H b = some (.tup xs) → H' b = some (.tup xs)
  frzs : ∀ b o u, H b = some (.frz o u) → H' b = some (.frz o u)
  tbls : ∀ b ps, H b = some (.tbl ps) → ∃ more, H' b = some (.tbl (ps ++ more))
section
variable {fs fs' ex ex' : List Addr} {H H1 H2 : Hp} {h h1 h2 h' : Heap} {a x e : Addr} {o : HO}
theorem Un.any (u : Un fs ex H H1 h h1) {b : Addr} {ob : Obj} (q : h.get? b = some ob) (n : H b = none) (hx : b ∉ ex) : ∃ sl, h1.get? b = some { ob with slots := sl } := by
  by_cases hb : b ∈ fs
  · exact u.slot b ob q n hb hx
  · exact ⟨ob.slots, u.keep b ob q n hb hx⟩
theorem Un.kept (k : ∀ b u, h.get? b = some u → h'.get? b = some u) : Un fs ex H H h h' :=
  ⟨fun b ob q _ _ _ => k b ob q, fun b ob q _ _ _ => ⟨ob.slots, k b ob q⟩, fun _ _ _ n _ => n, fun b ob q _ => ⟨ob, k b ob q⟩, fun _ _ q => q, fun _ _ _ q => q, fun _ ps q => ⟨#[], by rw [q]; simp⟩⟩
theorem Un.refl : Un fs ex H H h h := Un.kept fun _ _ q => q
theorem Un.laid (k : ∀ b u, h.get? b = some u → h'.get? b = some u) (hp : h.objs.size ≤ a) (hn : H a = none) : Un fs ex H (upd H a o) h h' where
  keep := fun b u q _ _ _ => k b u q
  slot := fun b u q _ _ _ => ⟨u.slots, k b u q⟩
  free := fun b u q n _ => by rw [upd_ne (Nat.ne_of_lt (Nat.lt_of_lt_of_le (Heap.lt_size q) hp))]; exact n
  there := fun b u q _ => ⟨u, k b u q⟩
  tups := fun b xs q => by rw [upd_ne (ne_of_none q hn)]; exact q
  frzs := fun b u xs q => by rw [upd_ne (ne_of_none q hn)]; exact q
  tbls := fun b ps q => ⟨#[], by rw [upd_ne (ne_of_none q hn), q]; simp⟩
theorem Un.write (mu : Mut (H x)) (he : e = x ∨ H e = some (.own x)) (k : ∀ b u, b ≠ e → h.get? b = some u → h'.get? b = some u) (heo : ∃ u, h'.get? e = some u) : Un fs ex H (upd H x o) h h' := by
  have hx : ∀ b, H b = none → b ≠ x := fun b n z => by subst z; rw [n] at mu; exact mu
  have hb : ∀ b, H b = none → b ≠ e := fun b n z => by
    subst z
    rcases he with r | r
    · exact hx b n r
    · rw [n] at r; cases r
  have hm : ∀ b u, H b = some u → ¬ Mut (some u) → b ≠ x := fun b u q nm z => by subst z; rw [q] at mu; exact nm mu
  refine ⟨fun b u q n _ _ => k b u (hb b n) q, fun b u q n _ _ => ⟨u.slots, k b u (hb b n) q⟩, fun b u q n _ => by rw [upd_ne (hx b n)]; exact n, fun b u q _ => ?_,
    fun b xs q => by rw [upd_ne (hm b _ q fun z => z)]; exact q, fun b u xs q => by rw [upd_ne (hm b _ q fun z => z)]; exact q, fun b ps q => ⟨#[], by rw [upd_ne (hm b _ q fun z => z), q]; simp⟩⟩
  by_cases hbe : b = e
  · subst hbe; exact heo
  · exact ⟨u, k b u hbe q⟩
end
def trk (h : Heap) (H : Hp) : List Addr := (List.range h.objs.size).filter fun a => (H a).isSome
def hidT (h : Heap) (H : Hp) : Heap := PySem.W.hideAll h (trk h H)
theorem hidT_size (h : Heap) (H : Hp) : (hidT h H).objs.size = h.objs.size := PySem.W.hideAll_size _ _
theorem hidT_get {h : Heap} {H : Hp} {b : Addr} {o : Obj} (e : h.get? b = some o) (n : H b = none) : (hidT h H).get? b = some o :=
  PySem.W.hideAll_get _ e fun hm => by
    have q : (H b).isSome = true := (List.mem_filter.mp hm).2
    rw [n] at q; simp at q
theorem of_hidT {h : Heap} {H : Hp} {b : Addr} {o : Obj} (e : (hidT h H).get? b = some o) : h.get? b = some o ∧ H b = none := by
  have e' : h.get? b = some o := PySem.W.of_hideAll (trk h H) e
  refine ⟨e', ?_⟩
  cases q : H b with
  | none => rfl
  | some x =>
    have hm : b ∈ trk h H := List.mem_filter.mpr ⟨List.mem_range.mpr (Heap.lt_size e'), by simp [q]⟩
    have z : (hidT h H).get? b = none := PySem.W.hideAll_none (trk h H) hm
    rw [z] at e; cases e
def allNews (g h : Heap) (L : Addr) : List (Addr × Obj) := (List.range h.objs.size).filterMap fun a => if a = L ∨ (g.get? a).isSome = true then none else (h.get? a).map fun o => (a, o)
def rest (g h : Heap) (L d : Addr) : List (Addr × Obj) := (allNews g h L).filter fun p => decide (p.1 ≠ d)
end L2
namespace L2
open PySem PySem.Spec PyProof.Rows
structure Mod (K : PySem.W.Frag) (mg : Str → Option Value) (base : Heap) : Prop where
  kin : K.In base
  glob : base.Ns mainGlobals mg
  blt : ∃ mb, base.Ns builtinsNs mb ∧ ∀ x : Str, x ≠ "__name__" → mb x = bootBuiltins x
  nolimit : base.NoLimit
/-- the context: a def's body (or a comprehension's block) running. base: fixed through the whole law; s₀, H₀: the entry; outer: the frames whose slots others may change (a def's callers); stack: all frames that run;
   ex: iterators that were made ahead of the entry and are walked here (a comprehension's); fn: the names whose cells were made at the entry (a def: all; a comprehension's block: its own); calm: not within an except suite; pn: pins that every state bears; xe: what is wanted of an exception that leaves the code -/
structure Cx where
  prog : Program
  w : World
  K : PySem.W.Frag
  mg : Str → Option Value
  base : Heap
  A : Around
  N : List Str
  s_0 : Shared
  H_0 : Hp
  env : Env
  outer : List Env
  stack : List Env
  ex : List Addr
  fn : Str → Bool
  calm : Bool
  pn : List (Addr × Obj)
  xe : Value → Shared → Prop
def frs (l : List Env) : List Addr := l.filterMap (·.frame)
abbrev Cx.fs (X : Cx) : List Addr := frs X.outer
def Vis (sc : Scope) (x : Str) : Prop := sc.names.lookup x = some .local ∨ sc.names.lookup x = some .cell ∨ sc.names.lookup x = some .free
def Loc (sc : Scope) (x : Str) : Prop := sc.names.lookup x = some .local ∨ sc.names.lookup x = some .cell
def Look (env : Env) (h : Heap) (m : Str → Option Value) (x : Str) (u : Value) : Prop :=
  (env.kindOf x = some .local ∧ m x = some u) ∨ ((env.kindOf x = some .cell ∨ env.kindOf x = some .free) ∧ ∃ c, env.cells.lookup x = some c ∧ h.IsCell c (some u))
structure Cx.Ok (X : Cx) : Prop where
  mod : Mod X.K X.mg X.base
  kind : X.env.scope.kind = .function
  glob : X.env.globals = mainGlobals
  blt : X.env.builtins = builtinsNs
  above : X.s_0.heap.objs.size ≤ X.env.locals
  inj : ∀ x y c, X.env.cells.lookup x = some c → X.env.cells.lookup y = some c → x = y
  has : ∀ x, (X.env.kindOf x = some .cell ∨ X.env.kindOf x = some .free) → ∃ c, X.env.cells.lookup x = some c
  cab : ∀ x c, X.fn x = true → X.env.cells.lookup x = some c → X.s_0.heap.objs.size ≤ c
  hd : X.calm = true → X.A.handled = none
  frames : X.A.frames = some X.stack
  stk : X.stack = X.outer ∨ (X.stack = X.env :: X.outer ∧ X.env.frame = some X.env.locals)
  exf : ∀ b ∈ X.ex, b ≠ X.env.locals ∧ ∀ x c, X.env.cells.lookup x = some c → c ≠ b
  bs : ∀ b o, X.base.get? b = some o → X.s_0.heap.get? b = some o ∧ X.H_0 b = none
  bsz : X.base.objs.size ≤ X.s_0.heap.objs.size
  noex : ∀ b o, X.base.get? b = some o → b ∉ X.ex
  exfs : ∀ b ∈ X.ex, b ∉ X.fs
  funs : X.s_0.heap.FunFrames X.base X.outer
  frf : ∀ b ∈ X.fs, X.H_0 b = none
structure Inv (X : Cx) (pins : List (Addr × Obj)) (σ : List (Option V)) (H : Hp) (s : Shared) : Prop where
  ok : X.Ok
  os : s.os = X.s_0.os
  bare : AllBare s.gens
  base : Un X.fs X.ex X.H_0 H X.s_0.heap s.heap
  loc : ∃ m, s.heap.Ns X.env.locals m ∧ ∀ (i : Nat) (x : Str) (v : V), X.N[i]? = some x → σ[i]? = some (some v) → Vis X.env.scope x → ∃ u, RelV v u ∧ Look X.env s.heap m x u
  cell : ∀ x c, X.env.cells.lookup x = some c → ∃ v, s.heap.IsCell c v
  free : H X.env.locals = none
  freeC : ∀ x c, X.env.cells.lookup x = some c → H c = none
  pin : ∀ p ∈ X.pn ++ pins, s.heap.get? p.1 = some p.2 ∧ H p.1 = none ∧ p.1 ≠ X.env.locals ∧ p.1 ∉ X.fs ∧ ∀ v, p.2.data ≠ .cell v
  hok : HOk X.prog X.w H s.heap
  len : σ.length = X.N.length
section
variable {X : Cx} {pins : List (Addr × Obj)} {σ : List (Option V)} {H H' : Hp} {s : Shared} {h' : Heap}
theorem Cx.Ok.nofr (ok : X.Ok) {b : Addr} {o : Obj} (e : X.base.get? b = some o) : b ∉ X.fs := fun hb => by
  have := (ok.funs.mem hb).1
  rw [e] at this; cases this
theorem Inv.bs (I : Inv X pins σ H s) : ∀ b o, X.base.get? b = some o → s.heap.get? b = some o ∧ H b = none := fun b o e =>
  ⟨I.base.keep b o (I.ok.bs b o e).1 (I.ok.bs b o e).2 (I.ok.nofr e) (I.ok.noex b o e), I.base.free b o (I.ok.bs b o e).1 (I.ok.bs b o e).2 (I.ok.noex b o e)⟩
theorem Inv.bk (I : Inv X pins σ H s) : ∀ b o, X.base.get? b = some o → s.heap.get? b = some o := fun b o e => (I.bs b o e).1
theorem Inv.mod (I : Inv X pins σ H s) : Mod X.K X.mg X.base := I.ok.mod
theorem Inv.kIn (I : Inv X pins σ H s) : X.K.In s.heap := I.ok.mod.kin.keeps I.bk
theorem Inv.fr (I : Inv X pins σ H s) : ∃ m, Fr X.base X.env.locals s.heap m :=
  let ⟨m, hn, _⟩ := I.loc
  ⟨m, hn, I.bk, Nat.le_trans I.ok.bsz I.ok.above⟩
theorem Inv.lt (I : Inv X pins σ H s) : X.env.locals < s.heap.objs.size := let ⟨_, hn, _⟩ := I.loc; hn.lt
theorem Inv.sz (I : Inv X pins σ H s) : X.s_0.heap.objs.size ≤ s.heap.objs.size := Nat.le_trans I.ok.above (Nat.le_of_lt I.lt)
theorem Inv.nofs (I : Inv X pins σ H s) {a : Addr} (h : s.heap.objs.size ≤ a) : a ∉ X.fs := fun hb => by
  obtain ⟨_, o, ho, _⟩ := I.ok.funs.mem hb
  exact absurd (Nat.lt_of_lt_of_le (Heap.lt_size ho) (Nat.le_trans I.sz h)) (Nat.lt_irrefl _)
theorem Inv.cne (I : Inv X pins σ H s) : ∀ x c, X.env.cells.lookup x = some c → c ≠ X.env.locals := fun x c e z => by
  obtain ⟨v, o, ho, hd⟩ := I.cell x c e
  obtain ⟨m, ⟨o', es, ep, ho', hd', _⟩, _⟩ := I.loc
  rw [z, ho'] at ho; cases ho; rw [hd'] at hd; cases hd
theorem Inv.funs (I : Inv X pins σ H s) : s.heap.FunFrames X.base X.outer := by
  have all : ∀ (l : List Env), (∀ b ∈ frs l, b ∈ X.fs) → X.s_0.heap.FunFrames X.base l → s.heap.FunFrames X.base l := by
    intro l
    induction l with
    | nil => intro _ _; trivial
    | cons env r ih =>
      intro hs hl
      obtain ⟨hk, ⟨L, o, hf, hn, ho, hd⟩, hr⟩ := hl
      have hL : L ∈ X.fs := hs L (by unfold frs; rw [List.filterMap_cons, hf]; exact List.mem_cons_self)
      obtain ⟨sl, e⟩ := I.base.slot L o ho (I.ok.frf L hL) hL fun z => I.ok.exfs L z hL
      exact ⟨hk, ⟨L, _, hf, hn, e, hd⟩, ih (fun b hb => hs b (by unfold frs; rw [List.filterMap_cons, hf]; exact List.mem_cons_of_mem _ hb)) hr⟩
  exact all X.outer (fun _ hb => hb) I.ok.funs
theorem Inv.stack (I : Inv X pins σ H s) : s.heap.FunFrames X.base X.stack := by
  rcases I.ok.stk with e | ⟨e, hf⟩
  · rw [e]; exact I.funs
  · rw [e]
    obtain ⟨m, hn, _⟩ := I.loc
    refine .cons (by rw [I.ok.kind]; decide) hf hn ?_ I.funs
    exact Heap.get?_none_of_le (Nat.le_trans I.ok.bsz I.ok.above)
theorem Inv.stkSub (I : Inv X pins σ H s) : ∀ b ∈ frs X.stack, b ∈ X.env.locals :: X.fs := fun b hb => by
  rcases I.ok.stk with e | ⟨e, hf⟩
  · rw [e] at hb; exact List.mem_cons_of_mem _ hb
  · rw [e] at hb
    unfold frs at hb
    rw [List.filterMap_cons, hf] at hb
    exact hb
theorem Inv.stkFree (I : Inv X pins σ H s) : ∀ b ∈ frs X.stack, H b = none := fun b hb => by
  rcases List.mem_cons.mp (I.stkSub b hb) with e | hb
  · rw [e]; exact I.free
  · obtain ⟨_, o, ho, _⟩ := I.ok.funs.mem hb
    exact I.base.free b o ho (I.ok.frf b hb) fun z => I.ok.exfs b z hb
theorem Inv.step {g' : Array GenState} {t' : Nat} {d' : Drawn} {ch : List Addr} (I : Inv X pins σ H s)
    (hch : ∀ b ∈ ch, (b ∈ X.ex ∨ X.s_0.heap.objs.size ≤ b) ∧ b ≠ X.env.locals ∧ (∀ x c, X.env.cells.lookup x = some c → c ≠ b) ∧ ∀ p ∈ X.pn ++ pins, p.1 ≠ b)
    (keep : ∀ b o, b ≠ X.env.locals → b ∉ X.fs → b ∉ ch → s.heap.get? b = some o → H b = none → h'.get? b = some o)
    (slot : ∀ b o, b ≠ X.env.locals → b ∈ X.fs → b ∉ ch → s.heap.get? b = some o → H b = none → ∃ sl, h'.get? b = some { o with slots := sl }) (free : ∀ b o, b ∉ ch → s.heap.get? b = some o → H b = none → H' b = none)
    (there : ∀ b o, b ∉ ch → s.heap.get? b = some o → ∃ o', h'.get? b = some o')
    (tups : ∀ b xs, H b = some (.tup xs) → H' b = some (.tup xs)) (frzs : ∀ b o u, H b = some (.frz o u) → H' b = some (.frz o u)) (tbls : ∀ b ps, H b = some (.tbl ps) → ∃ more, H' b = some (.tbl (ps ++ more)))
    (ns : ∀ m, s.heap.Ns X.env.locals m → h'.Ns X.env.locals m) (hok : HOk X.prog X.w H' h') (hg : AllBare g') :
    Inv X pins σ H' { s with heap := h', gens := g', drawn := d', toks := t' } := by
  have neL : ∀ b o, X.s_0.heap.get? b = some o → b ≠ X.env.locals := fun b o e => Nat.ne_of_lt (Nat.lt_of_lt_of_le (Heap.lt_size e) I.ok.above)
  have neC : ∀ b o, X.s_0.heap.get? b = some o → b ∉ X.ex → b ∉ ch := fun b o e hx hb => by
    rcases (hch b hb).1 with z | z
    · exact hx z
    · exact absurd (Nat.lt_of_lt_of_le (Heap.lt_size e) z) (Nat.lt_irrefl _)
  have cellK : ∀ x c, X.env.cells.lookup x = some c → ∀ v, s.heap.IsCell c v → h'.IsCell c v := fun x c e v ⟨o, ho, hd⟩ => by
    have nch : c ∉ ch := fun z => (hch c z).2.2.1 x c e rfl
    by_cases hc : c ∈ X.fs
    · obtain ⟨sl, q⟩ := slot c o (I.cne x c e) hc nch ho (I.freeC x c e)
      exact ⟨_, q, hd⟩
    · exact ⟨o, keep c o (I.cne x c e) hc nch ho (I.freeC x c e), hd⟩
  refine ⟨I.ok, I.os, hg, ⟨fun b o e n hb hx => ?_, fun b o e n hb hx => ?_, fun b o e n hx => ?_, fun b o e hx => ?_, fun b xs e => tups b xs (I.base.tups b xs e), fun b o xs e => frzs b o xs (I.base.frzs b o xs e), fun b ps e => ?_⟩, ?_, fun x c e => ?_, ?_, fun x c e => ?_, fun p hp => ?_, hok, I.len⟩
  · exact keep b o (neL b o e) hb (neC b o e hx) (I.base.keep b o e n hb hx) (I.base.free b o e n hx)
  · obtain ⟨sl, e1⟩ := I.base.slot b o e n hb hx
    obtain ⟨sl', e2⟩ := slot b _ (neL b o e) hb (neC b o e hx) e1 (I.base.free b o e n hx)
    exact ⟨sl', e2⟩
  · obtain ⟨o', e1⟩ := I.base.there b o e hx
    exact free b o' (neC b o e hx) e1 (I.base.free b o e n hx)
  · obtain ⟨o', e1⟩ := I.base.there b o e hx
    exact there b o' (neC b o e hx) e1
  · obtain ⟨m1, e1⟩ := I.base.tbls b ps e
    obtain ⟨m2, e2⟩ := tbls b _ e1
    exact ⟨m1 ++ m2, by rw [e2, Array.append_assoc]⟩
  · obtain ⟨m, hn, hl⟩ := I.loc
    refine ⟨m, ns m hn, fun i x v e1 e2 e3 => ?_⟩
    obtain ⟨u, r, l⟩ := hl i x v e1 e2 e3
    refine ⟨u, r, ?_⟩
    rcases l with l | ⟨k, c, e, z⟩
    · exact .inl l
    · exact .inr ⟨k, c, e, cellK x c e _ z⟩
  · obtain ⟨v, z⟩ := I.cell x c e
    exact ⟨v, cellK x c e v z⟩
  · obtain ⟨m, ⟨o, _, _, ho, _⟩, _⟩ := I.loc
    exact free _ o (fun z => (hch _ z).2.1 rfl) ho I.free
  · obtain ⟨v, o, ho, hd⟩ := I.cell x c e
    exact free c o (fun z => (hch c z).2.2.1 x c e rfl) ho (I.freeC x c e)
  · obtain ⟨e, n, ne, nf, d⟩ := I.pin p hp
    have nch : p.1 ∉ ch := fun z => (hch p.1 z).2.2.2 p hp rfl
    exact ⟨keep p.1 p.2 ne nf nch e n, free p.1 p.2 nch e n, ne, nf, d⟩
theorem Inv.un {t' : Nat} (I : Inv X pins σ H s) (u : Un X.fs [] H H' s.heap h') (hok : HOk X.prog X.w H' h') : Inv X pins σ H' { s with heap := h', toks := t' } := by
  obtain ⟨m, ⟨o, es, ep, ho, r⟩, _⟩ := id I.loc
  obtain ⟨sl, hL⟩ := u.any ho I.free (by simp)
  exact I.step (g' := s.gens) (d' := s.drawn) (ch := []) (fun _ z => nomatch z) (fun b o _ hb _ e n => u.keep b o e n hb (by simp)) (fun b o _ hb _ e n => u.slot b o e n hb (by simp)) (fun b o _ e n => u.free b o e n (by simp)) (fun b o _ e => u.there b o e (by simp)) u.tups u.frzs u.tbls (fun m' hm => by
    obtain ⟨o', es', ep', ho', r'⟩ := hm
    rw [ho] at ho'; cases ho'
    exact ⟨_, es', ep', hL, r'⟩) hok I.bare
theorem Inv.call {g' : Array GenState} {t' : Nat} {d' : Drawn} {ch : List Addr} (I : Inv X pins σ H s) (u : Un (frs X.stack) ch H H' s.heap h') (hok : HOk X.prog X.w H' h') (hg : AllBare g')
    (hch : ∀ b ∈ ch, (b ∈ X.ex ∨ X.s_0.heap.objs.size ≤ b) ∧ b ≠ X.env.locals ∧ (∀ x c, X.env.cells.lookup x = some c → c ≠ b) ∧ ∀ p ∈ X.pn ++ pins, p.1 ≠ b) :
    Inv X pins σ H' { s with heap := h', gens := g', drawn := d', toks := t' } := by
  obtain ⟨m, ⟨o, es, ep, ho, r⟩, _⟩ := id I.loc
  obtain ⟨sl, hL⟩ := u.any ho I.free fun z => (hch _ z).2.1 rfl
  exact I.step (ch := ch) hch (fun b o hL hb hc e n => u.keep b o e n (fun z => (List.mem_cons.mp (I.stkSub b z)).elim hL hb) hc) (fun b o _ _ hc e n => u.any e n hc) (fun b o hc e n => u.free b o e n hc) (fun b o hc e => u.there b o e hc) u.tups u.frzs u.tbls (fun m' hm => by
    obtain ⟨o', es', ep', ho', r'⟩ := hm
    rw [ho] at ho'; cases ho'
    exact ⟨_, es', ep', hL, r'⟩) hok hg
theorem Inv.turned {t' : Nat} {it : Addr} (I : Inv X pins σ H s) (k : ∀ b o, b ≠ it → s.heap.get? b = some o → h'.get? b = some o) (hn : H it = none) (hL : it ≠ X.env.locals)
    (h1 : it ∈ X.ex ∨ X.s_0.heap.objs.size ≤ it) (h2 : ∀ x c, X.env.cells.lookup x = some c → c ≠ it) (h3 : ∀ p ∈ X.pn ++ pins, p.1 ≠ it) : Inv X pins σ H { s with heap := h', toks := t' } := by
  have nit : ∀ b u, H b = some u → b ≠ it := fun b u e z => by rw [z, hn] at e; cases e
  refine I.step (g' := s.gens) (d' := s.drawn) (ch := [it]) (fun b hb => ?_) (fun b o _ _ hc e _ => k b o (fun z => hc (by simp [z])) e) (fun b o _ _ hc e _ => ⟨o.slots, k b o (fun z => hc (by simp [z])) e⟩) (fun _ _ _ _ n => n)
    (fun b o hc e => ⟨o, k b o (fun z => hc (by simp [z])) e⟩) (fun _ _ e => e) (fun _ _ _ e => e) (fun b ps e => ⟨#[], by rw [e]; simp⟩) (fun m hm => ?_) (fun b u e => ?_) I.bare
  · have e : b = it := by simpa using hb
    subst e
    exact ⟨h1, hL, h2, h3⟩
  · obtain ⟨o, es, ep, ho, r⟩ := hm
    exact ⟨o, es, ep, k _ o (Ne.symm hL) ho, r⟩
  · refine (I.hok b u e).stay (fun c v hc q => k c v ?_ q) (fun _ q => q) fun _ _ q => q
    rcases hc with z | z
    · rw [z]; exact nit b u e
    · exact nit c _ z
theorem Inv.tok (I : Inv X pins σ H s) (t : Nat) : Inv X pins σ H { s with toks := t } := I.un (h' := s.heap) (t' := t) Un.refl I.hok
theorem Inv.kept {t' : Nat} (I : Inv X pins σ H s) (k : ∀ b u, s.heap.get? b = some u → h'.get? b = some u) : Inv X pins σ H { s with heap := h', toks := t' } := I.un (Un.kept k) (I.hok.kept k)
theorem Inv.laid {a : Addr} {o : HO} {t' : Nat} (I : Inv X pins σ H s) (k : ∀ b u, s.heap.get? b = some u → h'.get? b = some u) (hp : s.heap.objs.size ≤ a) (new : ObjOk X.prog X.w (upd H a o) h' a o) :
    Inv X pins σ (upd H a o) { s with heap := h', toks := t' } := I.un (Un.laid k hp (I.hok.fresh hp)) (I.hok.laid k hp new)
theorem Inv.write {x e : Addr} {o : HO} {t' : Nat} (I : Inv X pins σ H s) (mu : Mut (H x)) (he : e = x ∨ H e = some (.own x)) (k : ∀ b u, b ≠ e → s.heap.get? b = some u → h'.get? b = some u) (heo : ∃ u, h'.get? e = some u)
    (new : ObjOk X.prog X.w (upd H x o) h' x o) : Inv X pins σ (upd H x o) { s with heap := h', toks := t' } := I.un (Un.write mu he k heo) (I.hok.write mu he k heo new)
theorem Inv.weak {σ' : List (Option V)} (I : Inv X pins σ H s) (hl : σ'.length = σ.length) (w : ∀ (i : Nat) v, σ'[i]? = some (some v) → σ[i]? = some (some v)) : Inv X pins σ' H s :=
  ⟨I.ok, I.os, I.bare, I.base, let ⟨m, hn, hl'⟩ := I.loc; ⟨m, hn, fun i x v e1 e2 e3 => hl' i x v e1 (w i v e2) e3⟩, I.cell, I.free, I.freeC, I.pin, I.hok, hl.trans I.len⟩
theorem Inv.pins_of {pins' : List (Addr × Obj)} (I : Inv X pins σ H s) (h : ∀ p ∈ pins', s.heap.get? p.1 = some p.2 ∧ H p.1 = none ∧ p.1 ≠ X.env.locals ∧ p.1 ∉ X.fs ∧ ∀ v, p.2.data ≠ .cell v) : Inv X pins' σ H s :=
  ⟨I.ok, I.os, I.bare, I.base, I.loc, I.cell, I.free, I.freeC, fun p hp => (List.mem_append.mp hp).elim (fun z => I.pin p (List.mem_append_left _ z)) (h p), I.hok, I.len⟩
theorem nodup_ix {N : List Str} (hN : N.Nodup) {i j : Nat} {x : Str} (a : N[i]? = some x) (b : N[j]? = some x) : i = j := by
  obtain ⟨h1, e1⟩ := List.getElem?_eq_some_iff.mp a
  obtain ⟨h2, e2⟩ := List.getElem?_eq_some_iff.mp b
  exact (List.getElem_inj hN).mp (e1.trans e2.symm)
theorem store_ok2 {M : Model} {A : Around} {E : Value → Shared → Prop} {i : Nat} {x : Str} {v : V} {u : Value} {Q : Unit → Shared → Prop} (I : Inv X pins σ H s) (hN : X.N.Nodup) (hi : X.N[i]? = some x) (hx : Loc X.env.scope x) (r : RelV v u)
    (h : ∀ s', Inv X pins (σ.set i (some v)) H s' → (∃ a, Heap.SameBut a s.heap s'.heap ∧ (a = X.env.locals ∨ X.env.cells.lookup x = some a)) → Q () s') (hf : X.fn x = true ∨ X.env.scope.names.lookup x = some .local := by first | exact .inl rfl | exact .inr rfl | assumption) : wpAny M A (storeName X.env x u) Q E s := by
  obtain ⟨m, hn, hl⟩ := id I.loc
  have hcls : (X.env.scope.kind == .class || (X.env.scope.kind == .module && X.env.locals != X.env.globals)) = false := by rw [I.ok.kind]; rfl
  have hiσ : i < σ.length := by rw [I.len]; exact (List.getElem?_eq_some_iff.mp hi).1
  have cne := I.cne
  have tracked : ∀ {a : Addr} {h' : Heap}, (∃ o, s.heap.get? a = some o ∧ H a = none) → Heap.SameBut a s.heap h' → HOk X.prog X.w H h' := fun {a h'} ha hs b ob e => by
    obtain ⟨_, _, hfree⟩ := ha
    refine (I.hok b ob e).stay (fun c w' hc q => (hs.2 c ?_).trans q) (fun _ q => q) fun _ _ q => q
    rintro rfl
    rcases hc with rfl | hc
    · rw [hfree] at e; cases e
    · rw [hfree] at hc; cases hc
  rcases hx with hk | hk
  · refine wpAny_storeName_local hk hn (fun h' hn' hs => ?_) hcls
    obtain ⟨oL, _, _, hoL, _⟩ := id hn
    refine h _ ⟨I.ok, I.os, I.bare, ⟨fun b o e n hb hx => ?_, fun b o e n hb hx => ?_, I.base.free, fun b o e hx => ?_, I.base.tups, I.base.frzs, I.base.tbls⟩, ⟨_, hn', fun j y v' e1 e2 e3 => ?_⟩, fun y c e => ?_, I.free, I.freeC, fun p hp => ?_, tracked ⟨oL, hoL, I.free⟩ hs, by simpa using I.len⟩ ⟨_, hs, .inl rfl⟩
    · exact (hs.2 b (Nat.ne_of_lt (Nat.lt_of_lt_of_le (Heap.lt_size e) I.ok.above))).trans (I.base.keep b o e n hb hx)
    · obtain ⟨sl, e1⟩ := I.base.slot b o e n hb hx
      exact ⟨sl, (hs.2 b (Nat.ne_of_lt (Nat.lt_of_lt_of_le (Heap.lt_size e) I.ok.above))).trans e1⟩
    · obtain ⟨o', e1⟩ := I.base.there b o e hx
      exact ⟨o', (hs.2 b (Nat.ne_of_lt (Nat.lt_of_lt_of_le (Heap.lt_size e) I.ok.above))).trans e1⟩
    · by_cases hj : j = i
      · subst hj
        rw [hi] at e1; cases e1
        rw [List.getElem?_set_self hiσ] at e2
        cases e2
        exact ⟨u, r, .inl ⟨hk, by simp⟩⟩
      · rw [List.getElem?_set_ne (Ne.symm hj)] at e2
        obtain ⟨u', r', q⟩ := hl j y v' e1 e2 e3
        refine ⟨u', r', ?_⟩
        rcases q with ⟨k, e⟩ | ⟨k, c, e, z⟩
        · refine .inl ⟨k, ?_⟩
          have : y ≠ x := fun e => hj (nodup_ix hN e1 (e ▸ hi))
          simp [this, e]
        · exact .inr ⟨k, c, e, z.sameBut hs (cne y c e)⟩
    · obtain ⟨w', z⟩ := I.cell y c e
      exact ⟨w', z.sameBut hs (cne y c e)⟩
    · obtain ⟨e, n, ne, nf, d⟩ := I.pin p hp
      exact ⟨(hs.2 p.1 ne).trans e, n, ne, nf, d⟩
  · have hfn : X.fn x = true := by
      rcases hf with z | z
      · exact z
      · rw [z] at hk; cases hk
    obtain ⟨c, hc⟩ := I.ok.has x (.inl hk)
    obtain ⟨w', z⟩ := I.cell x c hc
    refine wpAny_storeName_cell I.ok.kind hk hc z (fun h' hc' hs => ?_)
    obtain ⟨oc, hoc, hocd⟩ := id z
    refine h { s with heap := h' } ⟨I.ok, I.os, I.bare, ⟨fun b o e n hb hx => ?_, fun b o e n hb hx => ?_, I.base.free, fun b o e hx => ?_, I.base.tups, I.base.frzs, I.base.tbls⟩, ⟨m, hn.sameBut hs (Ne.symm (cne x c hc)), fun j y v' e1 e2 e3 => ?_⟩, fun y c' e => ?_, I.free, I.freeC, fun p hp => ?_, tracked ⟨oc, hoc, I.freeC x c hc⟩ hs, by simpa using I.len⟩ ⟨c, hs, .inr hc⟩
    · exact (hs.2 b (Nat.ne_of_lt (Nat.lt_of_lt_of_le (Heap.lt_size e) (I.ok.cab x c hfn hc)))).trans (I.base.keep b o e n hb hx)
    · obtain ⟨sl, e1⟩ := I.base.slot b o e n hb hx
      exact ⟨sl, (hs.2 b (Nat.ne_of_lt (Nat.lt_of_lt_of_le (Heap.lt_size e) (I.ok.cab x c hfn hc)))).trans e1⟩
    · obtain ⟨o', e1⟩ := I.base.there b o e hx
      exact ⟨o', (hs.2 b (Nat.ne_of_lt (Nat.lt_of_lt_of_le (Heap.lt_size e) (I.ok.cab x c hfn hc)))).trans e1⟩
    · by_cases hj : j = i
      · subst hj
        rw [hi] at e1; cases e1
        rw [List.getElem?_set_self hiσ] at e2
        cases e2
        exact ⟨u, r, .inr ⟨.inl hk, c, hc, hc'⟩⟩
      · rw [List.getElem?_set_ne (Ne.symm hj)] at e2
        obtain ⟨u', r', q⟩ := hl j y v' e1 e2 e3
        refine ⟨u', r', ?_⟩
        rcases q with q | ⟨k, c', e, z'⟩
        · exact .inl q
        · refine .inr ⟨k, c', e, z'.sameBut hs ?_⟩
          rintro rfl
          exact hj (nodup_ix hN e1 (I.ok.inj _ _ _ e hc ▸ hi))
    · by_cases hcc : c' = c
      · subst hcc; exact ⟨_, hc'⟩
      · obtain ⟨w2, z2⟩ := I.cell y c' e
        exact ⟨w2, z2.sameBut hs hcc⟩
    · obtain ⟨e, n, ne, nf, d⟩ := I.pin p hp
      refine ⟨(hs.2 p.1 ?_).trans e, n, ne, nf, d⟩
      intro q
      rw [q, hoc] at e
      have q' : oc = p.2 := Option.some.inj e
      exact d w' (by rw [← q']; exact hocd)
theorem store_ok {M : Model} {A : Around} {E : Value → Shared → Prop} {i : Nat} {x : Str} {v : V} {u : Value} {Q : Unit → Shared → Prop} (I : Inv X pins σ H s) (hN : X.N.Nodup) (hi : X.N[i]? = some x) (hx : Loc X.env.scope x) (r : RelV v u)
    (h : ∀ s', Inv X pins (σ.set i (some v)) H s' → Q () s') (hf : X.fn x = true ∨ X.env.scope.names.lookup x = some .local := by first | exact .inl rfl | exact .inr rfl | assumption) : wpAny M A (storeName X.env x u) Q E s :=
  store_ok2 I hN hi hx r (fun s' I' _ => h s' I') hf
theorem Inv.call' {s' : Shared} {ch : List Addr} (I : Inv X pins σ H s) (ho : s'.os = s.os) (u : Un (frs X.stack) ch H H' s.heap s'.heap) (hok : HOk X.prog X.w H' s'.heap) (hg : AllBare s'.gens)
    (hch : ∀ b ∈ ch, (b ∈ X.ex ∨ X.s_0.heap.objs.size ≤ b) ∧ b ≠ X.env.locals ∧ (∀ x c, X.env.cells.lookup x = some c → c ≠ b) ∧ ∀ p ∈ X.pn ++ pins, p.1 ≠ b) : Inv X pins σ H' s' := by
  obtain ⟨h', g', d', t', o'⟩ := s'
  have e : o' = s.os := ho
  subst e
  exact I.call (g' := g') (t' := t') (d' := d') u hok hg hch
end
abbrev XK := Value → Option Addr → Hp → Prop
abbrev St := List (Option V)
abbrev VK := V → Hp → Prop
abbrev TE := St → Hp → VK → Prop
abbrev TT := St → Hp → (Bool → Hp → Prop) → Prop
abbrev TA := St → Hp → (List V → Hp → Prop) → Prop
structure Ends where
  nx : St → Hp → Prop
  rt : VK
  bk : St → Hp → Prop := fun _ _ => False
  ct : St → Hp → Prop := fun _ _ => False
abbrev TS := Ends → St → Hp → Prop
def EP (X : Cx) (pins : List (Addr × Obj)) (σ : St) (Q : VK) (u : Value) (s' : Shared) : Prop := ∃ v H', Inv X pins σ H' s' ∧ RelV v u ∧ Q v H'
def TP (X : Cx) (pins : List (Addr × Obj)) (σ : St) (Q : Bool → Hp → Prop) (b : Bool) (s' : Shared) : Prop := ∃ H', Inv X pins σ H' s' ∧ Q b H'
def AP (X : Cx) (pins : List (Addr × Obj)) (σ : St) (Q : List V → Hp → Prop) (us : List Value) (s' : Shared) : Prop := ∃ vs H', Inv X pins σ H' s' ∧ Vals vs us ∧ Q vs H'
def SP (X : Cx) (pins : List (Addr × Obj)) (D : Ends) (f : Flow) (s' : Shared) : Prop :=
  match f with
  | .next => ∃ σ' H', Inv X pins σ' H' s' ∧ D.nx σ' H'
  | .brk => ∃ σ' H', Inv X pins σ' H' s' ∧ D.bk σ' H'
  | .cont => ∃ σ' H', Inv X pins σ' H' s' ∧ D.ct σ' H'
  | .ret u => ∃ v σ' H', Inv X pins σ' H' s' ∧ RelV v u ∧ D.rt v H'
def PE (X : Cx) (e : Expr) (t : TE) : Prop :=
  ∀ (pins : List (Addr × Obj)) (s : Shared) (σ : St) (H : Hp) (Q : VK), Inv X pins σ H s → t σ H Q → wpAny (model X.prog X.w) X.A (eval e X.env) (EP X pins σ Q) X.xe s
def PT (X : Cx) (e : Expr) (t : TT) : Prop :=
  ∀ (pins : List (Addr × Obj)) (s : Shared) (σ : St) (H : Hp) (Q : Bool → Hp → Prop), Inv X pins σ H s → t σ H Q → wpAny (model X.prog X.w) X.A (isTrue e X.env (eval e X.env)) (TP X pins σ Q) X.xe s
def PW (X : Cx) (e : Expr) (t : TT) : Prop :=
  ∀ (whole : Sem Value) (pins : List (Addr × Obj)) (s : Shared) (σ : St) (H : Hp) (Q : Bool → Hp → Prop), Inv X pins σ H s → t σ H Q → wpAny (model X.prog X.w) X.A (isTrue e X.env whole) (TP X pins σ Q) X.xe s
theorem PW.pt {X : Cx} {e : Expr} {t : TT} (h : PW X e t) : PT X e t := h _
def PA (X : Cx) (es : List Expr) (t : TA) : Prop :=
  ∀ (pos : Pos) (pins : List (Addr × Obj)) (s : Shared) (σ : St) (H : Hp) (Q : List V → Hp → Prop), Inv X pins σ H s → t σ H Q → wpAny (model X.prog X.w) X.A (spliced (backTo pos (starEach es X.env))) (AP X pins σ Q) X.xe s
def PS (X : Cx) (st : Stmt) (t : TS) : Prop :=
  ∀ (pins : List (Addr × Obj)) (s : Shared) (σ : St) (H : Hp) (D : Ends), Inv X pins σ H s → t D σ H → wpAny (model X.prog X.w) X.A (exec st X.env) (SP X pins D) X.xe s
def PSs (X : Cx) (st : List Stmt) (t : TS) : Prop :=
  ∀ (pins : List (Addr × Obj)) (s : Shared) (σ : St) (H : Hp) (D : Ends), Inv X pins σ H s → t D σ H → wpAny (model X.prog X.w) X.A (execs st X.env) (SP X pins D) X.xe s
theorem thn {α : Type} {t : Sem α} {Q Q' : α → Shared → Prop} {M : Model} {A : Around} {E : Value → Shared → Prop} {s : Shared} (h : wpAny M A t Q E s) (hQ : ∀ a s, Q a s → Q' a s) : wpAny M A t Q' E s := wpAny_mono h hQ fun _ _ x => x
end L2
namespace L2
open PySem PySem.Spec PyProof.Rows
section
variable {X : Cx}
def tVar (i : Nat) : TE := fun σ H Q => ∃ v, σ[i]? = some (some v) ∧ Q v H
def tC (v : V) : TE := fun _ H Q => Q v H
theorem pe_var {i : Nat} {x : Str} {pos : Pos} (hN : X.N[i]? = some x) (hv : Vis X.env.scope x) (hd : (x == ("__debug__" : Str)) = false := by decide) (hcd : (x == ("__classdict__" : Str)) = false := by decide) : PE X (.Name x pos) (tVar i) := by
  intro pins s σ H Q I h
  obtain ⟨v, e, h⟩ := h
  obtain ⟨m, hn, hl⟩ := I.loc
  obtain ⟨u, r, l⟩ := hl i x v hN e hv
  have fin : EP X pins σ Q u s := ⟨v, H, I, r, h⟩
  rcases l with ⟨hk, hm⟩ | ⟨hk, c, hc, hcell⟩
  · exact wpAny_Name (wpAny_loadName_local I.ok.kind hk hn hm fin) hd
  · rcases hk with hk | hk
    · exact wpAny_Name (wpAny_loadName_cell I.ok.kind hk hc hcell fin) hd
    · exact wpAny_Name (wpAny_loadName_free I.ok.kind hk hc hcell fin hcd) hd
theorem pe_int {i j pos} : PE X (.Constant (.int i) j pos) (tC (.int i)) := fun _ _ _ H _ I h => wpAny_Constant_int ⟨.int i, H, I.tok _, ⟨_, rfl⟩, h⟩
theorem pe_bl {b j pos} : PE X (.Constant (.bool b) j pos) (tC (.bl b)) := fun _ _ _ H _ I h => Constant_bool ⟨.bl b, H, I, rfl, h⟩
theorem pe_non {j pos} : PE X (.Constant .none j pos) (tC .non) := fun _ _ _ H _ I h => Constant_none ⟨.non, H, I, rfl, h⟩
theorem pe_str {x j pos} : PE X (.Constant (.str x) j pos) (tC (.str x)) := fun _ _ _ H _ I h => Calls.Constant_str ⟨.str x, H, I.tok _, ⟨_, rfl⟩, h⟩
def Gl (X : Cx) (x : Str) : Prop := X.env.kindOf x = some .globalImplicit
theorem ld_glob {E : Value → Shared → Prop} {pins : List (Addr × Obj)} {s : Shared} {σ : St} {H : Hp} {x : Str} {u : Value} {pos : Pos} {Q : Value → Shared → Prop} (I : Inv X pins σ H s) (hg : Gl X x) (hm : X.mg x = some u) (h : Q u s)
    (hd : (x == ("__debug__" : Str)) = false := by decide) : wpAny (model X.prog X.w) X.A (eval (.Name x pos) X.env) Q E s :=
  Calls.Name_function_global I.ok.kind hg (Calls.loadGlobal_global (by rw [I.ok.glob]; exact I.mod.glob.keeps I.bk) hm h) hd
theorem ld_blt {E : Value → Shared → Prop} {pins : List (Addr × Obj)} {s : Shared} {σ : St} {H : Hp} {x : Str} {u : Value} {pos : Pos} {Q : Value → Shared → Prop} (I : Inv X pins σ H s) (hg : Gl X x) (hm : X.mg x = none) (hv : bootBuiltins x = some u) (h : Q u s)
    (hn : x ≠ "__name__" := by decide) (hd : (x == ("__debug__" : Str)) = false := by decide) : wpAny (model X.prog X.w) X.A (eval (.Name x pos) X.env) Q E s := by
  obtain ⟨mb, h1, h2⟩ := I.mod.blt
  exact Calls.Name_function_global I.ok.kind hg (Calls.loadGlobal_builtin (by rw [I.ok.glob]; exact I.mod.glob.keeps I.bk) hm (by rw [I.ok.blt]; exact h1.keeps I.bk) ((h2 x hn).trans hv) h) hd
theorem pe_glob {x : Str} {v : V} {u : Value} {pos : Pos} (hg : Gl X x) (hm : X.mg x = some u) (r : RelV v u) (hd : (x == ("__debug__" : Str)) = false := by decide) : PE X (.Name x pos) (tC v) :=
  fun _ _ _ H _ I h => ld_glob I hg hm ⟨v, H, I, r, h⟩ hd
theorem pe_bltn {x : Str} {v : V} {u : Value} {pos : Pos} (hg : Gl X x) (hm : X.mg x = none) (hv : bootBuiltins x = some u) (r : RelV v u) (hn : x ≠ "__name__" := by decide) (hd : (x == ("__debug__" : Str)) = false := by decide) : PE X (.Name x pos) (tC v) :=
  fun _ _ _ H _ I h => ld_blt I hg hm hv ⟨v, H, I, r, h⟩ hn hd
def t2I (ta tb : TE) (k : Int → Int → Hp → Prop) : St → Hp → Prop := fun σ H => ta σ H fun x H1 => tb σ H1 fun y H2 => ∃ i j, x = .int i ∧ y = .int j ∧ k i j H2
def tAdd (ta tb : TE) : TE := fun σ H Q => t2I ta tb (fun i j H2 => Q (.int (i + j)) H2) σ H
def tSub (ta tb : TE) : TE := fun σ H Q => t2I ta tb (fun i j H2 => Q (.int (i - j)) H2) σ H
def tMul (ta tb : TE) : TE := fun σ H Q => t2I ta tb (fun i j H2 => (-(2 ^ 64) < i ∧ i < 2 ^ 64) ∧ Q (.int (i * j)) H2) σ H
variable {a b : Expr} {ta tb : TE} {pos : Pos}
def PC (X : Cx) (op : CmpOp) (a b : Expr) (t : TE) : Prop :=
  ∀ (pins : List (Addr × Obj)) (s : Shared) (σ : St) (H : Hp) (Q : VK), Inv X pins σ H s → t σ H Q →
    wpAny (model X.prog X.w) X.A (eval a X.env) (fun v s₁ => wpAny (model X.prog X.w) X.A (eval b X.env) (fun u s₂ => wpAny (model X.prog X.w) X.A (compareOp op v u) (EP X pins σ Q) X.xe s₂) X.xe s₁) X.xe s
def tCmp (p : Int → Int → Bool) (ta tb : TE) : TE := fun σ H Q => t2I ta tb (fun i j H2 => Q (.bl (p i j)) H2) σ H
abbrev tLt : TE → TE → TE := tCmp fun i j => decide (i < j)
abbrev tLe : TE → TE → TE := tCmp fun i j => decide (i ≤ j)
abbrev tGt : TE → TE → TE := tCmp fun i j => decide (j < i)
abbrev tGe : TE → TE → TE := tCmp fun i j => decide (j ≤ i)
abbrev tEqI : TE → TE → TE := tCmp fun i j => decide (i = j)
abbrev tNeI : TE → TE → TE := tCmp fun i j => !decide (i = j)
def tIsN (ta : TE) : TE := fun σ H Q => ta σ H fun x H1 => Q (.bl (decide (x = .non))) H1
def tNotN (ta : TE) : TE := fun σ H Q => ta σ H fun x H1 => Q (.bl (!decide (x = .non))) H1
def tB (t : TE) : TT := fun σ H Q => t σ H fun x H1 => ∃ c, x = .bl c ∧ Q c H1
theorem pt_cmp {op : CmpOp} {t : TE} (h : PC X op a b t) (h1 : behindInMarks op b = false := by first | exact nobehind _ (by decide) (by decide) | rfl) : PT X (.Compare a [op] [b] pos) (tB t) := by
  intro pins s σ H Q I hw
  refine wpAny_isTrue_Compare1 (thn (h pins s σ H _ I hw) fun v s1 h1 => thn h1 fun u s2 h2 => thn h2 fun c s3 ⟨x, H1, I1, r1, q1⟩ => ?_) h1
  obtain ⟨d, rfl, q⟩ := q1
  cases r1
  exact wpAny_truthy_bool ⟨H1, I1, q⟩
theorem pt_val {e : Expr} {t : TE} (h : PE X e t) (he : ∀ whole, isTrue e X.env whole = (do let v ← whole; standAt e.pos; holding [v] (truthy v)) := by intro _; rfl) : PT X e (tB t) := by
  intro pins s σ H Q I hw
  refine isTrue_plain (thn (h pins s σ H _ I hw) fun v s1 ⟨x, H1, I1, r1, q1⟩ => ?_) (he _)
  obtain ⟨d, rfl, q⟩ := q1
  cases r1
  exact wpAny_truthy_bool ⟨H1, I1, q⟩
variable {tA tB' : TT} {rest : List Expr}
def tAnd (t u : TT) : TT := fun σ H Q => t σ H fun c H1 => if c = true then u σ H1 Q else Q false H1
def tOr (t u : TT) : TT := fun σ H Q => t σ H fun c H1 => if c = true then Q true H1 else u σ H1 Q
def tNot (t : TT) : TT := fun σ H Q => t σ H fun c H1 => Q (!c) H1
theorem pw_and1 (ha : PT X a tA) : PW X (.BoolOp .And [a] pos) tA := by
  intro wh pins s σ H Q I h
  refine isTrue_and (thn (ha pins s σ H Q I h) fun c s1 e => ?_)
  cases c with
  | true => exact isTrue_and_nil e
  | false => exact e
theorem pw_or1 (ha : PT X a tA) : PW X (.BoolOp .Or [a] pos) tA := by
  intro wh pins s σ H Q I h
  refine isTrue_or (thn (ha pins s σ H Q I h) fun c s1 e => ?_)
  cases c with
  | false => exact isTrue_or_nil e
  | true => exact e
theorem pw_and (ha : PT X a tA) (hb : PW X (.BoolOp .And (b :: rest) pos) tB') : PW X (.BoolOp .And (a :: b :: rest) pos) (tAnd tA tB') := by
  intro wh pins s σ H Q I h
  refine isTrue_and (thn (ha pins s σ H _ I h) fun c s1 ⟨H1, I1, q1⟩ => ?_)
  cases c with
  | true => exact hb wh pins s1 σ H1 Q I1 q1
  | false => exact ⟨H1, I1, q1⟩
theorem pw_or (ha : PT X a tA) (hb : PW X (.BoolOp .Or (b :: rest) pos) tB') : PW X (.BoolOp .Or (a :: b :: rest) pos) (tOr tA tB') := by
  intro wh pins s σ H Q I h
  refine isTrue_or (thn (ha pins s σ H _ I h) fun c s1 ⟨H1, I1, q1⟩ => ?_)
  cases c with
  | true => exact ⟨H1, I1, q1⟩
  | false => exact hb wh pins s1 σ H1 Q I1 q1
theorem pt_not (ha : PT X a tA) : PT X (.UnaryOp .Not a pos) (tNot tA) := by
  intro pins s σ H Q I h
  exact isTrue_not (ha pins s σ H (fun c H1 => Q (!c) H1) I h)
def tAndV (ta tb : TE) : TE := fun σ H Q => ta σ H fun x H1 => ∃ c, x = .bl c ∧ if c = true then tb σ H1 Q else Q (.bl false) H1
def tOrV (ta tb : TE) : TE := fun σ H Q => ta σ H fun x H1 => ∃ c, x = .bl c ∧ if c = true then Q (.bl true) H1 else tb σ H1 Q
def tNotV (ta : TE) : TE := fun σ H Q => ta σ H fun x H1 => ∃ c, x = .bl c ∧ Q (.bl (!c)) H1
theorem pe_one {op} {t : TE} (h : PE X a t) : PE X (.BoolOp op [a] pos) t := fun pins s σ H Q I hw => BoolOp_one (h pins s σ H Q I hw)
theorem pe_and (ha : PE X a ta) (hb : PE X (.BoolOp .And (b :: rest) pos) tb) : PE X (.BoolOp .And (a :: b :: rest) pos) (tAndV ta tb) := by
  intro pins s σ H Q I h
  refine BoolOp_and (thn (ha pins s σ H _ I h) fun v s1 ⟨x, H1, I1, r1, q1⟩ => ?_)
  obtain ⟨c, rfl, q1⟩ := q1
  cases r1
  refine wpAny_truthy_bool ?_
  cases c with
  | true => exact hb pins s1 σ H1 Q I1 q1
  | false => exact ⟨.bl false, H1, I1, rfl, q1⟩
def tIf (t : TT) (ta tb : TE) : TE := fun σ H Q => t σ H fun c H1 => if c = true then ta σ H1 Q else tb σ H1 Q
end
end L2
namespace L2
open PySem PySem.Spec PyProof.Rows
def SqL (K : PySem.W.Frag) (H : Hp) (a : Addr) (xs : List V) : Prop :=
  Rd H a (.lst xs) ∨
    ∃ (o : Obj) (its : Array Value) (n : Nat), K.lookup a = some o ∧ o.cls = .type "list" ∧ o.dict = none ∧ o.data = .seq its n ∧ its.size ≤ sizeLine ∧ Vals xs its.toList
def SqT (K : PySem.W.Frag) (H : Hp) (a : Addr) (xs : List V) : Prop :=
  Rd H a (.tup xs) ∨
    ∃ (o : Obj) (its : Array Value) (n : Nat), K.lookup a = some o ∧ o.cls = .type "tuple" ∧ o.data = .seq its n ∧ its.size ≤ sizeLine ∧ Vals xs its.toList
def absV : Value → Option V
  | .none => some .non
  | .bool b => some (.bl b)
  | .int i _ => some (.int i)
  | .str x _ => some (.str x)
  | .bytes b _ => some (.byt b)
  | .float b _ => some (.flt b)
  | .ref a => some (.ref a)
  | .type n => some (.ty n)
  | _ => none
theorem RelV.abs {x : V} {u : Value} (r : RelV x u) : absV u = some x := by
  cases x with
  | non => cases r; rfl
  | bl _ => cases r; rfl
  | int _ => obtain ⟨t, rfl⟩ := r; rfl
  | str _ => obtain ⟨t, rfl⟩ := r; rfl
  | byt _ => obtain ⟨t, rfl⟩ := r; rfl
  | flt _ => obtain ⟨t, rfl⟩ := r; rfl
  | ref _ => cases r; rfl
  | ty _ => cases r; rfl
theorem RelV.inj {x y : V} {u : Value} (r : RelV x u) (q : RelV y u) : x = y := Option.some.inj (r.abs.symm.trans q.abs)
theorem Vals.inj : ∀ {xs ys : List V} {us : List Value}, Vals xs us → Vals ys us → xs = ys
  | _, _, _, .nil, .nil => rfl
  | _, _, _, .cons r t, .cons r' t' => by rw [r.inj r', Vals.inj t t']
section
variable {X : Cx} {pins : List (Addr × Obj)} {σ : St} {H : Hp} {s : Shared} {a : Addr} {xs ys : List V}
theorem SqL.of {K : PySem.W.Frag} (h : H a = some (.lst xs)) : SqL K H a xs := .inl (.inl h)
theorem SqT.of {K : PySem.W.Frag} (h : H a = some (.tup xs)) : SqT K H a xs := .inl (.inl h)
theorem Inv.list (I : Inv X pins σ H s) (h : SqL X.K H a xs) : ∃ its : List Value, Vals xs its ∧ PlainL s.heap a its.toArray ∧ xs.length ≤ sizeLine := by
  rcases h with h | ⟨o, its, n, hk, hc, hd, hs, hz, r⟩
  · obtain ⟨z, its, n, r, e⟩ := h.ok I.hok
    exact ⟨its, r, ⟨_, n, e, rfl, rfl, rfl⟩, z⟩
  · refine ⟨its.toList, r, ⟨o, n, I.kIn a o hk, hc, hd, by simpa using hs⟩, ?_⟩
    have e := r.length
    simp only [Array.length_toList] at e
    omega
theorem Inv.tuple (I : Inv X pins σ H s) (h : SqT X.K H a xs) : ∃ its : List Value, Vals xs its ∧ IsTup s.heap a its.toArray ∧ xs.length ≤ sizeLine := by
  rcases h with h | ⟨o, its, n, hk, hc, hs, hz, r⟩
  · obtain ⟨z, its, r, p⟩ := h.ok I.hok
    exact ⟨its, r, p, z⟩
  · refine ⟨its.toList, r, ⟨o, I.kIn a o hk, hc, n, by simpa using hs⟩, ?_⟩
    have e := r.length
    simp only [Array.length_toList] at e
    omega
theorem Inv.list_inj (I : Inv X pins σ H s) (h : SqL X.K H a xs) (h' : SqL X.K H a ys) : xs = ys := by
  obtain ⟨its, r, ⟨o, n, e, _, _, d⟩, _⟩ := I.list h
  obtain ⟨its', r', ⟨o', n', e', _, _, d'⟩, _⟩ := I.list h'
  rw [e] at e'; cases e'
  rw [d] at d'
  injection d' with d1 _
  have : its = its' := by simpa using congrArg Array.toList d1
  subst this
  exact r.inj r'
theorem Inv.tuple_inj (I : Inv X pins σ H s) (h : SqT X.K H a xs) (h' : SqT X.K H a ys) : xs = ys := by
  obtain ⟨its, r, ⟨o, e, _, n, d⟩, _⟩ := I.tuple h
  obtain ⟨its', r', ⟨o', e', _, n', d'⟩, _⟩ := I.tuple h'
  rw [e] at e'; cases e'
  rw [d] at d'
  injection d' with d1 _
  have : its = its' := by simpa using congrArg Array.toList d1
  subst this
  exact r.inj r'
end
abbrev Cx.wish (X : Cx) (E : Value → Shared → Prop) : Cx := { X with xe := E }
abbrev Cx.nox (X : Cx) : Cx := X.wish fun _ _ => False
theorem Cx.Ok.wish {X : Cx} (ok : X.Ok) (E : Value → Shared → Prop) : (X.wish E).Ok :=
  ⟨ok.mod, ok.kind, ok.glob, ok.blt, ok.above, ok.inj, ok.has, ok.cab, ok.hd, ok.frames, ok.stk, ok.exf, ok.bs, ok.bsz, ok.noex, ok.exfs, ok.funs, ok.frf⟩
theorem Cx.Ok.unwish {X : Cx} {E : Value → Shared → Prop} (ok : (X.wish E).Ok) : X.Ok :=
  ⟨ok.mod, ok.kind, ok.glob, ok.blt, ok.above, ok.inj, ok.has, ok.cab, ok.hd, ok.frames, ok.stk, ok.exf, ok.bs, ok.bsz, ok.noex, ok.exfs, ok.funs, ok.frf⟩
section
variable {X : Cx} {pins : List (Addr × Obj)} {σ : St} {H : Hp} {s : Shared} {E : Value → Shared → Prop}
theorem Inv.wish (I : Inv X pins σ H s) (E : Value → Shared → Prop) : Inv (X.wish E) pins σ H s := ⟨I.ok.wish E, I.os, I.bare, I.base, I.loc, I.cell, I.free, I.freeC, I.pin, I.hok, I.len⟩
theorem Inv.unwish (I : Inv (X.wish E) pins σ H s) : Inv X pins σ H s := ⟨I.ok.unwish, I.os, I.bare, I.base, I.loc, I.cell, I.free, I.freeC, I.pin, I.hok, I.len⟩
theorem SP.unwish {D : Ends} {f : Flow} {s' : Shared} (h : SP (X.wish E) pins D f s') : SP X pins D f s' := by
  cases f with
  | next => obtain ⟨σ', H', I, q⟩ := h; exact ⟨σ', H', I.unwish, q⟩
  | brk => obtain ⟨σ', H', I, q⟩ := h; exact ⟨σ', H', I.unwish, q⟩
  | cont => obtain ⟨σ', H', I, q⟩ := h; exact ⟨σ', H', I.unwish, q⟩
  | ret u => obtain ⟨v, σ', H', I, r, q⟩ := h; exact ⟨v, σ', H', I.unwish, r, q⟩
theorem PSs.nox {st : List Stmt} {t : TS} (h : PSs X.nox st t) : PSs X st t := fun pins s σ H D I hw =>
  wpAny_mono (h pins s σ H D (I.wish _) hw) (fun _ _ q => q.unwish) fun _ _ z => False.elim z
end
section
variable {X : Cx} {st : Stmt} {rest : List Stmt} {t u : TS} {e : Expr} {te : TE} {pos : Pos}
def tNext : TS := fun D σ H => D.nx σ H
def tSeq (t u : TS) : TS := fun D σ H => t { D with nx := u D } σ H
theorem pss_nil : PSs X [] tNext := fun _ _ σ H _ I h => wpAny_execs_nil ⟨σ, H, I, h⟩
theorem pss_cons (h1 : PS X st t) (h2 : PSs X rest u) : PSs X (st :: rest) (tSeq t u) := by
  intro pins s σ H D I h
  refine wpAny_execs_cons (thn (h1 pins s σ H { D with nx := u D } I h) fun f s1 q => ?_)
  cases f with
  | next =>
    obtain ⟨σ', H', I', q⟩ := q
    exact h2 pins s1 σ' H' D I' q
  | ret v => exact q
  | brk => exact q
  | cont => exact q
theorem pss_one (h1 : PS X st t) : PSs X [st] t := by
  intro pins s σ H D I h
  refine wpAny_execs_cons (thn (h1 pins s σ H D I h) fun f s1 q => ?_)
  cases f with
  | next => exact wpAny_execs_nil q
  | ret v => exact q
  | brk => exact q
  | cont => exact q
def tBreak : TS := fun D σ H => D.bk σ H
def tCont : TS := fun D σ H => D.ct σ H
theorem Inv.quiet {pins : List (Addr × Obj)} {σ : St} {H : Hp} {s : Shared} (I : Inv X pins σ H s) : interactive X.env = false := by simp [interactive, I.ok.kind]
def tDrop (te : TE) : TS := fun D σ H => te σ H fun _ H1 => D.nx σ H1
theorem ps_expr (he : PE X e te) (hs : swapsWith e none pos.line X.env = pure false := by rfl) : PS X (.Expr e pos) (tDrop te) := by
  intro pins s σ H D I h
  exact wpAny_Expr_any (thn (he pins s σ H _ I h) fun v s1 ⟨x, H1, I1, r1, q1⟩ => ⟨σ, H1, I1, q1⟩) I.quiet hs
def tRet (te : TE) : TS := fun D σ H => te σ H D.rt
theorem ps_ret (he : PE X e te) : PS X (.Return (some e) pos) (tRet te) := by
  intro pins s σ H D I h
  exact wpAny_Return_some (thn (he pins s σ H _ I h) fun v s1 ⟨x, H1, I1, r1, q1⟩ => ⟨x, σ, H1, I1, r1, q1⟩)
def tRetN : TS := fun D _ H => D.rt .non H
def tIfS (c : TT) (t u : TS) : TS := fun D σ H => c σ H fun b H1 => if b = true then t D σ H1 else u D σ H1
theorem ps_if {c : Expr} {a b : List Stmt} {tc : TT} (hc : PT X c tc) (ha : PSs X a t) (hb : PSs X b u) : PS X (.If c a b pos) (tIfS tc t u) := by
  intro pins s σ H D I h
  refine wpAny_If (thn (hc pins s σ H _ I h) fun d s1 ⟨H1, I1, q1⟩ => ?_)
  cases d with
  | true => exact ha pins s1 σ H1 D I1 q1
  | false => exact hb pins s1 σ H1 D I1 q1
def tNever : TS := fun _ _ _ => False
end
abbrev TG := V → St → Hp → (St → Hp → Prop) → Prop
abbrev TGs := List V → St → Hp → (St → Hp → Prop) → Prop
def PG (X : Cx) (target : Expr) (t : TG) : Prop :=
  ∀ (pins : List (Addr × Obj)) (s : Shared) (σ : St) (H : Hp) (v : V) (u : Value) (Q : St → Hp → Prop), Inv X pins σ H s → RelV v u → t v σ H Q →
    wpAny (model X.prog X.w) X.A (assign target X.env u) (fun _ s' => ∃ σ' H', Inv X pins σ' H' s' ∧ Q σ' H') X.xe s
def PGs (X : Cx) (ts : List Expr) (t : TGs) : Prop :=
  ∀ (pins : List (Addr × Obj)) (s : Shared) (σ : St) (H : Hp) (vs : List V) (us : List Value) (Q : St → Hp → Prop), Inv X pins σ H s → Vals vs us → t vs σ H Q →
    wpAny (model X.prog X.w) X.A (assignInOrder ((assignEach ts X.env).map (·.2)) us) (fun _ s' => ∃ σ' H', Inv X pins σ' H' s' ∧ Q σ' H') X.xe s
abbrev TSet := V → V → V → Hp → (Hp → Prop) → Prop
def PSet (X : Cx) (t : TSet) : Prop :=
  ∀ (pins : List (Addr × Obj)) (s : Shared) (σ : St) (H : Hp) (o i v : V) (ov iv u : Value) (Q : Hp → Prop), Inv X pins σ H s → RelV o ov → RelV i iv → RelV v u → t o i v H Q →
    wpAny (model X.prog X.w) X.A (setItem ov iv u) (fun _ s' => ∃ H', Inv X pins σ H' s' ∧ Q H') X.xe s
abbrev TIp := V → V → Hp → VK → Prop
def PIp (X : Cx) (op : Operator) (t : TIp) : Prop :=
  ∀ (pins : List (Addr × Obj)) (s : Shared) (σ : St) (H : Hp) (x y : V) (v u : Value) (Q : VK), Inv X pins σ H s → RelV x v → RelV y u → t x y H Q →
    wpAny (model X.prog X.w) X.A (inplaceOp op v u) (EP X pins σ Q) X.xe s
section
variable {X : Cx} {pos : Pos}
def gName (i : Nat) : TG := fun v σ H Q => Q (σ.set i (some v)) H
theorem pg_name {i : Nat} {x : Str} (hN : X.N.Nodup) (hi : X.N[i]? = some x) (hx : Loc X.env.scope x) (hf : X.fn x = true ∨ X.env.scope.names.lookup x = some .local := by first | exact .inl rfl | exact .inr rfl | assumption) : PG X (.Name x pos) (gName i) := by
  intro pins s σ H v u Q I r h
  exact wpAny_assign_Name (store_ok I hN hi hx r (fun s' I' => ⟨_, H, I', h⟩) hf)
def gNil : TGs := fun vs σ H Q => vs = [] ∧ Q σ H
def gCons (t : TG) (u : TGs) : TGs := fun vs σ H Q => ∃ v r, vs = v :: r ∧ t v σ H fun σ' H' => u r σ' H' Q
theorem pgs_nil : PGs X [] gNil := by
  intro pins s σ H vs us Q I r h
  obtain ⟨e, h⟩ := h
  subst e
  cases r
  exact assignInOrder_nil ⟨σ, H, I, h⟩
theorem pgs_cons {e : Expr} {es : List Expr} {t : TG} {u : TGs} (h1 : PG X e t) (h2 : PGs X es u)
    (hs : (assignEach (e :: es) X.env).map (·.2) = assign e X.env :: (assignEach es X.env).map (·.2) := by rfl) : PGs X (e :: es) (gCons t u) := by
  intro pins s σ H vs us Q I r h
  obtain ⟨v, vr, e1, h⟩ := h
  subst e1
  cases r with
  | cons r rr =>
    rw [hs]
    refine assignInOrder_cons (thn (h1 pins s σ H _ _ _ I r h) fun _ s1 ⟨σ1, H1, I1, q1⟩ => ?_)
    exact h2 pins s1 σ1 H1 _ _ Q I1 rr q1
def gTup (K : PySem.W.Frag) (n : Nat) (t : TGs) : TG := fun v σ H Q => ∃ a xs, v = .ref a ∧ SqT K H a xs ∧ xs.length = n ∧ t xs σ H Q
theorem pg_tup {es : List Expr} {k : Nat} {t : TGs} {n : Nat} (hc : X.calm = true) (h : PGs X es t)
    (hn : (assignEach es X.env).length = n := by rfl) (hst : (assignEach es X.env).findIdx? (·.1) = none := by rfl) : PG X (.Tuple es k pos) (gTup X.K n t) := by
  intro pins s σ H v u Q I r hw
  obtain ⟨a, xs, e1, hq, hl, hw⟩ := hw
  subst e1
  cases r
  obtain ⟨its, rv, ht, hz⟩ := I.tuple hq
  refine assign_Tuple_tuple (I.ok.hd hc) ht (by simp [hn, ← hl, rv.length]) hst fun h' hx => ?_
  have I1 : Inv X pins σ H { s with heap := h' } := I.kept (t' := s.toks) fun b o e => hx b o (Nat.ne_of_lt (Heap.lt_size e)) e
  exact h pins _ σ H xs _ Q I1 (by simpa using rv) hw
def gSub (to ti : TE) (t : TSet) : TG := fun v σ H Q => to σ H fun o H1 => ti σ H1 fun i H2 => t o i v H2 fun H3 => Q σ H3
theorem pg_sub {o i : Expr} {to ti : TE} {t : TSet} (ho : PE X o to) (hi : PE X i ti) (hs : PSet X t)
    (ha : ∀ v, assign (.Subscript o i pos) X.env v = (do
      let ov ← holding [v] (eval o X.env)
      let iv ← holding [v, ov] (eval i X.env)
      standAt pos
      holding [v, ov, iv] (setItem ov iv v)
      release [v, ov, iv] []) := by intro _; rfl) : PG X (.Subscript o i pos) (gSub to ti t) := by
  intro pins s σ H v u Q I r h
  rw [ha]
  refine wpAny_bind (wpAny_holding (thn (ho pins s σ H _ I h) fun ov s1 ⟨x, H1, I1, r1, q1⟩ => ?_))
  refine wpAny_bind (wpAny_holding (thn (hi pins s1 σ H1 _ I1 q1) fun iv s2 ⟨y, H2, I2, r2, q2⟩ => ?_))
  refine wpAny_bind (wpAny_standAt (wpAny_bind (wpAny_holding (thn (hs pins s2 σ H2 x y v ov iv u _ I2 r1 r2 r q2) fun _ s3 ⟨H3, I3, q3⟩ => ?_))))
  exact wpAny_release ⟨σ, H3, I3, q3⟩
def tAsg (te : TE) (g : TG) : TS := fun D σ H => te σ H fun x H1 => g x σ H1 D.nx
theorem ps_asg {tg e : Expr} {te : TE} {g : TG} (he : PE X e te) (hg : PG X tg g) (hs : swapsWithSole [tg] e pos.line X.env = pure false := by rfl) (hw : swappedStores [tg] e X.env = pure none := by rfl)
    (h1 : (assignEach [tg] X.env).map (·.2) = [assign tg X.env] := by rfl) : PS X (.Assign [tg] e pos) (tAsg te g) := by
  intro pins s σ H D I h
  refine wpAny_Assign_stores (thn (he pins s σ H _ I h) fun v s1 ⟨x, H1, I1, r1, q1⟩ => ?_) hs hw
  rw [h1]
  exact thn (hg pins s1 σ H1 x v _ I1 r1 q1) fun _ s2 q => q
theorem ps_set {i : Nat} {x : Str} {e : Expr} {te : TE} {pos' : Pos} (hN : X.N.Nodup) (hi : X.N[i]? = some x) (hx : Loc X.env.scope x) (he : PE X e te) (hs : swapsWith e (some (.Name x pos')) pos.line X.env = pure false := by rfl) (hf : X.fn x = true ∨ X.env.scope.names.lookup x = some .local := by first | exact .inl rfl | exact .inr rfl | assumption) :
    PS X (.Assign [.Name x pos'] e pos) (tAsg te (gName i)) := by
  intro pins s σ H D I h
  refine wpAny_Assign_Name (thn (he pins s σ H _ I h) fun v s1 ⟨y, H1, I1, r1, q1⟩ => ?_) hs
  exact store_ok I1 hN hi hx r1 (fun s2 I2 => ⟨_, H1, I2, q1⟩) hf
def tPar (i j : Nat) (ta : TA) : TS := fun D σ H => ta σ H fun vs H1 => ∃ v w, vs = [v, w] ∧ D.nx ((σ.set i (some v)).set j (some w)) H1
def tAug (i : Nat) (te : TE) (ti : TIp) : TS := fun D σ H => ∃ x, σ[i]? = some (some x) ∧ te σ H fun y H1 => ti x y H1 fun z H2 => D.nx (σ.set i (some z)) H2
def tAugS (to ti te : TE) (tget : V → V → Hp → VK → Prop) (tip : TIp) (tset : TSet) : TS := fun D σ H => to σ H fun o H1 => ti σ H1 fun i H2 => tget o i H2 fun x H3 => te σ H3 fun y H4 => tip x y H4 fun z H5 => tset o i z H5 fun H6 => D.nx σ H6
def PGet (X : Cx) (t : V → V → Hp → VK → Prop) : Prop :=
  ∀ (pins : List (Addr × Obj)) (s : Shared) (σ : St) (H : Hp) (o i : V) (ov iv : Value) (Q : VK), Inv X pins σ H s → RelV o ov → RelV i iv → t o i H Q →
    wpAny (model X.prog X.w) X.A (getItem ov iv) (EP X pins σ Q) X.xe s
def ipI (f : Int → Int → Int) : TIp := fun x y H Q => ∃ i j, x = .int i ∧ y = .int j ∧ Q (.int (f i j)) H
end
section
variable {X : Cx} {pos : Pos}
def tWhile (c : TT) (tb : TS) : TS := fun D σ H => ∃ W : Nat → St → Hp → Prop, (∃ m, W m σ H) ∧ ∀ m σ H, W m σ H →
  c σ H fun b H1 => if b = true then ∃ N : St → Hp → Prop, (∀ σ' H', N σ' H' → ∃ m', m' < m ∧ W m' σ' H') ∧ tb { D with nx := N, ct := N, bk := D.nx } σ H1 else D.nx σ H1
end
structure It where
  go : Nat → Hp → Prop
  yld : Nat → Hp → V → Hp → Prop
  stop : Nat → Hp → Prop
def FpOk (X : Cx) (pins : List (Addr × Obj)) (H : Hp) (b : Addr) : Prop :=
  H b = none ∧ b ≠ X.env.locals ∧ b ∉ X.fs ∧ (b ∈ X.ex ∨ X.s_0.heap.objs.size ≤ b) ∧ (∀ x c, X.env.cells.lookup x = some c → c ≠ b) ∧ ∀ p ∈ X.pn ++ pins, p.1 ≠ b
theorem Inv.fpOk {X : Cx} {pins : List (Addr × Obj)} {σ : St} {H H' : Hp} {s : Shared} {b : Addr} (I : Inv X pins σ H s) (hb : s.heap.objs.size ≤ b) (hn : H' b = none) : FpOk X pins H' b := by
  refine ⟨hn, Nat.ne_of_gt (Nat.lt_of_lt_of_le I.lt hb), I.nofs hb, .inr (Nat.le_trans I.sz hb), fun x c e z => ?_, fun p hp z => ?_⟩
  · obtain ⟨v, q⟩ := I.cell x c e
    exact absurd (Nat.lt_of_lt_of_le q.lt (by rw [z]; exact hb)) (Nat.lt_irrefl _)
  · exact absurd (Nat.lt_of_lt_of_le (Heap.lt_size (I.pin p hp).1) (by rw [z]; exact hb)) (Nat.lt_irrefl _)
structure Turn (P : Program) (w : World) (K : PySem.W.Frag) (tg : Expr) (J : It) (fp : List Addr) (it : Addr) (tn : Nat → Heap → Prop) : Prop where
  mem : it ∈ fp
  obj : ∀ i h, tn i h → ∀ b ∈ fp, ∃ o, h.get? b = some o ∧ ∀ v, o.data ≠ .cell v
  keep : ∀ i h h', tn i h → (∀ b ∈ fp, ∀ o, h.get? b = some o → h'.get? b = some o) → tn i h'
  item : ∀ (X : Cx), X.prog = P → X.w = w → X.K = K → X.calm = true → ∀ (i : Nat) (pins : List (Addr × Obj)) (s : Shared) (σ : St) (H : Hp) (E : Value → Shared → Prop), Inv X pins σ H s → (∀ b ∈ fp, FpOk X pins H b) → tn i s.heap → J.go i H →
    wpAny (model P w) X.A (pyNext (.ref it)) (fun r s1 => ∃ u, r = some u ∧
      wpAny (model P w) X.A (letOwnedTupleGo tg (.ref it) u) (fun _ s2 => ∃ x H', Inv X pins σ H' s2 ∧ RelV x u ∧ J.yld i H x H' ∧ tn (i + 1) s2.heap ∧ ∀ b ∈ fp, H' b = none) E s1) E s
  done : ∀ (X : Cx), X.prog = P → X.w = w → X.K = K → X.calm = true → ∀ (i : Nat) (pins : List (Addr × Obj)) (s : Shared) (σ : St) (H : Hp) (E : Value → Shared → Prop), Inv X pins σ H s → (∀ b ∈ fp, FpOk X pins H b) → tn i s.heap → J.stop i H →
    wpAny (model P w) X.A (pyNext (.ref it)) (fun r s1 => r = none ∧ Inv X pins σ H s1) E s
  self : ∀ (A : Around) (i : Nat) (s : Shared) (Q : Value → Shared → Prop) (E : Value → Shared → Prop), tn i s.heap → Q (.ref it) s → wpAny (model P w) A (pyIter (.ref it)) Q E s
abbrev TI := St → Hp → (It → Hp → Prop) → Prop
def PIE (X : Cx) (pins : List (Addr × Obj)) (σ : St) (tg : Expr) (R : It → Hp → Prop) (itv : Value) (s2 : Shared) : Prop :=
  ∃ (it : Addr) (fp : List Addr) (tn : Nat → Heap → Prop) (J : It) (H' : Hp), itv = .ref it ∧ Inv X pins σ H' s2 ∧ Turn X.prog X.w X.K tg J fp it tn ∧ tn 0 s2.heap ∧ (∀ b ∈ fp, FpOk X pins H' b) ∧ R J H'
def PI (X : Cx) (tg iter : Expr) (wi : TI) : Prop :=
  ∀ (pins : List (Addr × Obj)) (s : Shared) (σ : St) (H : Hp) (R : It → Hp → Prop), Inv X pins σ H s → wi σ H R →
    wpAny (model X.prog X.w) X.A (eval iter X.env) (fun v s1 => wpAny (model X.prog X.w) X.A (pyIter v) (PIE X pins σ tg R) X.xe s1) X.xe s
theorem go_of {M : Model} {A : Around} {E : Value → Shared → Prop} {s : Shared} {tg : Expr} {it : Addr} {u : Value} {o : Obj} {n : String} {vs : Array Value} {Q : Unit → Shared → Prop} (ho : s.heap.get? it = some o) (hc : o.cls = .type n) (hd : o.data = .fields vs)
    (hn : ["enumerate", "zip", "dict_itemiterator", "dict_reverseitemiterator", "odict_iterator", "itertools.zip_longest", "itertools.pairwise"].contains n = false) (hQ : Q () s) : wpAny M A (letOwnedTupleGo tg (.ref it) u) Q E s := by
  unfold letOwnedTupleGo
  cases tg <;> first
    | exact wpAny_pure hQ
    | (cases u <;> first
        | exact wpAny_pure hQ
        | (refine wpAny_bind (wpAny_load ho ?_)
           rw [hc, hd]
           show wpAny M A (if (["enumerate", "zip", "dict_itemiterator", "dict_reverseitemiterator", "odict_iterator", "itertools.zip_longest", "itertools.pairwise"].contains n && vs[0]? == some (rawInt _)) = true then _ else _) Q E s
           rw [if_neg (by intro h; rw [hn, Bool.false_and] at h; cases h)]
           exact wpAny_pure hQ))
def Itl (K : PySem.W.Frag) (a : Addr) : It :=
  ⟨fun i H => ∃ xs x, SqL K H a xs ∧ xs[i]? = some x, fun i H x H' => H' = H ∧ ∀ xs, SqL K H a xs → xs[i]? = some x, fun i H => ∃ xs, SqL K H a xs ∧ xs.length ≤ i⟩
def Itt (K : PySem.W.Frag) (a : Addr) : It :=
  ⟨fun i H => ∃ xs x, SqT K H a xs ∧ xs[i]? = some x, fun i H x H' => H' = H ∧ ∀ xs, SqT K H a xs → xs[i]? = some x, fun i H => ∃ xs, SqT K H a xs ∧ xs.length ≤ i⟩
def Itr (lo : Int) (n : Nat) : It := ⟨fun i _ => i < n, fun i H x H' => H' = H ∧ x = .int (lo + i), fun i _ => n ≤ i⟩
theorem turn_list {P : Program} {w : World} {K : PySem.W.Frag} {tg : Expr} (a it : Addr) : Turn P w K tg (Itl K a) [it] it (fun i h => h.IsListIter it a i) where
  mem := by simp
  obj := fun i h st b hb => by
    have e : b = it := by simpa using hb
    subst e
    obtain ⟨o, e, c, d⟩ := st
    exact ⟨o, e, fun v z => by rw [d] at z; cases z⟩
  keep := fun i h h' st k => st.at fun o e => k it (by simp) o e
  item := by
    intro X hP hw hK hc i pins s σ H E I hf st hg
    subst hP hw hK
    obtain ⟨xs, x, hq, hx⟩ := hg
    obtain ⟨its, rv, p, hz⟩ := I.list hq
    obtain ⟨u, hu, ru⟩ := rv.get hx
    obtain ⟨f0, f1, f2, f3, f4, f5⟩ := hf it (by simp)
    refine wpAny_pyNext_list_item st p.isList (x := u) (by simpa using hu) fun h' st' sb => ?_
    have I1 : Inv X pins σ H { s with heap := h' } := I.turned (t' := s.toks) (fun b o hb e => (sb.2 b hb).trans e) f0 f1 f3 f4 f5
    obtain ⟨o, e, c, d⟩ := id st'
    exact ⟨u, rfl, go_of (s := { s with heap := h' }) e c d (by decide) ⟨x, H, I1, ru, ⟨rfl, fun ys hy => by rw [I.list_inj hy hq]; exact hx⟩, st', fun b hb => (hf b hb).1⟩⟩
  done := by
    intro X hP hw hK hc i pins s σ H E I hf st hg
    subst hP hw hK
    obtain ⟨xs, hq, hx⟩ := hg
    obtain ⟨its, rv, p, hz⟩ := I.list hq
    obtain ⟨f0, f1, f2, f3, f4, f5⟩ := hf it (by simp)
    have hl := rv.length
    exact wpAny_pyNext_list_end (I.ok.hd hc) st p.isList (by simp; omega) fun h' eb => ⟨rfl, I.turned (t' := s.toks) (fun b o hb e => eb b o hb e) f0 f1 f3 f4 f5⟩
  self := fun _ _ _ _ _ st h => wpAny_pyIter_listiter st h
theorem turn_tuple {P : Program} {w : World} {K : PySem.W.Frag} {tg : Expr} (a it : Addr) : Turn P w K tg (Itt K a) [it] it (fun i h => h.IsTupleIter it a i) where
  mem := by simp
  obj := fun i h st b hb => by
    have e : b = it := by simpa using hb
    subst e
    obtain ⟨o, e, c, d⟩ := st
    exact ⟨o, e, fun v z => by rw [d] at z; cases z⟩
  keep := fun i h h' st k => st.at fun o e => k it (by simp) o e
  item := by
    intro X hP hw hK hc i pins s σ H E I hf st hg
    subst hP hw hK
    obtain ⟨xs, x, hq, hx⟩ := hg
    obtain ⟨its, rv, p, hz⟩ := I.tuple hq
    obtain ⟨u, hu, ru⟩ := rv.get hx
    obtain ⟨f0, f1, f2, f3, f4, f5⟩ := hf it (by simp)
    refine wpAny_pyNext_tuple_item st (show s.heap.IsTuple a its.toArray from p) (x := u) (by simpa using hu) fun h' st' sb => ?_
    have I1 : Inv X pins σ H { s with heap := h' } := I.turned (t' := s.toks) (fun b o hb e => (sb.2 b hb).trans e) f0 f1 f3 f4 f5
    obtain ⟨o, e, c, d⟩ := id st'
    exact ⟨u, rfl, go_of (s := { s with heap := h' }) e c d (by decide) ⟨x, H, I1, ru, ⟨rfl, fun ys hy => by rw [I.tuple_inj hy hq]; exact hx⟩, st', fun b hb => (hf b hb).1⟩⟩
  done := by
    intro X hP hw hK hc i pins s σ H E I hf st hg
    subst hP hw hK
    obtain ⟨xs, hq, hx⟩ := hg
    obtain ⟨its, rv, p, hz⟩ := I.tuple hq
    obtain ⟨f0, f1, f2, f3, f4, f5⟩ := hf it (by simp)
    have hl := rv.length
    exact wpAny_pyNext_tuple_end (I.ok.hd hc) st (show s.heap.IsTuple a its.toArray from p) (by simp; omega) fun h' eb => ⟨rfl, I.turned (t' := s.toks) (fun b o hb e => eb b o hb e) f0 f1 f3 f4 f5⟩
  self := fun _ _ _ _ _ st h => wpAny_pyIter_tupleiter st h
theorem turn_range {P : Program} {w : World} {K : PySem.W.Frag} {tg : Expr} (it : Addr) (lo : Int) (n : Nat) : Turn P w K tg (Itr lo n) [it] it (fun i h => IsRangeIter h it (lo + (i : Nat) * 1) ((n : Int) - (i : Nat)) 1) where
  mem := by simp
  obj := fun i h st b hb => by
    have e : b = it := by simpa using hb
    subst e
    exact ⟨_, st, fun v z => by
      have z' : Data.fields _ = Data.cell v := z
      cases z'⟩
  keep := fun i h h' st k => k it (by simp) _ st
  item := by
    intro X hP hw hK hc i pins s σ H E I hf st hg
    subst hP hw hK
    obtain ⟨f0, f1, f2, f3, f4, f5⟩ := hf it (by simp)
    have W := Walks.range (prog := X.prog) (w := X.w) (I.ok.hd hc) it lo 1 n
    refine W.item i s _ _ hg st fun v h' tk hv st' kk => ?_
    obtain ⟨t, rfl⟩ := hv
    have I1 : Inv X pins σ H { s with heap := h', toks := tk } := I.turned (fun b o hb e => kk b o (by simpa using hb) e) f0 f1 f3 f4 f5
    refine ⟨_, rfl, go_of (s := { s with heap := h', toks := tk }) (n := "range_iterator") st' rfl rfl (by decide) ⟨.int (lo + i), H, I1, ⟨t, ?_⟩, ⟨rfl, rfl⟩, st', fun b hb => (hf b hb).1⟩⟩
    rw [Int.mul_one]
  done := by
    intro X hP hw hK hc i pins s σ H E I hf st hg
    subst hP hw hK
    obtain ⟨f0, f1, f2, f3, f4, f5⟩ := hf it (by simp)
    exact wpAny_pyNext_range_end (I.ok.hd hc) st (by have : n ≤ i := hg; omega) fun h' eb => ⟨rfl, I.turned (t' := s.toks) (fun b o hb e => eb b o hb e) f0 f1 f3 f4 f5⟩
  self := fun _ _ _ _ _ st h => wpAny_pyIter_rangeiter st h
end L2
namespace L2
open PySem PySem.Spec PyProof.Rows
section
variable {X : Cx} {tg : Expr}
def iList (K : PySem.W.Frag) (tl : TE) : TI := fun σ H R => tl σ H fun x H1 => ∃ a, x = .ref a ∧ (∃ xs, SqL K H1 a xs) ∧ R (Itl K a) H1
def iTup (K : PySem.W.Frag) (tl : TE) : TI := fun σ H R => tl σ H fun x H1 => ∃ a, x = .ref a ∧ (∃ xs, SqT K H1 a xs) ∧ R (Itt K a) H1
theorem pi_list {l : Expr} {tl : TE} (hl : PE X l tl) : PI X tg l (iList X.K tl) := by
  intro pins s σ H R I h
  refine thn (hl pins s σ H _ I h) fun v s1 ⟨x, H1, I1, r1, q1⟩ => ?_
  obtain ⟨a, e, ⟨xs, hq⟩, q⟩ := q1
  subst e
  cases r1
  obtain ⟨its, rv, p, hz⟩ := I1.list hq
  refine wpAny_pyIter_list p.isList ?_
  refine ⟨s1.heap.objs.size, [s1.heap.objs.size], _, _, H1, rfl, I1.kept (t' := s1.toks) fun b o e => Heap.get?_push_of_some _ e, turn_list a _, ⟨_, Heap.get?_push_size _ rfl, rfl, rfl⟩, fun b hb => ?_, q⟩
  have e : b = s1.heap.objs.size := by simpa using hb
  subst e
  exact I1.fpOk (Nat.le_refl _) (I1.hok.fresh (Nat.le_refl _))
theorem pi_tup {l : Expr} {tl : TE} (hl : PE X l tl) : PI X tg l (iTup X.K tl) := by
  intro pins s σ H R I h
  refine thn (hl pins s σ H _ I h) fun v s1 ⟨x, H1, I1, r1, q1⟩ => ?_
  obtain ⟨a, e, ⟨xs, hq⟩, q⟩ := q1
  subst e
  cases r1
  obtain ⟨its, rv, p, hz⟩ := I1.tuple hq
  refine wpAny_pyIter_tuple (show s1.heap.IsTuple a its.toArray from p) ?_
  refine ⟨s1.heap.objs.size, [s1.heap.objs.size], _, _, H1, rfl, I1.kept (t' := s1.toks) fun b o e => Heap.get?_push_of_some _ e, turn_tuple a _, ⟨_, Heap.get?_push_size _ rfl, rfl, rfl⟩, fun b hb => ?_, q⟩
  have e : b = s1.heap.objs.size := by simpa using hb
  subst e
  exact I1.fpOk (Nat.le_refl _) (I1.hok.fresh (Nat.le_refl _))
theorem range_it {pins : List (Addr × Obj)} {σ : St} {H : Hp} {s : Shared} {R : It → Hp → Prop} {E : Value → Shared → Prop} {lo hi : Int} {t u v : Tok} {tk : Nat} (I : Inv X pins σ H s) (h1 : -(2 ^ 62) ≤ lo) (h2 : lo < 2 ^ 62) (h3 : -(2 ^ 62) ≤ hi) (h4 : hi < 2 ^ 62)
    (q : R (Itr lo (hi - lo).toNat) H) : wpAny (model X.prog X.w) X.A (pyIter (.ref s.heap.objs.size)) (PIE X pins σ tg R) E { s with heap := s.heap.push { cls := .type "range", data := .fields #[.int lo t, .int hi u, .int 1 v] }, toks := tk } := by
  refine wpAny_pyIter_range (IsRange.new ..) (small_one h1 h2 h3 h4) ?_
  have I1 : Inv X pins σ H { s with heap := s.heap.push { cls := .type "range", data := .fields #[.int lo t, .int hi u, .int 1 v] }, toks := tk } := I.kept fun b o e => Heap.get?_push_of_some _ e
  refine ⟨(s.heap.push { cls := .type "range", data := .fields #[.int lo t, .int hi u, .int 1 v] }).objs.size, [(s.heap.push { cls := .type "range", data := .fields #[.int lo t, .int hi u, .int 1 v] }).objs.size], _, _, H, rfl,
    I1.kept (t' := tk) fun b o e => Heap.get?_push_of_some _ e, turn_range _ lo (hi - lo).toNat, ?_, fun b hb => ?_, q⟩
  · have e1 : lo + ((0 : Nat) : Int) * 1 = lo := by simp
    have e2 : (((hi - lo).toNat : Nat) : Int) - ((0 : Nat) : Int) = Builtin.Range.rangeSize lo hi 1 := by rw [rangeSize_one]; split <;> omega
    show IsRangeIter _ _ (lo + ((0 : Nat) : Int) * 1) ((((hi - lo).toNat : Nat) : Int) - ((0 : Nat) : Int)) 1
    rw [e1, e2]
    exact Heap.get?_push_size _ rfl
  · have e : b = (s.heap.push { cls := .type "range", data := .fields #[.int lo t, .int hi u, .int 1 v] }).objs.size := by simpa using hb
    subst e
    exact I1.fpOk (Nat.le_refl _) (I1.hok.fresh (Nat.le_refl _))
def iRng1 (ta : TA) : TI := fun σ H R => ta σ H fun vs H1 => ∃ j : Int, vs = [.int j] ∧ -(2 ^ 62) ≤ j ∧ j < 2 ^ 62 ∧ R (Itr 0 j.toNat) H1
def iRng2 (ta : TA) : TI := fun σ H R => ta σ H fun vs H1 => ∃ i j : Int, vs = [.int i, .int j] ∧ (-(2 ^ 62) ≤ i ∧ i < 2 ^ 62 ∧ -(2 ^ 62) ≤ j ∧ j < 2 ^ 62) ∧ R (Itr i (j - i).toNat) H1
theorem pi_range1 {a : Expr} {ta : TA} {p pos : Pos} (hg : Gl X "range") (hm : X.mg "range" = none) (ha : PA X [a] ta) (hs : starEach [a] X.env = [(false, eval a X.env)] := by rfl) : PI X tg (.Call (.Name "range" p) [a] [] pos) (iRng1 ta) := by
  intro pins s σ H R I h
  refine Call_ (ld_blt I hg hm boot_range (PyProof.Rows.callWith_type1 (thn (ha pos pins s σ H _ I h) fun us s1 ⟨vs, H1, I1, r1, q1⟩ => ?_) hs rfl))
  obtain ⟨j, e, q1, q2, q⟩ := q1
  subst e
  cases r1 with
  | cons r rr =>
    cases rr
    obtain ⟨t, rfl⟩ := r
    exact call_range_1 (range_it I1 (by omega) (by omega) q1 q2 (by simpa using q))
theorem pi_range2 {a b : Expr} {ta : TA} {p pos : Pos} (hg : Gl X "range") (hm : X.mg "range" = none) (ha : PA X [a, b] ta) (hs : starEach [a, b] X.env = [(false, eval a X.env), (false, eval b X.env)] := by rfl) (hs2 : starEach [b] X.env = [(false, eval b X.env)] := by rfl) :
    PI X tg (.Call (.Name "range" p) [a, b] [] pos) (iRng2 ta) := by
  intro pins s σ H R I h
  refine Call_ (ld_blt I hg hm boot_range (PyProof.Rows.callWith_type1 (thn (ha pos pins s σ H _ I h) fun us s1 ⟨vs, H1, I1, r1, q1⟩ => ?_) (by rw [hs, hs2]) (by rw [hs2]; rfl)))
  obtain ⟨i, j, e, ⟨q1, q2, q3, q4⟩, q⟩ := q1
  subst e
  cases r1 with
  | cons r rr =>
    cases rr with
    | cons r' rr =>
      cases rr
      obtain ⟨t, rfl⟩ := r
      obtain ⟨t', rfl⟩ := r'
      exact call_range_2 (range_it I1 q1 q2 q3 q4 q)
def tFor (wi : TI) (g : TG) (tb : TS) : TS := fun D σ H => wi σ H fun J H1 => ∃ W : Nat → Nat → St → Hp → Prop, (∃ m, W 0 m σ H1) ∧ ∀ i m σ H, W i m σ H →
  (J.stop i H ∧ D.nx σ H) ∨ (J.go i H ∧ ∃ N : St → Hp → Prop, (∀ σ' H', N σ' H' → ∃ m', m' < m ∧ W (i + 1) m' σ' H') ∧ ∀ x H', J.yld i H x H' → g x σ H' fun σ2 H2 => tb { D with nx := N, ct := N, bk := D.nx } σ2 H2)
def pinsAt (fp : List Addr) (h : Heap) : List (Addr × Obj) := fp.filterMap fun b => (h.get? b).map fun o => (b, o)
theorem mem_pinsAt {fp : List Addr} {h : Heap} {b : Addr} {o : Obj} (hb : b ∈ fp) (e : h.get? b = some o) : (b, o) ∈ pinsAt fp h := List.mem_filterMap.mpr ⟨b, hb, by rw [e]; rfl⟩
theorem of_pinsAt {fp : List Addr} {h : Heap} {p : Addr × Obj} (hp : p ∈ pinsAt fp h) : p.1 ∈ fp ∧ h.get? p.1 = some p.2 := by
  obtain ⟨b, hb, e⟩ := List.mem_filterMap.mp hp
  cases q : h.get? b with
  | none => rw [q] at e; cases e
  | some o =>
    rw [q] at e
    have e' : (b, o) = p := Option.some.inj e
    subst e'
    exact ⟨hb, q⟩
theorem Inv.pinned {pins : List (Addr × Obj)} {σ : St} {H : Hp} {s : Shared} {fp : List Addr} (I : Inv X pins σ H s) (hf : ∀ b ∈ fp, FpOk X pins H b) (ho : ∀ b ∈ fp, ∃ o, s.heap.get? b = some o ∧ ∀ v, o.data ≠ .cell v) : Inv X (pins ++ pinsAt fp s.heap) σ H s :=
  I.pins_of fun p hp => (List.mem_append.mp hp).elim (fun z => I.pin p (List.mem_append_right _ z)) fun z => by
    obtain ⟨hb, e⟩ := of_pinsAt z
    obtain ⟨f0, f1, f2, _⟩ := hf p.1 hb
    obtain ⟨o, e', d⟩ := ho p.1 hb
    rw [e] at e'; cases e'
    exact ⟨e, f0, f1, f2, d⟩
theorem Inv.unpinned {pins pl : List (Addr × Obj)} {σ : St} {H : Hp} {s : Shared} (I : Inv X (pins ++ pl) σ H s) : Inv X pins σ H s := I.pins_of fun p hp => I.pin p (List.mem_append_right _ (List.mem_append_left _ hp))
theorem ps_for {iter : Expr} {body : List Stmt} {wi : TI} {g : TG} {tb : TS} {pos : Pos} (hp : PassesOwn (model X.prog X.w) X.A X.env X.xe) (hc : X.calm = true) (hi : PI X tg iter wi) (hg : PG X tg g) (hb : PSs X body tb)
    (hs : ∀ x, foldedSetIterable iter X.env x = pure x := by intro _; rfl) : PS X (.For tg iter body [] pos) (tFor wi g tb) := by
  intro pins s σ H D I h
  refine wpAny_For (thn (hi pins s σ H _ I h) fun v s1 h1 => thn h1 fun itv s2 h2 => ?_) hs
  obtain ⟨it, fp, tn, J, H2, e, I2, T, st2, f2, W, ⟨m0, w0⟩, turn⟩ := h2
  subst e
  -- what stays true of the iterator's objects through the loop
  have stat : ∀ {H' : Hp}, (∀ b ∈ fp, H' b = none) → ∀ b ∈ fp, FpOk X pins H' b := fun hn b hb => ⟨hn b hb, (f2 b hb).2⟩
  refine codeAny_forLoop_any (fun n s' => ∃ i σ' H', Inv X pins σ' H' s' ∧ tn i s'.heap ∧ (∀ b ∈ fp, H' b = none) ∧ W i n σ' H') ?_ m0 ⟨0, σ, H2, I2, st2, fun b hb => (f2 b hb).1, w0⟩
  rintro n s3 ⟨i, σ3, H3, I3, st3, fr3, w3⟩
  rcases turn i n σ3 H3 w3 with ⟨stop, qn⟩ | ⟨go, N, hN, step⟩
  · refine wpAny_passesOwn hp (thn (T.done X rfl rfl rfl hc i pins s3 σ3 H3 X.xe I3 (stat fr3) st3 stop) fun r s4 ⟨hr, I4⟩ => ?_)
    subst hr
    exact wpAny_execs_nil ⟨σ3, H3, I4, qn⟩
  · refine wpAny_passesOwn hp (thn (T.item X rfl rfl rfl hc i pins s3 σ3 H3 X.xe I3 (stat fr3) st3 go) fun r s4 ⟨u, hr, h4⟩ => ?_)
    subst hr
    refine wpAny_passesOwn hp (thn h4 fun _ s5 ⟨x, H5, I5, r5, y5, st5, fr5⟩ => ?_)
    have I5' := I5.pinned (stat fr5) (T.obj _ _ st5)
    refine wpAny_passesOwn hp (thn (hg _ s5 σ3 H5 x u _ I5' r5 (step x H5 y5)) fun _ s6 ⟨σ6, H6, I6, q6⟩ => ?_)
    refine wpAny_passesOwn hp (thn (hb _ s6 σ6 H6 _ I6 q6) fun f s7 q7 => ?_)
    have again : ∀ {σ7 : St} {H7 : Hp}, Inv X (pins ++ pinsAt fp s5.heap) σ7 H7 s7 → N σ7 H7 → ∃ m, m < n ∧ ∃ i σ' H', Inv X pins σ' H' s7 ∧ tn i s7.heap ∧ (∀ b ∈ fp, H' b = none) ∧ W i m σ' H' := fun {σ7 H7} I7 n7 => by
      obtain ⟨m', hm, w7⟩ := hN σ7 H7 n7
      refine ⟨m', hm, i + 1, σ7, H7, I7.unpinned, T.keep _ _ _ st5 fun b hb o e => (I7.pin (b, o) (List.mem_append_right _ (List.mem_append_right _ (mem_pinsAt hb e)))).1, fun b hb => ?_, w7⟩
      obtain ⟨o, e, d⟩ := T.obj _ _ st5 b hb
      exact (I7.pin (b, o) (List.mem_append_right _ (List.mem_append_right _ (mem_pinsAt hb e)))).2.1
    cases f with
    | next => obtain ⟨σ7, H7, I7, n7⟩ := q7; exact again I7 n7
    | cont => obtain ⟨σ7, H7, I7, n7⟩ := q7; exact again I7 n7
    | brk => obtain ⟨σ7, H7, I7, q7⟩ := q7; exact ⟨σ7, H7, I7.unpinned, q7⟩
    | ret v => obtain ⟨x7, σ7, H7, I7, r7, q7⟩ := q7; exact ⟨x7, σ7, H7, I7.unpinned, r7, q7⟩
end
theorem for_list {K : PySem.W.Frag} {a : Addr} {xs : List V} {g : TG} {tb : TS} {D : Ends} {σ : St} {H : Hp} (Pv : Nat → St → Hp → Prop) (h0 : Pv 0 σ H) (hl : ∀ i σ H, i ≤ xs.length → Pv i σ H → SqL K H a xs)
    (hs : ∀ i x σ H, xs[i]? = some x → Pv i σ H → g x σ H fun σ2 H2 => tb { D with nx := Pv (i + 1), ct := Pv (i + 1), bk := D.nx } σ2 H2) (hd : ∀ σ H, Pv xs.length σ H → D.nx σ H) :
    ∃ W : Nat → Nat → St → Hp → Prop, (∃ m, W 0 m σ H) ∧ ∀ i m σ H, W i m σ H →
      ((Itl K a).stop i H ∧ D.nx σ H) ∨ ((Itl K a).go i H ∧ ∃ N : St → Hp → Prop, (∀ σ' H', N σ' H' → ∃ m', m' < m ∧ W (i + 1) m' σ' H') ∧ ∀ x H', (Itl K a).yld i H x H' → g x σ H' fun σ2 H2 => tb { D with nx := N, ct := N, bk := D.nx } σ2 H2) := by
  refine ⟨fun i m σ H => m = xs.length - i ∧ i ≤ xs.length ∧ Pv i σ H, ⟨xs.length, by simp, Nat.zero_le _, h0⟩, ?_⟩
  rintro i m σ H ⟨rfl, hi, p⟩
  have q := hl i σ H hi p
  by_cases hlt : i < xs.length
  · refine .inr ⟨⟨xs, xs[i], q, by simp [hlt]⟩, Pv (i + 1), fun σ' H' p' => ⟨xs.length - (i + 1), by omega, rfl, hlt, p'⟩, fun x H' y => ?_⟩
    obtain ⟨e, y⟩ := y
    subst e
    exact hs i x σ _ (y xs q) p
  · have e : i = xs.length := by omega
    subst e
    exact .inl ⟨⟨xs, q, Nat.le_refl _⟩, hd σ H p⟩
theorem for_tup {K : PySem.W.Frag} {a : Addr} {xs : List V} {g : TG} {tb : TS} {D : Ends} {σ : St} {H : Hp} (Pv : Nat → St → Hp → Prop) (h0 : Pv 0 σ H) (hl : ∀ i σ H, i ≤ xs.length → Pv i σ H → SqT K H a xs)
    (hs : ∀ i x σ H, xs[i]? = some x → Pv i σ H → g x σ H fun σ2 H2 => tb { D with nx := Pv (i + 1), ct := Pv (i + 1), bk := D.nx } σ2 H2) (hd : ∀ σ H, Pv xs.length σ H → D.nx σ H) :
    ∃ W : Nat → Nat → St → Hp → Prop, (∃ m, W 0 m σ H) ∧ ∀ i m σ H, W i m σ H →
      ((Itt K a).stop i H ∧ D.nx σ H) ∨ ((Itt K a).go i H ∧ ∃ N : St → Hp → Prop, (∀ σ' H', N σ' H' → ∃ m', m' < m ∧ W (i + 1) m' σ' H') ∧ ∀ x H', (Itt K a).yld i H x H' → g x σ H' fun σ2 H2 => tb { D with nx := N, ct := N, bk := D.nx } σ2 H2) := by
  refine ⟨fun i m σ H => m = xs.length - i ∧ i ≤ xs.length ∧ Pv i σ H, ⟨xs.length, by simp, Nat.zero_le _, h0⟩, ?_⟩
  rintro i m σ H ⟨rfl, hi, p⟩
  have q := hl i σ H hi p
  by_cases hlt : i < xs.length
  · refine .inr ⟨⟨xs, xs[i], q, by simp [hlt]⟩, Pv (i + 1), fun σ' H' p' => ⟨xs.length - (i + 1), by omega, rfl, hlt, p'⟩, fun x H' y => ?_⟩
    obtain ⟨e, y⟩ := y
    subst e
    exact hs i x σ _ (y xs q) p
  · have e : i = xs.length := by omega
    subst e
    exact .inl ⟨⟨xs, q, Nat.le_refl _⟩, hd σ H p⟩
theorem for_range {lo : Int} {n : Nat} {g : TG} {tb : TS} {D : Ends} {σ : St} {H : Hp} (Pv : Nat → St → Hp → Prop) (h0 : Pv 0 σ H)
    (hs : ∀ i σ H, i < n → Pv i σ H → g (.int (lo + i)) σ H fun σ2 H2 => tb { D with nx := Pv (i + 1), ct := Pv (i + 1), bk := D.nx } σ2 H2) (hd : ∀ σ H, Pv n σ H → D.nx σ H) :
    ∃ W : Nat → Nat → St → Hp → Prop, (∃ m, W 0 m σ H) ∧ ∀ i m σ H, W i m σ H →
      ((Itr lo n).stop i H ∧ D.nx σ H) ∨ ((Itr lo n).go i H ∧ ∃ N : St → Hp → Prop, (∀ σ' H', N σ' H' → ∃ m', m' < m ∧ W (i + 1) m' σ' H') ∧ ∀ x H', (Itr lo n).yld i H x H' → g x σ H' fun σ2 H2 => tb { D with nx := N, ct := N, bk := D.nx } σ2 H2) := by
  refine ⟨fun i m σ H => m = n - i ∧ i ≤ n ∧ Pv i σ H, ⟨n, by simp, Nat.zero_le _, h0⟩, ?_⟩
  rintro i m σ H ⟨rfl, hi, p⟩
  by_cases hlt : i < n
  · refine .inr ⟨hlt, Pv (i + 1), fun σ' H' p' => ⟨n - (i + 1), by omega, rfl, hlt, p'⟩, fun x H' y => ?_⟩
    obtain ⟨e, y⟩ := y
    subst e y
    exact hs i σ _ hlt p
  · have e : i = n := by omega
    subst e
    exact .inl ⟨Nat.le_refl _, hd σ H p⟩
end L2
namespace L2
open PySem PySem.Spec PyProof.Rows
abbrev R2 := V → V → Hp → VK → Prop
def OpR (X : Cx) (f : Value → Value → Sem Value) (r : R2) : Prop :=
  ∀ (pins : List (Addr × Obj)) (s : Shared) (σ : St) (H : Hp) (x y : V) (v u : Value) (Q : VK), Inv X pins σ H s → RelV x v → RelV y u → r x y H Q →
    wpAny (model X.prog X.w) X.A (f v u) (EP X pins σ Q) X.xe s
def UnR (X : Cx) (f : Value → Sem Value) (r : V → Hp → VK → Prop) : Prop :=
  ∀ (pins : List (Addr × Obj)) (s : Shared) (σ : St) (H : Hp) (x : V) (v : Value) (Q : VK), Inv X pins σ H s → RelV x v → r x H Q →
    wpAny (model X.prog X.w) X.A (f v) (EP X pins σ Q) X.xe s
def CallR (X : Cx) (f : Value) (r : List V → Hp → VK → Prop) : Prop :=
  ∀ (pins : List (Addr × Obj)) (s : Shared) (σ : St) (H : Hp) (xs : List V) (us : List Value) (Q : VK), Inv X pins σ H s → Vals xs us → r xs H Q →
    wpAny (model X.prog X.w) X.A (call f us) (EP X pins σ Q) X.xe s
def TruR (X : Cx) (r : V → Hp → (Bool → Hp → Prop) → Prop) : Prop :=
  ∀ (pins : List (Addr × Obj)) (s : Shared) (σ : St) (H : Hp) (x : V) (v : Value) (Q : Bool → Hp → Prop), Inv X pins σ H s → RelV x v → r x H Q →
    wpAny (model X.prog X.w) X.A (truthy v) (TP X pins σ Q) X.xe s
def tOp (r : R2) (ta tb : TE) : TE := fun σ H Q => ta σ H fun x H1 => tb σ H1 fun y H2 => r x y H2 Q
def tUn (r : V → Hp → VK → Prop) (ta : TE) : TE := fun σ H Q => ta σ H fun x H1 => r x H1 Q
def rI (C : Int → Int → Prop) (g : Int → Int → V) : R2 := fun x y H Q => ∃ i j, x = .int i ∧ y = .int j ∧ C i j ∧ Q (g i j) H
def rI0 (g : Int → Int → V) : R2 := fun x y H Q => ∃ i j, x = .int i ∧ y = .int j ∧ Q (g i j) H
def rU (g : Int → V) : V → Hp → VK → Prop := fun x H Q => ∃ i, x = .int i ∧ Q (g i) H
section
variable {X : Cx} {a b c : Expr} {ta tb tc : TE} {pos : Pos}
theorem binT (ha : PE X a ta) (hb : PE X b tb) {pins : List (Addr × Obj)} {s : Shared} {σ : St} {H : Hp} {R : V → V → Hp → Prop} (I : Inv X pins σ H s)
    (h : ta σ H fun x H1 => tb σ H1 fun y H2 => R x y H2) {Q : Value → Shared → Prop} {f : Value → Value → Sem Value}
    (hf : ∀ v u s2 x y H2, Inv X pins σ H2 s2 → RelV x v → RelV y u → R x y H2 → wpAny (model X.prog X.w) X.A (f v u) Q X.xe s2) :
    wpAny (model X.prog X.w) X.A (eval a X.env) (fun v s₁ => wpAny (model X.prog X.w) X.A (eval b X.env) (fun u s₂ => wpAny (model X.prog X.w) X.A (f v u) Q X.xe s₂) X.xe s₁) X.xe s := by
  refine thn (ha pins s σ H _ I h) fun v s1 ⟨x, H1, I1, r1, q1⟩ => ?_
  refine thn (hb pins s1 σ H1 _ I1 q1) fun u s2 ⟨y, H2, I2, r2, q2⟩ => ?_
  exact hf v u s2 x y H2 I2 r1 r2 q2
theorem pe_op {op : Operator} {r : R2} (ho : OpR X (binaryOp op) r) (ha : PE X a ta) (hb : PE X b tb) : PE X (.BinOp a op b pos) (tOp r ta tb) := by
  intro pins s σ H Q I h
  exact wpAny_BinOp (binT ha hb I h fun v u s2 x y H2 I2 rx ry q => ho pins s2 σ H2 x y v u Q I2 rx ry q)
theorem pe_un {op : UnaryOp} {r : V → Hp → VK → Prop} (ho : UnR X (unaryOp op) r) (ha : PE X a ta) : PE X (.UnaryOp op a pos) (tUn r ta) := by
  intro pins s σ H Q I h
  exact UnaryOp_ (thn (ha pins s σ H _ I h) fun v s1 ⟨x, H1, I1, r1, q1⟩ => ho pins s1 σ H1 x v Q I1 r1 q1)
theorem opI {f : Value → Value → Sem Value} {C : Int → Int → Prop} {g : Int → Int → Int}
    (rule : ∀ (i j : Int) (t u : Tok) (s : Shared) (Q : Value → Shared → Prop) (E : Value → Shared → Prop), C i j → Q (.int (g i j) s.toks) { s with toks := s.toks + 1 } → wpAny (model X.prog X.w) X.A (f (.int i t) (.int j u)) Q E s) :
    OpR X f (rI C fun i j => .int (g i j)) := by
  intro pins s σ H x y v u Q I rx ry h
  obtain ⟨i, j, rfl, rfl, hc, q⟩ := h
  obtain ⟨t, rfl⟩ := rx
  obtain ⟨t', rfl⟩ := ry
  exact rule i j t t' s _ _ hc ⟨.int (g i j), H, I.tok _, ⟨_, rfl⟩, q⟩
theorem opI0 {f : Value → Value → Sem Value} {g : Int → Int → Int}
    (rule : ∀ (i j : Int) (t u : Tok) (s : Shared) (Q : Value → Shared → Prop) (E : Value → Shared → Prop), Q (.int (g i j) s.toks) { s with toks := s.toks + 1 } → wpAny (model X.prog X.w) X.A (f (.int i t) (.int j u)) Q E s) :
    OpR X f (rI0 fun i j => .int (g i j)) := by
  intro pins s σ H x y v u Q I rx ry h
  obtain ⟨i, j, rfl, rfl, q⟩ := h
  obtain ⟨t, rfl⟩ := rx
  obtain ⟨t', rfl⟩ := ry
  exact rule i j t t' s _ _ ⟨.int (g i j), H, I.tok _, ⟨_, rfl⟩, q⟩
theorem opB0 {f : Value → Value → Sem Value} {g : Int → Int → Bool}
    (rule : ∀ (i j : Int) (t u : Tok) (s : Shared) (Q : Value → Shared → Prop) (E : Value → Shared → Prop), Q (.bool (g i j)) s → wpAny (model X.prog X.w) X.A (f (.int i t) (.int j u)) Q E s) :
    OpR X f (rI0 fun i j => .bl (g i j)) := by
  intro pins s σ H x y v u Q I rx ry h
  obtain ⟨i, j, rfl, rfl, q⟩ := h
  obtain ⟨t, rfl⟩ := rx
  obtain ⟨t', rfl⟩ := ry
  exact rule i j t t' s _ _ ⟨.bl (g i j), H, I, rfl, q⟩
def CDiv (i j : Int) : Prop := 0 < j ∧ j < 1073741824
def CDivN (i j : Int) : Prop := j ≠ 0 ∧ j.natAbs < 1073741824
def CPow (i j : Int) : Prop := 0 ≤ j ∧ j ≤ 1000000 ∧ i.natAbs < 2 ^ 64
def CMul (i j : Int) : Prop := (-(2 ^ 64) < i ∧ i < 2 ^ 64) ∨ (-(2 ^ 64) < j ∧ j < 2 ^ 64)
theorem CMul.ok {i j : Int} (h : CMul i j) : IntMulOk i j := by
  rcases h with ⟨h1, h2⟩ | ⟨h1, h2⟩
  · exact .of_left (intBits_le_64 h1 h2)
  · exact .of_right (intBits_le_64 h1 h2)
theorem op_add : OpR X (binaryOp .Add) (rI0 fun i j => .int (i + j)) := opI0 fun _ _ _ _ _ _ _ q => add_int q
theorem op_sub : OpR X (binaryOp .Sub) (rI0 fun i j => .int (i - j)) := opI0 fun _ _ _ _ _ _ _ q => sub_int q
theorem op_mul : OpR X (binaryOp .Mult) (rI CMul fun i j => .int (i * j)) := opI fun _ _ _ _ _ _ _ hc q => mul_int q hc.ok
theorem op_fdiv : OpR X (binaryOp .FloorDiv) (rI CDiv fun i j => .int (i / j)) := opI fun i j _ _ _ _ _ hc q => by
  have h1 : (0 : Int) < j := hc.1
  have h2 : j < 1073741824 := hc.2
  exact floordiv_int (by omega) (by rw [Int.fdiv_eq_ediv_of_nonneg i (by omega)]; exact q) (.inl (PyProof.noPylong_small (by omega)))
theorem op_mod : OpR X (binaryOp .Mod) (rI (fun _ j => 0 < j) fun i j => .int (i % j)) := opI fun i j _ _ _ _ _ hc q => by
  have h1 : (0 : Int) < j := hc
  exact mod_int' (by omega) (by rw [Int.fmod_eq_emod_of_nonneg i (by omega)]; exact q)
theorem op_pow : OpR X (binaryOp .Pow) (rI CPow fun i j => .int (i ^ j.toNat)) := opI fun _ _ _ _ _ _ _ hc q => pow_int_small hc.1 hc.2.1 hc.2.2 q
theorem unI {f : Value → Sem Value} {g : Int → Int}
    (rule : ∀ (i : Int) (t : Tok) (s : Shared) (Q : Value → Shared → Prop) (E : Value → Shared → Prop), Q (.int (g i) s.toks) { s with toks := s.toks + 1 } → wpAny (model X.prog X.w) X.A (f (.int i t)) Q E s) :
    UnR X f (rU fun i => .int (g i)) := by
  intro pins s σ H x v Q I rx h
  obtain ⟨i, rfl, q⟩ := h
  obtain ⟨t, rfl⟩ := rx
  exact rule i t s _ _ ⟨.int (g i), H, I.tok _, ⟨_, rfl⟩, q⟩
theorem un_neg : UnR X (unaryOp .USub) (rU fun i => .int (-i)) := unI fun _ _ _ _ _ q => neg_int q
end
def scal : V → V → Bool
  | .non, .non => true | .non, .int _ => true | .int _, .non => true | .non, .bl _ => true | .bl _, .non => true | .non, .str _ => true | .str _, .non => true
  | .int _, .int _ => true | .bl _, .bl _ => true | .str _, .str _ => true | .byt _, .byt _ => true
  | .int _, .str _ => true | .str _, .int _ => true | .bl _, .str _ => true | .str _, .bl _ => true
  | _, _ => false
def rEq : R2 := fun x y H Q => scal x y = true ∧ Q (.bl (decide (x = y))) H
def rNe : R2 := fun x y H Q => scal x y = true ∧ Q (.bl (!decide (x = y))) H
theorem dec_int {i j : Int} : decide (V.int i = V.int j) = (i == j) := by
  rw [Bool.eq_iff_iff]
  simp
theorem dec_bl {i j : Bool} : decide (V.bl i = V.bl j) = (i == j) := by
  rw [Bool.eq_iff_iff]
  simp
theorem dec_str {i j : Str} : decide (V.str i = V.str j) = (i == j) := by
  rw [Bool.eq_iff_iff]
  simp
theorem dec_byt {i j : Array UInt8} : decide (V.byt i = V.byt j) = (i.toList == j.toList) := by
  rw [Bool.eq_iff_iff]
  cases i
  cases j
  simp
section
variable {X : Cx} {a b c : Expr} {ta tb tc : TE} {pos : Pos}
theorem fin_bl {pins : List (Addr × Obj)} {σ : St} {H : Hp} {s : Shared} {Q : VK} {k k' : Bool} (I : Inv X pins σ H s) (q : Q (.bl k) H) (e : k = k') : EP X pins σ Q (.bool k') s := by
  subst e
  exact ⟨.bl k, H, I, rfl, q⟩
theorem op_eq : OpR X (compareOp .Eq) rEq := by
  intro pins s σ H x y v u Q I rx ry h
  obtain ⟨hs, q⟩ := h
  cases x with
  | non =>
    cases rx
    cases y with
    | non => cases ry; exact PySem.EqNone.eq_none_none (fin_bl I q (by simp))
    | bl j => cases ry; exact PySem.EqNone.eq_none_bool (fin_bl I q (by simp))
    | int j => obtain ⟨t', rfl⟩ := ry; exact PySem.EqNone.eq_none_int (fin_bl I q (by simp))
    | str j => obtain ⟨t', rfl⟩ := ry; exact PySem.EqNone.eq_none_str (fin_bl I q (by simp))
    | _ => exact absurd (show false = true from hs) Bool.false_ne_true
  | bl i =>
    cases rx
    cases y with
    | non => cases ry; exact PySem.EqNone.eq_bool_none (fin_bl I q (by simp))
    | bl j => cases ry; exact eq_bool (fin_bl I q dec_bl)
    | str j => obtain ⟨t', rfl⟩ := ry; exact PySem.EqMixed.eq_bool_str (fin_bl I q (by simp))
    | _ => exact absurd (show false = true from hs) Bool.false_ne_true
  | int i =>
    obtain ⟨t, rfl⟩ := rx
    cases y with
    | non => cases ry; exact PySem.EqNone.eq_int_none (fin_bl I q (by simp))
    | int j => obtain ⟨t', rfl⟩ := ry; exact eq_int (fin_bl I q dec_int)
    | str j => obtain ⟨t', rfl⟩ := ry; exact PySem.EqMixed.eq_int_str (fin_bl I q (by simp))
    | _ => exact absurd (show false = true from hs) Bool.false_ne_true
  | str i =>
    obtain ⟨t, rfl⟩ := rx
    cases y with
    | non => cases ry; exact PySem.EqNone.eq_str_none (fin_bl I q (by simp))
    | bl j => cases ry; exact PySem.EqMixed.eq_str_bool (fin_bl I q (by simp))
    | int j => obtain ⟨t', rfl⟩ := ry; exact PySem.EqMixed.eq_str_int (fin_bl I q (by simp))
    | str j => obtain ⟨t', rfl⟩ := ry; exact eq_str (fin_bl I q dec_str)
    | _ => exact absurd (show false = true from hs) Bool.false_ne_true
  | byt i =>
    obtain ⟨t, rfl⟩ := rx
    cases y with
    | byt j => obtain ⟨t', rfl⟩ := ry; exact PySem.W.eq_bytes (fin_bl I q dec_byt)
    | _ => exact absurd (show false = true from hs) Bool.false_ne_true
  | _ => cases y <;> exact absurd (show false = true from hs) Bool.false_ne_true
theorem op_ne : OpR X (compareOp .NotEq) rNe := by
  intro pins s σ H x y v u Q I rx ry h
  obtain ⟨hs, q⟩ := h
  cases x with
  | non =>
    cases rx
    cases y with
    | non => cases ry; exact PySem.EqNone.ne_none_none (fin_bl I q (by simp))
    | bl j => cases ry; exact PySem.EqNone.ne_none_bool (fin_bl I q (by simp))
    | int j => obtain ⟨t', rfl⟩ := ry; exact PySem.EqNone.ne_none_int (fin_bl I q (by simp))
    | str j => obtain ⟨t', rfl⟩ := ry; exact PySem.EqNone.ne_none_str (fin_bl I q (by simp))
    | _ => exact absurd (show false = true from hs) Bool.false_ne_true
  | bl i =>
    cases rx
    cases y with
    | non => cases ry; exact PySem.EqNone.ne_bool_none (fin_bl I q (by simp))
    | bl j => cases ry; exact ne_bool (fin_bl I q (congrArg not dec_bl))
    | str j => obtain ⟨t', rfl⟩ := ry; exact PySem.EqMixed.ne_bool_str (fin_bl I q (by simp))
    | _ => exact absurd (show false = true from hs) Bool.false_ne_true
  | int i =>
    obtain ⟨t, rfl⟩ := rx
    cases y with
    | non => cases ry; exact PySem.EqNone.ne_int_none (fin_bl I q (by simp))
    | int j => obtain ⟨t', rfl⟩ := ry; exact ne_int (fin_bl I q (congrArg not dec_int))
    | str j => obtain ⟨t', rfl⟩ := ry; exact PySem.EqMixed.ne_int_str (fin_bl I q (by simp))
    | _ => exact absurd (show false = true from hs) Bool.false_ne_true
  | str i =>
    obtain ⟨t, rfl⟩ := rx
    cases y with
    | non => cases ry; exact PySem.EqNone.ne_str_none (fin_bl I q (by simp))
    | bl j => cases ry; exact PySem.EqMixed.ne_str_bool (fin_bl I q (by simp))
    | int j => obtain ⟨t', rfl⟩ := ry; exact PySem.EqMixed.ne_str_int (fin_bl I q (by simp))
    | str j => obtain ⟨t', rfl⟩ := ry; exact ne_str (fin_bl I q (congrArg not dec_str))
    | _ => exact absurd (show false = true from hs) Bool.false_ne_true
  | byt i =>
    obtain ⟨t, rfl⟩ := rx
    cases y with
    | byt j => obtain ⟨t', rfl⟩ := ry; exact PySem.W.ne_bytes (fin_bl I q (congrArg not dec_byt))
    | _ => exact absurd (show false = true from hs) Bool.false_ne_true
  | _ => cases y <;> exact absurd (show false = true from hs) Bool.false_ne_true
theorem op_lt : OpR X (compareOp .Lt) (rI0 fun i j => .bl (decide (i < j))) := opB0 fun _ _ _ _ _ _ _ q => lt_int q
theorem op_gt : OpR X (compareOp .Gt) (rI0 fun i j => .bl (decide (j < i))) := opB0 fun _ _ _ _ _ _ _ q => gt_int q
theorem op_ge : OpR X (compareOp .GtE) (rI0 fun i j => .bl (decide (j ≤ i))) := opB0 fun _ _ _ _ _ _ _ q => ge_int q
theorem op_isN : OpR X (compareOp .Is) (fun x y H Q => y = .non ∧ Q (.bl (decide (x = .non))) H) := by
  intro pins s σ H x y v u Q I rx ry h
  obtain ⟨rfl, q⟩ := h
  cases ry
  refine is_none_gen (fin_bl I q ?_)
  cases x <;> first
    | (cases rx; rfl)
    | (obtain ⟨t, rfl⟩ := rx; rfl)
def isObj : HO → Bool
  | .lst _ => true
  | .ins _ _ _ => true
  | _ => false
theorem nomark (b : Expr) {op : CmpOp} (h : op ≠ .In := by decide) (h2 : op ≠ .NotIn := by decide) : behindInMarks op b = false := by
  have e1 : (op == CmpOp.In) = false := by cases op <;> first | rfl | exact absurd rfl h
  have e2 : (op == CmpOp.NotIn) = false := by cases op <;> first | rfl | exact absurd rfl h2
  cases b <;> simp [behindInMarks, e1, e2]
theorem pe_cmpR {op : CmpOp} {r : R2} (ho : OpR X (compareOp op) r) (ha : PE X a ta) (hb : PE X b tb) (hm : behindInMarks op b = false) : PE X (.Compare a [op] [b] pos) (tOp r ta tb) := by
  intro pins s σ H Q I h
  exact wpAny_Compare1 (binT ha hb I h fun v u s2 x y H2 I2 rx ry q => ho pins s2 σ H2 x y v u Q I2 rx ry q) hm
def tTest (t : TE) : TT := fun σ H Q => t σ H fun x H' => ∃ k, x = .bl k ∧ Q k H'
theorem pt_cmpR {op : CmpOp} {r : R2} (ho : OpR X (compareOp op) r) (ha : PE X a ta) (hb : PE X b tb) (hm : behindInMarks op b = false) : PT X (.Compare a [op] [b] pos) (tTest (tOp r ta tb)) := by
  intro pins s σ H Q I h
  refine wpAny_isTrue_Compare1 (thn (ha pins s σ H _ I h) fun v s1 ⟨x, H1, I1, r1, q1⟩ => thn (hb pins s1 σ H1 _ I1 q1) fun u s2 ⟨y, H2, I2, r2, q2⟩ =>
    thn (ho pins s2 σ H2 x y v u _ I2 r1 r2 q2) fun c s3 ⟨z, H3, I3, r3, k, e, q3⟩ => ?_) hm
  subst e
  cases r3
  exact wpAny_truthy_bool ⟨H3, I3, q3⟩
def tChain (r r' : R2) (ta tb tc : TE) : TE := fun σ H Q => ta σ H fun x H1 => tb σ H1 fun y H2 => r x y H2 fun z H3 => ∃ k, z = .bl k ∧
  (if k = true then tc σ H3 fun w' H4 => r' y w' H4 Q else Q (.bl false) H3)
def TruV (K : PySem.W.Frag) (x : V) (H : Hp) (k : Bool) : Prop :=
  match x with
  | .non => k = false
  | .bl b => k = b
  | .int i => k = (i != 0)
  | .str y => y.length ≤ sizeLine ∧ k = ((y.length : Int) != 0)
  | .byt y => y.size ≤ sizeLine ∧ k = ((y.size : Int) != 0)
  | .ref p => (∃ xs, SqL K H p xs ∧ k = !xs.isEmpty) ∨ (∃ xs, SqT K H p xs ∧ k = !xs.isEmpty) ∨ ∃ kvs, H p = some (.dK kvs) ∧ k = !kvs.isEmpty
  | _ => False
theorem isEmpty_kv {κ : Type} {kvs : List (κ × V)} {vs : List (κ × Value)} (r : KV kvs vs) : (!vs.isEmpty) = !kvs.isEmpty := by
  cases r <;> rfl
theorem isEmpty_of {xs : List V} {its : List Value} (r : Vals xs its) : (!its.toArray.isEmpty) = !xs.isEmpty := by
  cases r <;> simp
theorem line63 : (sizeLine : Nat) < 2 ^ 63 := by rw [sizeLine_eq]; decide
theorem tru_ok : TruR X (fun x H Q => ∃ k, TruV X.K x H k ∧ Q k H) := by
  intro pins s σ H x v Q I rx h
  obtain ⟨k, e, q⟩ := h
  have hl := line63
  have hs : sizeLine = 16777216 := sizeLine_eq
  cases x with
  | non =>
    cases rx
    have e' : k = false := e
    subst e'
    exact truthy_none ⟨H, I, q⟩
  | bl b =>
    cases rx
    have e' : k = b := e
    subst e'
    exact wpAny_truthy_bool ⟨H, I, q⟩
  | int i =>
    obtain ⟨t, rfl⟩ := rx
    have e' : k = (i != 0) := e
    subst e'
    exact PySem.P.truthy_int ⟨H, I, q⟩
  | str y =>
    obtain ⟨t, rfl⟩ := rx
    obtain ⟨hy, e'⟩ : y.length ≤ sizeLine ∧ k = ((y.length : Int) != 0) := e
    subst e'
    exact PySem.P.truthy_str (by omega) ⟨H, I.tok _, q⟩
  | byt y =>
    obtain ⟨t, rfl⟩ := rx
    obtain ⟨hy, e'⟩ : y.size ≤ sizeLine ∧ k = ((y.size : Int) != 0) := e
    subst e'
    exact PySem.W.truthy_bytes (by omega) ⟨H, I.tok _, q⟩
  | ref p =>
    cases rx
    have e' : (∃ xs, SqL X.K H p xs ∧ k = !xs.isEmpty) ∨ (∃ xs, SqT X.K H p xs ∧ k = !xs.isEmpty) ∨ ∃ kvs, H p = some (.dK kvs) ∧ k = !kvs.isEmpty := e
    rcases e' with ⟨xs, hx, e'⟩ | ⟨xs, hx, e'⟩ | ⟨kvs, hx, e'⟩
    · subst e'
      obtain ⟨its, r, pl, hz⟩ := I.list hx
      have hlen := r.length
      exact wpAny_truthy_list pl.isList (by simp only [List.size_toArray]; omega) ⟨H, I.tok _, by rw [isEmpty_of r]; exact q⟩
    · subst e'
      obtain ⟨its, r, pl, hz⟩ := I.tuple hx
      have hlen := r.length
      exact truthy_tuple pl (by simp only [List.size_toArray]; omega) ⟨H, I.tok _, by rw [isEmpty_of r]; exact q⟩
    · subst e'
      obtain ⟨hz, hS, vs, r, m⟩ : kvs.length ≤ sizeLine ∧ (p == sysModules) = false ∧ ∃ vs, KV kvs vs ∧ s.heap.DictOf (mixKind X.prog X.w) p vs := I.hok p _ hx
      have hlen : kvs.length = vs.length := Paired.length r
      exact wpAny_truthy_dict hS m (by omega) ⟨H, I.tok _, by rw [isEmpty_kv r]; exact q⟩
  | _ => exact (show False from e).elim
theorem pt_truth (ha : PE X a ta) (he : ∀ whole, isTrue a X.env whole = (do let v ← whole; standAt a.pos; holding [v] (truthy v))) :
    PT X a (fun σ H Q => ta σ H fun x H' => ∃ k, TruV X.K x H' k ∧ Q k H') := by
  intro pins s σ H Q I h
  exact isTrue_plain (thn (ha pins s σ H _ I h) fun v s1 ⟨x, H1, I1, r1, q1⟩ => tru_ok pins s1 σ H1 x v Q I1 r1 q1) (he _)
def PlainIxT (b : Expr) : Prop := ∀ o i, subscripted b false o i = operate [o, i] (getItem o i)
theorem vals1 {x : V} {us : List Value} (r : Vals [x] us) : ∃ u, us = [u] ∧ RelV x u := by
  cases r with
  | cons r1 r2 => cases r2; exact ⟨_, rfl, r1⟩
theorem vals2 {x y : V} {us : List Value} (r : Vals [x, y] us) : ∃ u w', us = [u, w'] ∧ RelV x u ∧ RelV y w' := by
  cases r with
  | cons r1 r2 =>
    cases r2 with
    | cons r3 r4 => cases r4; exact ⟨_, _, rfl, r1, r3⟩
theorem call_min2 (hc : X.calm = true) : CallR X (.builtin "min") (fun xs H Q => ∃ i j, xs = [.int i, .int j] ∧ Q (.int (if j < i then j else i)) H) := by
  intro pins s σ H xs us Q I r h
  obtain ⟨i, j, rfl, q⟩ := h
  obtain ⟨u, w', rfl, ⟨t, rfl⟩, ⟨t', rfl⟩⟩ := vals2 r
  refine min_two_ints (I.ok.hd hc) fun h' tk k => ⟨_, H, I.kept k, ?_, q⟩
  by_cases hj : j < i
  · rw [if_pos hj, if_pos hj]; exact ⟨_, rfl⟩
  · rw [if_neg hj, if_neg hj]; exact ⟨_, rfl⟩
theorem call_int1 : CallR X (.type "int") (fun xs H Q => (∃ i, xs = [.int i] ∧ Q (.int i) H) ∨ ∃ k, xs = [.bl k] ∧ Q (.int (if k then 1 else 0)) H) := by
  intro pins s σ H xs us Q I r h
  rcases h with ⟨i, rfl, q⟩ | ⟨k, rfl, q⟩
  · obtain ⟨u, rfl, t, rfl⟩ := vals1 r
    exact call_int_int ⟨.int i, H, I, ⟨_, rfl⟩, q⟩
  · obtain ⟨u, rfl, r1⟩ := vals1 r
    cases r1
    exact call_int_bool ⟨.int (if k then 1 else 0), H, I.tok _, ⟨_, rfl⟩, q⟩
def LenV (K : PySem.W.Frag) (x : V) (H : Hp) (n : Nat) : Prop :=
  match x with
  | .str y => y.length ≤ sizeLine ∧ n = y.length
  | .byt y => y.size ≤ sizeLine ∧ n = y.size
  | .ref p => (∃ xs, SqL K H p xs ∧ n = xs.length) ∨ ∃ xs, SqT K H p xs ∧ n = xs.length
  | _ => False
end
end L2
namespace L2
open PySem PySem.Spec PyProof.Rows
structure ObjM (h : Heap) (x dx C : Addr) (mA : Str → Option Value) : Prop where
  obj : h.get? x = some (PySem.W.instObj C dx)
  ns : h.Ns1 dx mA
  ne : dx ≠ x
section
variable {prog : Program} {w : World} {A : Around} {E : Value → Shared → Prop} {s : Shared} {K : PySem.W.Frag} {x dx C f : Addr} {mA : Str → Option Value} {name : Str} {v : Value}
end
def putF (f : Str) (v : V) : List (Str × V) → List (Str × V)
  | [] => [(f, v)]
  | (g, x) :: r => if g = f then (g, v) :: r else (g, x) :: putF f v r
theorem RelO.some_of {v : V} {o : Option Value} (r : RelO (some v) o) : ∃ u, o = some u ∧ RelV v u := by
  cases o with
  | none => exact (show False from r).elim
  | some u => exact ⟨u, rfl, r⟩
section
variable {P : Program} {w : World} {H H' : Hp} {h h' : Heap} {a C dx : Addr} {fs fs' : List (Str × V)}
end
structure Cls (K : PySem.W.Frag) (C : Addr) : Prop where
  pg : PySem.W.plainGet K C Str.empty = true
  hd : PySem.W.hasDictIn K C = true
  po : PySem.W.plainOver K C = true
  sa : PySem.W.findIn K (.ref C) "__setattr__" = some (some (.builtin "object.__setattr__"))
def NoAttr (K : PySem.W.Frag) (C : Addr) (f : Str) : Prop := PySem.W.findIn K (.ref C) f = some none
structure Con (K : PySem.W.Frag) (C : Addr) (f : Str) (v : V) (u : Value) : Prop where
  at_ : PySem.W.findIn K (.ref C) f = some (some u)
  rel : RelV v u
  get : PySem.W.specialIn K u "__get__" = some none
  cp : PySem.W.copiedNames.contains f = false
structure Meth (K : PySem.W.Frag) (C : Addr) (m : Str) (f : Addr) : Prop where
  at_ : PySem.W.findIn K (.ref C) m = some (some (.ref f))
  fn : PySem.W.isFn K (.ref f) = true
  kp : PySem.W.keepIn K (.ref f) = true
section
variable {X : Cx} {pins : List (Addr × Obj)} {σ : St} {H : Hp} {s : Shared} {a C dx : Addr} {fs : List (Str × V)} {f : Str} {v : V} {A : Around} {E : Value → Shared → Prop}
end
def tFld (K : PySem.W.Frag) (ta : TE) (f : Str) : TE := fun σ H Q => ta σ H fun x H1 => ∃ a C dx fs v, x = .ref a ∧ H1 a = some (.ins C dx fs) ∧ Cls K C ∧ NoAttr K C f ∧ fs.lookup f = some v ∧ Q v H1
def tCon (K : PySem.W.Frag) (ta : TE) (f : Str) : TE := fun σ H Q => ta σ H fun x H1 => ∃ a C dx fs v u, x = .ref a ∧ H1 a = some (.ins C dx fs) ∧ Cls K C ∧ Con K C f v u ∧ fs.lookup f = none ∧ Q v H1
def sFld (K : PySem.W.Frag) (ta tv : TE) (f : Str) : TS := fun D σ H => tv σ H fun y H1 => ta σ H1 fun x H2 => ∃ a C dx fs, x = .ref a ∧ H2 a = some (.ins C dx fs) ∧ Cls K C ∧ NoAttr K C f ∧ fs.length < 1000 ∧
  D.nx σ (upd H2 a (.ins C dx (putF f y fs)))
def InOp (X : Cx) (op : Operator) (rd : V → V → Hp → VK → Prop) : Prop :=
  ∀ (pins : List (Addr × Obj)) (s : Shared) (σ : St) (H : Hp) (x y : V) (u v : Value) (Q : VK), Inv X pins σ H s → RelV x u → RelV y v → rd x y H Q → wpAny (model X.prog X.w) X.A (inplaceOp op u v) (EP X pins σ Q) X.xe s
def sFldAug (K : PySem.W.Frag) (ta tv : TE) (rd : V → V → Hp → VK → Prop) (f : Str) : TS := fun D σ H => ta σ H fun x H1 => ∃ a C dx fs v, x = .ref a ∧ H1 a = some (.ins C dx fs) ∧ Cls K C ∧ NoAttr K C f ∧ fs.lookup f = some v ∧
  tv σ H1 fun y H2 => rd v y H2 fun z H3 => ∃ dx' fs', H3 a = some (.ins C dx' fs') ∧ fs'.length < 1000 ∧ D.nx σ (upd H3 a (.ins C dx' (putF f z fs')))
section
variable {X : Cx} {o e value : Expr} {f : Str} {pos pos' tpos : Pos} {ta tv : TE}
def rAdd : V → V → Hp → VK → Prop := fun x y H Q => ∃ i j, x = .int i ∧ y = .int j ∧ Q (.int (i + j)) H
def rSub : V → V → Hp → VK → Prop := fun x y H Q => ∃ i j, x = .int i ∧ y = .int j ∧ Q (.int (i - j)) H
end
section
variable {X : Cx} {pins : List (Addr × Obj)} {σ : St} {H : Hp} {s : Shared} {A : Around} {E : Value → Shared → Prop} {Q : Value → Shared → Prop} {c : Value} {b : Bool}
inductive TyOf (K : PySem.W.Frag) (H : Hp) : V → Value → Prop where
  | non : TyOf K H .non (.type "NoneType")
  | bl (x : Bool) : TyOf K H (.bl x) (.type "bool")
  | int (i : Int) : TyOf K H (.int i) (.type "int")
  | str (x : Str) : TyOf K H (.str x) (.type "str")
  | flt (x : UInt64) : TyOf K H (.flt x) (.type "float")
  | lst {a : Addr} {xs : List V} (e : H a = some (.lst xs)) : TyOf K H (.ref a) (.type "list")
  | frz {a : Addr} {o : Obj} {xs : List V} (e : H a = some (.frz o (.lst xs))) : TyOf K H (.ref a) (.type "list")
  | tup {a : Addr} {xs : List V} (e : H a = some (.tup xs)) : TyOf K H (.ref a) (.type "tuple")
  | dK {a : Addr} {kvs : List (Key × V)} (e : H a = some (.dK kvs)) : TyOf K H (.ref a) (.type "dict")
  | dT {a : Addr} {kvs : List (List Key × V)} (e : H a = some (.dT kvs)) : TyOf K H (.ref a) (.type "dict")
  | ins {a C dx : Addr} {fs : List (Str × V)} (e : H a = some (.ins C dx fs)) (cl : Cls K C) (ha : PySem.W.findIn K (.ref C) "__class__" = some (some (.builtin "object.__class__")))
      (hn : PySem.W.specialIn K (.builtin "object.__class__") "__get__" = some (some (.builtin "getset_descriptor.__get__"))) (htk : PySem.W.takesIn K (.builtin "object.__class__") = some true)
      (hm : PySem.W.mroIn K C (.type "object") = some true) : TyOf K H (.ref a) (.ref C)
end
end L2
namespace L2
open PySem PySem.Spec PyProof.Rows
structure Room (k : Nat) (A : Around) : Prop where
  hd : A.handled = none
  dp : A.depth + 3 * k + 5 < recursionLimit
  un : A.units + 16 * k + 200 < cLine
theorem Room.mono {j k : Nat} {A : Around} (r : Room k A) (h : j ≤ k) : Room j A := ⟨r.hd, by have := r.dp; omega, by have := r.un; omega⟩
theorem Room.deeper {k : Nat} {A : Around} (r : Room (k + 1) A) (env : Env) : Room k (A.deeper env) :=
  ⟨r.hd, by have := r.dp; show A.depth + 1 + 3 * k + 5 < _; omega, by have := r.un; show A.units + 3 + 16 * k + 200 < _; omega⟩
theorem Room.depth {k : Nat} {A : Around} (r : Room k A) : A.depth < recursionLimit := by have := r.dp; omega
theorem Room.units {k : Nat} {A : Around} (r : Room k A) : A.units + 64 < cLine := by have := r.un; omega
def tNil : TA := fun _ H Q => Q [] H
def tCons (ta : TE) (tr : TA) : TA := fun σ H Q => ta σ H fun x H1 => tr σ H1 fun xs H2 => Q (x :: xs) H2
section
variable {X : Cx} {e : Expr} {es : List Expr} {te : TE} {t : TA} {pos : Pos}
theorem pa_nil : PA X [] tNil := fun _ _ _ _ H Q I h => Calls.spliced_nil ⟨[], H, I, .nil, h⟩
theorem pa_cons (ha : PE X e te) (hr : PA X es t) (hs : starEach (e :: es) X.env = (false, eval e X.env) :: starEach es X.env := by rfl) : PA X (e :: es) (tCons te t) := by
  intro pos pins s σ H Q I h
  rw [hs]
  show wpAny _ _ (spliced ((false, eval e X.env) :: backTo pos (starEach es X.env))) _ _ s
  refine Calls.spliced_cons (thn (ha pins s σ H _ I h) fun u s1 ⟨x, H1, I1, r1, q1⟩ => ?_)
  exact thn (hr pos pins s1 σ H1 _ I1 q1) fun us s2 ⟨xs, H2, I2, r2, q2⟩ => ⟨x :: xs, H2, I2, .cons r1 r2, q2⟩
def tTup (t : TA) : TE := fun σ H Q => t σ H fun xs H1 => xs.length ≤ sizeLine ∧ ∀ p, H1 p = none → Q (.ref p) (upd H1 p (.tup xs))
def tLst (t : TA) : TE := fun σ H Q => t σ H fun xs H1 => xs.length ≤ sizeLine ∧ ∀ p, H1 p = none → Q (.ref p) (upd H1 p (.lst xs))
theorem pe_tup {x1} (h : PA X es t) : PE X (.Tuple es x1 pos) (tTup t) := by
  intro pins s σ H Q I hq
  refine wpAny_Tuple_spliced (thn (h pos pins s σ H _ I hq) fun us s1 ⟨xs, H1, I1, r, z, q⟩ => ⟨by rw [← r.length]; exact z, ?_⟩)
  have hf : H1 s1.heap.objs.size = none := I1.hok.fresh (Nat.le_refl _)
  refine ⟨.ref s1.heap.objs.size, upd H1 s1.heap.objs.size (.tup xs), I1.laid (t' := s1.toks) (fun b u e => Heap.get?_push_of_some _ e) (Nat.le_refl _) ?_, rfl, q _ hf⟩
  exact ⟨z, us, r, ⟨_, Heap.get?_push_size _ rfl, rfl, _, rfl⟩⟩
theorem pe_lst (h : PA X es t) : PE X (.List es pos) (tLst t) := by
  intro pins s σ H Q I hq
  refine wpAny_List_spliced (thn (h pos pins s σ H _ I hq) fun us s1 ⟨xs, H1, I1, r, z, q⟩ => ⟨by rw [← r.length]; exact z, ?_⟩)
  have hf : H1 s1.heap.objs.size = none := I1.hok.fresh (Nat.le_refl _)
  refine ⟨.ref s1.heap.objs.size, upd H1 s1.heap.objs.size (.lst xs), I1.laid (t' := s1.toks) (fun b u e => Heap.get?_push_of_some _ e) (Nat.le_refl _) ?_, rfl, q _ hf⟩
  exact ⟨z, us, 0, r, Heap.get?_push_size _ rfl⟩
end
abbrev Sp := List V → Hp → VK → XK → Prop
abbrev CXT := List Env → Hp → Shared → XK → Value → Shared → Prop
structure Env0 (P : Program) (w : World) (K : PySem.W.Frag) (mg : Str → Option Value) (base : Heap) (A : Around) (outer : List Env) (s : Shared) (H : Hp) : Prop where
  frames : A.frames = some outer
  mod : Mod K mg base
  bs : ∀ b o, base.get? b = some o → s.heap.get? b = some o ∧ H b = none
  bsz : base.objs.size ≤ s.heap.objs.size
  funs : s.heap.FunFrames base outer
  frf : ∀ b ∈ frs outer, H b = none
  hok : HOk P w H s.heap
  bare : AllBare s.gens
def CE (outer : List Env) (P : Program) (w : World) (H : Hp) (s : Shared) (Q : VK) (u : Value) (s' : Shared) : Prop :=
  ∃ v H', s'.os = s.os ∧ AllBare s'.gens ∧ Un (frs outer) [] H H' s.heap s'.heap ∧ HOk P w H' s'.heap ∧ RelV v u ∧ Q v H'
def CR (CX : CXT) (outer : List Env) (P : Program) (w : World) (H : Hp) (s : Shared) (Q : VK) (E : XK) (r : Result) (s' : Shared) : Prop :=
  match r with
  | .ok (.ret u) => CE outer P w H s Q u s'
  | .ok _ => False
  | .error e => CX outer H s E e s'
structure FnOk (P : Program) (w : World) (K : PySem.W.Frag) (mg : Str → Option Value) (base : Heap) (CX : CXT) (k : Nat) (f : Addr) (fd : FuncData) (ps : List Str) (sp : Sp) : Prop where
  len : ∀ vs H Q E, sp vs H Q E → vs.length = ps.length
  run : ∀ (A : Around) (outer : List Env) (s : Shared) (H : Hp) (args : Args) (us : List Value) (vs : List V) (Q : VK) (E : XK), Room k A → Env0 P w K mg base A outer s H → BindsTo s fd args (ps.zip us) → Vals vs us → sp vs H Q E →
    codeAny (model P w) A (.call (.ref f) args) (CR CX outer P w H s Q E) s
section
variable {X : Cx} {pins : List (Addr × Obj)} {σ : St} {H : Hp} {s s' : Shared}
theorem Inv.env0 (I : Inv X pins σ H s) : Env0 X.prog X.w X.K X.mg X.base X.A X.stack s H :=
  ⟨I.ok.frames, I.ok.mod, I.bs, Nat.le_trans I.ok.bsz I.sz, I.stack, I.stkFree, I.hok, I.bare⟩
theorem Inv.after {Q : VK} {u : Value} (I : Inv X pins σ H s) (h : CE X.stack X.prog X.w H s Q u s') : EP X pins σ Q u s' := by
  obtain ⟨v, H', os, bare, un, hok, r, q⟩ := h
  obtain ⟨hh, g, d, t, os'⟩ := s'
  obtain rfl : os' = s.os := os
  exact ⟨v, H', I.call (h' := hh) (g' := g) (d' := d) (t' := t) (ch := []) un hok bare (fun b z => absurd z (by simp)), r, q⟩
end
def tCall (sp : Sp) (dvs : List V) (E : XK) (t : TA) : TE := fun σ H Q => t σ H fun vs H1 => sp (vs ++ dvs) H1 Q E
def tMeth (C : Addr) (m : Str) (sp : Sp) (dvs : List V) (E : XK) (ta : TE) (t : TA) : TE := fun σ H Q => ta σ H fun x H1 => ∃ a dx fs, x = .ref a ∧ H1 a = some (.ins C dx fs) ∧ fs.lookup m = none ∧
  t σ H1 fun vs H2 => sp (x :: (vs ++ dvs)) H2 Q E
def tMake (C : Addr) (sp : Sp) (dvs : List V) (E : XK) (t : TA) : TE := fun σ H Q => t σ H fun vs H1 => ∀ x dx, H1 x = none → H1 dx = none → dx ≠ x →
  sp (.ref x :: (vs ++ dvs)) (upd (upd H1 dx (.own x)) x (.ins C dx [])) (fun v H2 => v = .non ∧ Q (.ref x) H2) E
def Binds (K : PySem.W.Frag) (fd : FuncData) (ps : List Str) (ds : List Value) : Prop :=
  ∀ (s : Shared) (us : List Value), K.In s.heap → (us ++ ds).length = ps.length → BindsTo s fd ⟨us, []⟩ (ps.zip (us ++ ds))
theorem Binds.all {K : PySem.W.Frag} {fd : FuncData} {ps : List Str} (h : ∀ us : List Value, us.length = ps.length → bindArgs fd ⟨us, []⟩ = pure (ps.zip us)) : Binds K fd ps [] := fun s us _ hl => by
  rw [List.append_nil] at hl ⊢
  exact .of_eq (h us hl)
def Passes (CX : CXT) (X : Cx) (E : XK) : Prop := ∀ (pins : List (Addr × Obj)) (σ : St) (H : Hp) (s : Shared) (e : Value) (s' : Shared), Inv X pins σ H s → CX X.stack H s E e s' → X.xe e s'
section
variable {X : Cx} {CX : CXT} {k : Nat} {f C : Addr} {fd : FuncData} {ps : List Str} {sp : Sp} {dvs : List V} {ds : List Value} {E : XK} {x m : Str} {p pos apos : Pos} {e o : Expr} {es : List Expr} {ta : TE} {t : TA}
theorem run_fn {pins : List (Addr × Obj)} {σ : St} {H : Hp} {s : Shared} {Q : VK} {us : List Value} {vs : List V} (F : FnOk X.prog X.w X.K X.mg X.base CX k f fd ps sp) (hr : Room k X.A) (hb : Binds X.K fd ps ds) (hd : Vals dvs ds) (hx : Passes CX X E)
    (I : Inv X pins σ H s) (r : Vals vs us) (h : sp (vs ++ dvs) H Q E) : wpAny (model X.prog X.w) X.A (call (.ref f) us) (EP X pins σ Q) X.xe s := by
  have r2 : Vals (vs ++ dvs) (us ++ ds) := r.append hd
  have hl : (us ++ ds).length = ps.length := by rw [← r2.length]; exact F.len _ _ _ _ h
  refine wpAny_call (codeAny_mono (F.run X.A X.stack s H ⟨us, []⟩ (us ++ ds) (vs ++ dvs) Q E hr I.env0 (hb s us I.kIn hl) r2 h) fun r s' hq => ?_)
  cases r with
  | error e => exact hx pins σ H s e s' I hq
  | ok fl =>
    cases fl with
    | ret u => exact I.after hq
    | next => exact False.elim hq
    | brk => exact False.elim hq
    | cont => exact False.elim hq
theorem pe_call (F : FnOk X.prog X.w X.K X.mg X.base CX k f fd ps sp) (hr : Room k X.A) (hg : Gl X x) (hm : X.mg x = some (.ref f)) (hk : PySem.W.keepIn X.K (.ref f) = true) (hb : Binds X.K fd ps ds) (hd : Vals dvs ds) (hx : Passes CX X E)
    (ha : PA X (e :: es) t) (hdb : (x == ("__debug__" : Str)) = false := by decide) (he : starEach (e :: es) X.env = (false, eval e X.env) :: starEach es X.env := by rfl) (hpl : (backTo pos (starEach es X.env)).any (·.1) = false := by rfl) :
    PE X (.Call (.Name x p) (e :: es) [] pos) (tCall sp dvs E t) := by
  intro pins s σ H Q I h
  refine wpAny_Call_Name_kw (ld_glob I hg hm ?_ hdb)
  refine PySem.W.callWith_K (h₀ := X.base) I.ok.mod.kin hk (thn (ha pos pins s σ H _ I h) fun us s1 ⟨vs, H1, I1, r, q⟩ => ⟨I1.kIn, ?_⟩) he hpl
  exact run_fn F hr hb hd hx I1 r q
structure Mk (K : PySem.W.Frag) (C f : Addr) : Prop where
  makes : PySem.W.makesIn K C = true
  init : PySem.W.findIn K (.ref C) "__init__" = some (some (.ref f))
  fn : PySem.W.isFn K (.ref f) = true
  kp : PySem.W.keepIn K (.ref C) = true
end
def PK (X : Cx) (kws : List Keyword) (t : TA) : Prop :=
  ∀ (pos : Pos) (pins : List (Addr × Obj)) (s : Shared) (σ : St) (H : Hp) (Q : List V → Hp → Prop), Inv X pins σ H s → t σ H Q → wpAny (model X.prog X.w) X.A (evalAll ((backToKw pos (keywordEach kws X.env)).map (·.2))) (AP X pins σ Q) X.xe s
section
variable {X : Cx} {CX : CXT} {k : Nat} {f C : Addr} {fd : FuncData} {ps ks : List Str} {sp : Sp} {E : XK} {x m : Str} {p pos apos kpos : Pos} {e o : Expr} {es : List Expr} {kws : List Keyword} {te ta : TE} {t tk : TA} {nm : Option Str}
structure KBinds (K : PySem.W.Frag) (fd : FuncData) (ps ks : List Str) (g : List Value → List Value → List Value) (gV : List V → List V → List V) : Prop where
  to : ∀ (s : Shared) (us ws : List Value), K.In s.heap → (g us ws).length = ps.length → BindsTo s fd ⟨us, ks.zip ws⟩ (ps.zip (g us ws))
  rel : ∀ {vs : List V} {us : List Value} {zs : List V} {ws : List Value}, Vals vs us → Vals zs ws → Vals (gV vs zs) (g us ws)
def tCallK (sp : Sp) (gV : List V → List V → List V) (E : XK) (t tk : TA) : TE := fun σ H Q => t σ H fun vs H1 => tk σ H1 fun zs H2 => sp (gV vs zs) H2 Q E
variable {g : List Value → List Value → List Value} {gV : List V → List V → List V}
end
structure FnScope (N P : List Str) (sc : Scope) : Prop where
  kind : sc.kind = .function
  co : sc.isCoroutine = false
  gen : sc.isGenerator = false
  nd : N.Nodup
  pre : N.take P.length = P
  par : ∀ x ∈ P, sc.names.lookup x = some .local ∨ sc.names.lookup x = some .cell
  nofree : ∀ y ∈ sc.names, y.2 ≠ .free
theorem bindL_out {kindOf : Str → Option NameKind} {x : Str} : ∀ {binds : List (Str × Value)} {m : Str → Option Value}, (∀ v, (x, v) ∉ binds) → bindL kindOf binds m x = m x
  | [], _, _ => rfl
  | (n, v) :: r, m, h => by
    unfold bindL
    rw [bindL_out fun w hw => h w (List.mem_cons_of_mem _ hw)]
    split
    · have : x ≠ n := by rintro rfl; exact h v List.mem_cons_self
      simp [this]
    · rfl
theorem bindC_out {kindOf : Str → Option NameKind} {x : Str} : ∀ {binds : List (Str × Value)} {m : Str → Option Value}, (∀ v, (x, v) ∉ binds) → bindC kindOf binds m x = m x
  | [], _, _ => rfl
  | (n, v) :: r, m, h => by
    unfold bindC
    rw [bindC_out fun w hw => h w (List.mem_cons_of_mem _ hw)]
    split
    · rfl
    · have : x ≠ n := by rintro rfl; exact h v List.mem_cons_self
      simp [this]
theorem bindL_get {kindOf : Str → Option NameKind} {x : Str} {v : Value} : ∀ {P : List Str} {vs : List Value} {i : Nat} {m : Str → Option Value}, P.Nodup → P[i]? = some x → vs[i]? = some v → kindOf x = some .local →
    bindL kindOf (P.zip vs) m x = some v
  | [], _, _, _, _, h, _, _ => by simp at h
  | _ :: _, [], _, _, _, _, h, _ => by simp at h
  | p :: P, w :: vs, 0, m, nd, h1, h2, hk => by
    simp at h1 h2; subst h1; subst h2
    show bindL kindOf ((p, w) :: P.zip vs) m p = _
    unfold bindL
    rw [bindL_out fun v hv => (List.nodup_cons.mp nd).1 (List.of_mem_zip hv).1, if_pos hk]
    simp
  | p :: P, w :: vs, i + 1, m, nd, h1, h2, hk => by
    show bindL kindOf ((p, w) :: P.zip vs) m x = _
    unfold bindL
    exact bindL_get (i := i) (List.nodup_cons.mp nd).2 (by simpa using h1) (by simpa using h2) hk
theorem bindC_get {kindOf : Str → Option NameKind} {x : Str} {v : Value} : ∀ {P : List Str} {vs : List Value} {i : Nat} {m : Str → Option Value}, P.Nodup → P[i]? = some x → vs[i]? = some v → kindOf x ≠ some .local →
    bindC kindOf (P.zip vs) m x = some v
  | [], _, _, _, _, h, _, _ => by simp at h
  | _ :: _, [], _, _, _, _, h, _ => by simp at h
  | p :: P, w :: vs, 0, m, nd, h1, h2, hk => by
    simp at h1 h2; subst h1; subst h2
    show bindC kindOf ((p, w) :: P.zip vs) m p = _
    unfold bindC
    rw [bindC_out fun v hv => (List.nodup_cons.mp nd).1 (List.of_mem_zip hv).1, if_neg hk]
    simp
  | p :: P, w :: vs, i + 1, m, nd, h1, h2, hk => by
    show bindC kindOf ((p, w) :: P.zip vs) m x = _
    unfold bindC
    exact bindC_get (i := i) (List.nodup_cons.mp nd).2 (by simpa using h1) (by simpa using h2) hk
def start (N : List Str) (vs : List V) : St := vs.map some ++ List.replicate (N.length - vs.length) none
def cxOf (CX : CXT) (P : Program) (w : World) (K : PySem.W.Frag) (mg : Str → Option Value) (base : Heap) (N : List Str) (qual : Str) (scope : Scope) (f : Addr) (cd : Value) (A : Around) (outer : List Env) (s : Shared) (H : Hp) (E : XK) : Cx where
  prog := P
  w := w
  K := K
  mg := mg
  base := base
  A := A.deeper (envOfC qual scope s.heap.objs.size f cd)
  N := N
  s_0 := s
  H_0 := H
  env := envOfC qual scope s.heap.objs.size f cd
  outer := outer
  stack := envOfC qual scope s.heap.objs.size f cd :: outer
  ex := []
  calm := true
  fn := fun _ => true
  pn := []
  xe := fun e s' => wpAny (model P w) (A.deeper (envOfC qual scope s.heap.objs.size f cd)) (leaving (envOfC qual scope s.heap.objs.size f cd) e) (fun _ s'' => CX outer H s E e s'') (fun e' s'' => CX outer H s E e' s'') s'
theorem cell_has {sc : Scope} {n : Nat} {x : Str} (h : sc.names.lookup x = some .cell) : ∃ c, (cellsFrom n sc.names []).lookup x = some c := by
  have q := PySem.W.cellsFrom_some sc.names n [] (.inl h)
  exact Option.isSome_iff_exists.mp q
theorem inv_start {CX : CXT} {P : Program} {w : World} {K : PySem.W.Frag} {mg : Str → Option Value} {base : Heap} {N ps : List Str} {qual : Str} {scope : Scope} {f : Addr} {cd : Value} {A : Around} {outer : List Env} {s s1 : Shared} {H : Hp} {E : XK} {us : List Value} {vs : List V}
    (S : FnScope N ps scope) (hd : A.handled = none) (e0 : Env0 P w K mg base A outer s H) (hl : vs.length = ps.length) (r : Vals vs us)
    (x : InCallC s s.heap.objs.size (bindL (envOfC qual scope s.heap.objs.size f cd).kindOf (ps.zip us) fun _ => none) (cellsFrom (s.heap.objs.size + 1) scope.names []) (bindC (envOfC qual scope s.heap.objs.size f cd).kindOf (ps.zip us) fun _ => none) s1) :
    Inv (cxOf CX P w K mg base N qual scope f cd A outer s H E) [] (start N vs) H s1 := by
  have hpl : ps.length ≤ N.length := by have := congrArg List.length S.pre; rw [List.length_take] at this; omega
  obtain ⟨h1, tk, rfl, hk⟩ := x.done
  have noA : ∀ b : Addr, b ∉ (cxOf CX P w K mg base N qual scope f cd A outer s H E).ex := fun b z => absurd (show b ∈ ([] : List Addr) from z) (by simp)
  refine ⟨⟨e0.mod, S.kind, rfl, rfl, Nat.le_refl _, fun y z c h1 h2 => ?_, fun y hy => ?_, fun y c _ h => ?_, fun _ => hd, Around.frames_deeper e0.frames, .inr ⟨rfl, rfl⟩, fun b z => absurd z (noA b), e0.bs, e0.bsz, fun b _ _ => noA b, fun b z => absurd z (noA b), e0.funs, e0.frf⟩,
    rfl, e0.bare, Un.kept hk, ⟨_, x.toInCall.ns, fun i y v h1 h2 h3 => ?_⟩, fun y c h => ⟨_, x.cell y c h⟩, e0.hok.fresh (Nat.le_refl _), fun y c h => ?_, fun p hp => absurd (show p ∈ ([] : List (Addr × Obj)) from hp) (by simp), e0.hok.kept hk, ?_⟩
  · exact name_of_addr x.apart (PySem.mem_of_lookup h1) (PySem.mem_of_lookup h2)
  · have hy : scope.names.lookup y = some .cell ∨ scope.names.lookup y = some .free := hy
    rcases hy with hy | hy
    · exact cell_has hy
    · exact absurd rfl (S.nofree _ (PySem.mem_of_lookup hy))
  · exact Nat.le_of_lt (x.above y c (PySem.mem_of_lookup h))
  · have hi : i < vs.length := by
      unfold start at h2
      by_cases hi : i < vs.length
      · exact hi
      · rw [List.getElem?_append_right (by simpa using hi)] at h2
        rw [List.getElem?_replicate] at h2
        split at h2 <;> cases h2
    have ha : vs[i]? = some v := by
      unfold start at h2
      rw [List.getElem?_append_left (by simpa using hi), List.getElem?_map] at h2
      cases e : vs[i]? with
      | none => rw [e] at h2; cases h2
      | some a => rw [e] at h2; cases h2; rfl
    obtain ⟨u, hu, rv⟩ := r.get ha
    have hp : ps[i]? = some y := by
      rw [← S.pre, List.getElem?_take_of_lt (by omega)]; exact h1
    have ndP : ps.Nodup := by rw [← S.pre]; exact S.nd.sublist (List.take_sublist _ _)
    refine ⟨u, rv, ?_⟩
    rcases S.par y (List.mem_of_getElem? hp) with k | k
    · exact .inl ⟨k, bindL_get ndP hp hu k⟩
    · obtain ⟨c, e⟩ := cell_has (n := s.heap.objs.size + 1) k
      refine .inr ⟨.inl k, c, e, ?_⟩
      have q := x.cell y c e
      rw [bindC_get ndP hp hu (by show scope.names.lookup y ≠ _; rw [k]; decide)] at q
      exact q
  · exact e0.hok.fresh (Nat.le_of_lt (x.above y c (PySem.mem_of_lookup h)))
  · unfold start
    show _ = N.length
    rw [List.length_append, List.length_map, List.length_replicate]
    omega
theorem fn_of {CX : CXT} {P : Program} {w : World} {K : PySem.W.Frag} {mg : Str → Option Value} {base : Heap} {k : Nat} {f : Addr} {name qual : Str} {params : Arguments} {body : List Stmt} {scope : Scope} {dV kV doc pm cdv ct oc : Value} {an od : Option Addr}
    {osl : Array (Option Value)} {N ps : List Str} {sp : Sp} (lk : K.lookup f = some ⟨oc, od, .func (PySem.W.fnOf name qual params body scope dV kV doc pm an cdv ct), osl⟩) (hcd : PySem.W.codeIn K cdv qual = true) (S : FnScope N ps scope)
    (len : ∀ vs H Q E, sp vs H Q E → vs.length = ps.length)
    (hbody : ∀ (A : Around) (outer : List Env) (s : Shared) (H : Hp) (vs : List V) (Q : VK) (E : XK), Room k (A.deeper (envOfC qual scope s.heap.objs.size f cdv)) → sp vs H Q E →
      ∃ t, PSs (cxOf CX P w K mg base N qual scope f cdv A outer s H E) body t ∧ t { nx := fun _ H' => Q .non H', rt := Q } (start N vs) H) :
    FnOk P w K mg base CX (k + 1) f (PySem.W.fnOf name qual params body scope dV kV doc pm an cdv ct) ps sp := by
  refine ⟨len, fun A outer s H args us vs Q E hr e0 hb r hsp => ?_⟩
  have hl := len _ _ _ _ hsp
  have KX : K.In s.heap := e0.mod.kin.keeps fun b o e => (e0.bs b o e).1
  have lim : s.heap.NoLimit := e0.mod.nolimit.keeps fun b o e => (e0.bs b o e).1
  have hkind : ∀ y ∈ ps.zip us, scope.names.lookup y.1 = some .local ∨ (scope.names.lookup y.1 = some .cell ∧ ((cellsFrom (s.heap.objs.size + 1) scope.names []).lookup y.1).isSome = true) := fun ⟨n, v⟩ hy => by
    rcases S.par n (List.of_mem_zip hy).1 with q | q
    · exact .inl q
    · exact .inr ⟨q, PySem.W.cellsFrom_some _ _ _ (.inl q)⟩
  refine codeAny_call_function hr.depth (KX _ _ lk) rfl S.co S.gen rfl (PySem.W.codeRec_of KX hcd) (hb _ _ _ _ ?_)
  refine wpAny_newFunctionEnv_cells S.kind hkind fun env he s1 x => ?_
  subst he
  refine ⟨lim.keeps x.toInCall.keep, codeAny_func ?_⟩
  obtain ⟨t, ht, hq⟩ := hbody A outer s H vs Q E (hr.deeper _) hsp
  have I : Inv (cxOf CX P w K mg base N qual scope f cdv A outer s H E) [] (start N vs) H s1 := inv_start S hr.hd e0 hl r x
  refine wpAny_mono (ht [] s1 (start N vs) H _ I hq) (fun fl s' hs => ?_) fun e s' hs => hs
  have fin : ∀ {σ' : St} {H' : Hp} {v : V} {u : Value}, Inv (cxOf CX P w K mg base N qual scope f cdv A outer s H E) [] σ' H' s' → RelV v u → Q v H' → CE outer P w H s Q u s' :=
    fun {σ' H' v u} J rv q => ⟨v, H', J.os, J.bare, J.base, J.hok, rv, q⟩
  cases fl with
  | ret u =>
    obtain ⟨v, σ', H', J, rv, q⟩ := hs
    exact fin J rv q
  | next =>
    obtain ⟨σ', H', J, q⟩ := hs
    exact fin (v := V.non) (u := Value.none) J rfl q
  | brk =>
    obtain ⟨_, _, _, q⟩ := hs
    exact False.elim q
  | cont =>
    obtain ⟨_, _, _, q⟩ := hs
    exact False.elim q
end L2
namespace L2
open PySem PySem.Spec PyProof.Rows
section
variable {X : Cx} {x : Str} {p pos : Pos} {e : Expr} {es : List Expr} {t : TA} {id T : String} {r : List V → Hp → VK → Prop}
def tCB (r : List V → Hp → VK → Prop) (t : TA) : TE := fun σ H Q => t σ H fun vs H1 => r vs H1 Q
theorem pe_callB (hc : CallR X (.builtin id) r) (hg : Gl X x) (hm : X.mg x = none) (hv : bootBuiltins x = some (.builtin id)) (ha : PA X (e :: es) t) (hn : x ≠ "__name__" := by decide) (hdb : (x == ("__debug__" : Str)) = false := by decide)
    (he : starEach (e :: es) X.env = (false, eval e X.env) :: starEach es X.env := by rfl) (hpl : (backTo pos (starEach es X.env)).any (·.1) = false := by rfl) : PE X (.Call (.Name x p) (e :: es) [] pos) (tCB r t) := by
  intro pins s σ H Q I h
  refine wpAny_Call_Name_kw (ld_blt I hg hm hv ?_ hn hdb)
  exact PyProof.Rows.callWith_builtin1 (thn (ha pos pins s σ H _ I h) fun us s1 ⟨vs, H1, I1, r1, q1⟩ => hc pins s1 σ H1 vs us Q I1 r1 q1) he hpl
theorem pe_callTy (hc : CallR X (.type T) r) (hg : Gl X x) (hm : X.mg x = none) (hv : bootBuiltins x = some (.type T)) (ha : PA X (e :: es) t) (hn : x ≠ "__name__" := by decide) (hdb : (x == ("__debug__" : Str)) = false := by decide)
    (he : starEach (e :: es) X.env = (false, eval e X.env) :: starEach es X.env := by rfl) (hpl : (backTo pos (starEach es X.env)).any (·.1) = false := by rfl) : PE X (.Call (.Name x p) (e :: es) [] pos) (tCB r t) := by
  intro pins s σ H Q I h
  refine wpAny_Call_Name_kw (ld_blt I hg hm hv ?_ hn hdb)
  exact PyProof.Rows.callWith_type1 (thn (ha pos pins s σ H _ I h) fun us s1 ⟨vs, H1, I1, r1, q1⟩ => hc pins s1 σ H1 vs us Q I1 r1 q1) he hpl
end
end L2
namespace HT
open PySem PyProof.Rows
def lexLt : List Int → List Int → Bool
  | [], [] => false
  | [], _ :: _ => true
  | _ :: _, [] => false
  | x :: xs, y :: ys => if x = y then lexLt xs ys else decide (x < y)
theorem lexLt_cons (x y : Int) (xs ys : List Int) : lexLt (x :: xs) (y :: ys) = if x = y then lexLt xs ys else decide (x < y) := rfl
theorem lexLt_nil_nil : lexLt [] [] = false := rfl
theorem lexLt_nil_cons (y : Int) (ys : List Int) : lexLt [] (y :: ys) = true := rfl
theorem lexLt_cons_nil (x : Int) (xs : List Int) : lexLt (x :: xs) [] = false := rfl
theorem eqAt_int (A : Around) (s : Shared) (a : Int) (t : Tok) (c : Int) (u : Tok) : ∃ e, SeqAt.EqAt A s (.int a t) (.int c u) e ∧ (e = true ↔ a = c) :=
  ⟨(a == c), SeqAt.EqAt.int_int a t c u, by simp⟩
theorem rcLt_int (A : Around) (s : Shared) (a : Int) (t : Tok) (c : Int) (u : Tok) (prog : Program) (w : World) (E : Value → Shared → Prop) (Q : Value → Shared → Prop) (h : Q (.bool (decide (a < c))) s) :
    wpAny (model prog w) A (richCompare .Lt (.int a t) (.int c u)) Q E s :=
  (PyProof.Rows.lt_int h : wpAny (model prog w) A (compareOp .Lt (.int a t) (.int c u)) Q E s)
section
open PySem.SeqAt
open PySem.AutoSeq1 (wpAny_loadPart')
open PySem.MeetsSeq PySem.MeetsSeq2 PySem.MeetsSeq3
theorem tuple_lt_ints (l b : Addr) (items items2 : Array Value) (n n2 : Nat) (dd dd2 : Option Addr) (sl sl2 : Array (Option Value)) (ns ms : List Int) (hi : IntsAre items.toList ns) (hj : IntsAre items2.toList ms) :
    Meets (Builtin.«tuple.__lt__» ⟨[.ref l, .ref b], []⟩)
      (fun _ R s => s.heap.get? l = some { cls := .type "tuple", dict := dd, data := .seq items n, slots := sl } ∧ s.heap.get? b = some { cls := .type "tuple", dict := dd2, data := .seq items2 n2, slots := sl2 } ∧
        R (.ok (.ret (.bool (lexLt ns ms)))) s) :=
  .of_wp fun prog w A R s h => by
    obtain ⟨hp, g, d, tk, os⟩ := s; obtain ⟨hl, hb, h⟩ := h
    have f2 := AutoSeq1.sub_tuple_tuple
    have z1 : items.size = ns.length := by rw [← hi.length]; simp
    have z2 : items2.size = ms.length := by rw [← hj.length]; simp
    wp_walk using wpAny_loadPart' hl, wpAny_loadPart' hb, wpAny_forIn_list _ (fun rest b s' => b.1 = none ∧ s' = ⟨hp, g, d, tk, os⟩ ∧ ∃ (vs ws : List Value) (ns' ms' : List Int), rest = vs.zip ws ∧
      IntsAre vs ns' ∧ IntsAre ws ms' ∧ ns'.length + items2.size = ms'.length + items.size ∧ R (.ok (.ret (.bool (lexLt ns' ms')))) ⟨hp, g, d, tk, os⟩) _
    case turn =>
      rintro ⟨y, x⟩ rest b s' ⟨hb', rfl, vs, ws, ns', ms', hz, hvi, hwi, hlen, hR⟩
      cases hvi with
      | nil => rw [List.zip_nil_left] at hz; cases hz
      | cons a t hvi' =>
        cases hwi with
        | nil => rw [List.zip_nil_right] at hz; cases hz
        | cons c u hwi' =>
          rw [List.zip_cons_cons] at hz
          injection hz with hyx hrest
          injection hyx with hy hx
          subst hy hx
          rw [lexLt_cons] at hR
          simp only [List.length_cons] at hlen
          obtain ⟨e, he, hiff⟩ := eqAt_int A.in1 ⟨hp, g, d, tk, os⟩ a t c u
          refine wpAny_bind (he prog w _ _ ?_)
          cases e with
          | true =>
            rw [if_pos (hiff.mp rfl)] at hR
            wp_walk
            exact ⟨rfl, rfl, _, _, _, _, hrest, hvi', hwi', by omega, hR⟩
          | false =>
            rw [if_neg (fun q => absurd (hiff.mpr q) Bool.false_ne_true)] at hR
            have hri := rcLt_int A.in1 ⟨hp, g, d, tk, os⟩ a t c u prog w
            wp_walk using hri
            exact ⟨_, rfl, by simpa using hR⟩
    case fin =>
      rintro ⟨b1, b2⟩ s' ⟨hb', rfl, vs, ws, ns', ms', hz, hvi, hwi, hlen, hR⟩
      simp only at hb'
      subst hb'
      have hv : lexLt ns' ms' = decide (items.size < items2.size) := by
        cases hvi with
        | nil =>
          cases hwi with
          | nil =>
            simp only [List.length_nil] at hlen
            rw [lexLt_nil_nil]
            exact (decide_eq_false (by omega)).symm
          | cons c u hw =>
            simp only [List.length_nil, List.length_cons] at hlen
            rw [lexLt_nil_cons]
            exact (decide_eq_true (by omega)).symm
        | cons a t hv =>
          cases hwi with
          | nil =>
            simp only [List.length_nil, List.length_cons] at hlen
            rw [lexLt_cons_nil]
            exact (decide_eq_false (by omega)).symm
          | cons c u hw =>
            rw [List.zip_cons_cons] at hz
            cases hz
      rw [hv] at hR
      wp_walk
      exact ⟨_, rfl, by simpa [Builtin.Tuple.tupleCompareSizes] using hR⟩
    case h =>
      exact ⟨rfl, rfl, items.toList, items2.toList, ns, ms, rfl, hi, hj, by omega, h⟩
end
section
variable {prog : Program} {w : World} {A : Around} {E : Value → Shared → Prop} {s : Shared}
theorem lt_tupInts {l b : Addr} {items items2 : Array Value} {ns ms : List Int} {Q : Value → Shared → Prop} (hl : IsTup s.heap l items) (hb : IsTup s.heap b items2) (hi : IntsAre items.toList ns) (hj : IntsAre items2.toList ms)
    (hu : A.units < cLine) (h : Q (.bool (lexLt ns ms)) s) : wpAny (model prog w) A (compareOp .Lt (.ref l) (.ref b)) Q E s := by
  obtain ⟨⟨cls, dd, data, sl⟩, ho, hc, n, hd⟩ := id hl
  obtain ⟨⟨cls2, dd2, data2, sl2⟩, ho2, hc2, n2, hd2⟩ := id hb
  simp only at hc hd hc2 hd2
  subst hc hd hc2 hd2
  exact richCompare_meets_room (op := .Lt) ⟨_, ho, rfl⟩ ⟨_, ho2, rfl⟩ PySem.F.slot_tuple_lt PySem.F.entry_tuple_lt (PySem.F.args_tuple_lt_2 _ _) (tuple_lt_ints l b items items2 n n2 dd dd2 sl sl2 ns ms hi hj)
    ⟨ho, ho2, show Value.bool (lexLt ns ms) ≠ Value.notImplemented ∧ Q (.bool (lexLt ns ms)) s from ⟨(fun x => nomatch x), h⟩⟩ hu
theorem cat_tup {t b : Addr} {vs ws : List Value} {Q : Value → Shared → Prop} (ht : IsTup s.heap t vs.toArray) (hb : IsTup s.heap b ws.toArray) (hv : vs ≠ [])
    (h1 : ws = [] → Q (.ref t) s) (h2 : ws ≠ [] → Q (.ref s.heap.objs.size) { s with heap := s.heap.push { cls := .type "tuple", data := .seq (vs ++ ws).toArray } })
    (hsz : vs.length + ws.length ≤ sizeLine) : wpAny (model prog w) A (binaryOp .Add (.ref t) (.ref b)) Q E s := by
  obtain ⟨⟨cls, dd, data, sl⟩, ho, hc, n, hd⟩ := id ht
  obtain ⟨⟨cls2, dd2, data2, sl2⟩, ho2, hc2, n2, hd2⟩ := id hb
  simp only at hc hd hc2 hd2
  subst hc hd hc2 hd2
  have e : vs.toArray ++ ws.toArray = (vs ++ ws).toArray := by simp
  by_cases hw : ws = []
  · exact concat_meets ⟨_, ho, rfl⟩ ⟨_, ho2, rfl⟩ noFill_tuple_add seq_tuple_add PySem.F.slot_tuple_add PySem.F.entry_tuple_add (PySem.F.args_tuple_add_2 _ _)
      (tuple_addW1 t b vs.toArray ws.toArray n n2 dd dd2 sl sl2 (by simpa using hv) (by simp [hw])) ⟨ho, ho2, h1 hw⟩
  · refine concat_meets ⟨_, ho, rfl⟩ ⟨_, ho2, rfl⟩ noFill_tuple_add seq_tuple_add PySem.F.slot_tuple_add PySem.F.entry_tuple_add (PySem.F.args_tuple_add_2 _ _)
      (tuple_addW2 t b vs.toArray ws.toArray n n2 dd dd2 sl sl2 (by simpa using hv) (by simpa using hw) (by rw [List.size_toArray, List.size_toArray]; exact hsz)) ⟨ho, ho2, ?_⟩
    rw [e]
    exact h2 hw
def sIx (n d : Nat) : Option Int → Nat
  | none => d
  | some v => if v < 0 then (v + (n : Int)).toNat else min v.toNat n
theorem sIx_none (n d : Nat) : sIx n d none = d := rfl
theorem sIx_nat (n d k : Nat) : sIx n d (some (k : Int)) = min k n := by
  show (if (k : Int) < 0 then ((k : Int) + (n : Int)).toNat else min (k : Int).toNat n) = min k n
  rw [if_neg (by omega), Int.toNat_natCast]
end
end HT
namespace L2
open PySem PySem.Spec PyProof.Rows
abbrev TO := St → Hp → (Option Int → Hp → Prop) → Prop
def PO (X : Cx) (e : Option Expr) (t : TO) : Prop :=
  ∀ (pins : List (Addr × Obj)) (s : Shared) (σ : St) (H : Hp) (Q : Option Int → Hp → Prop), Inv X pins σ H s → t σ H Q →
    wpAny (model X.prog X.w) X.A (evalPart e X.env) (fun u s' => ∃ o H', Inv X pins σ H' s' ∧ IsPart u o ∧ Q o H') X.xe s
def tNoPart : TO := fun _ H Q => Q none H
def tPart (t : TE) : TO := fun σ H Q => t σ H fun x H1 => ∃ i, x = .int i ∧ Q (some i) H1
theorem intsAre_of {ns : List Int} : ∀ {us : List Value}, Vals (ns.map V.int) us → IntsAre us ns := by
  induction ns with
  | nil => intro us r; rw [List.map_nil] at r; cases r; exact .nil
  | cons n ns ih =>
    intro us r
    rw [List.map_cons] at r
    cases r with
    | cons r1 r2 =>
      obtain ⟨t, e⟩ := r1
      subst e
      exact .cons n t (ih r2)
section
variable {X : Cx} {e : Expr} {te : TE} {lo hi : Option Expr} {tl th : TO} {pos p2 : Pos}
theorem po_none : PO X none tNoPart := by
  intro pins s σ H Q I h
  rw [evalPart_none]
  exact wpAny_pure ⟨none, H, I, .none, h⟩
theorem po_some (h : PE X e te) : PO X (some e) (tPart te) := by
  intro pins s σ H Q I hw
  rw [evalPart_some]
  refine thn (h pins s σ H _ I hw) fun u s1 ⟨x, H1, I1, r1, q1⟩ => ?_
  obtain ⟨i, rfl, q⟩ := q1
  obtain ⟨t, rfl⟩ := r1
  exact ⟨some i, H1, I1, .int i t, q⟩
def SlR (X : Cx) (r : V → Option Int → Option Int → Hp → VK → Prop) : Prop :=
  ∀ (pins : List (Addr × Obj)) (s : Shared) (σ : St) (H : Hp) (x : V) (v vl vu : Value) (lo hi : Option Int) (sl : Addr) (Q : VK), Inv X pins σ H s → RelV x v → s.heap.IsSliceOf sl vl vu .none → IsPart vl lo → IsPart vu hi → r x lo hi H Q →
    ∃ T id, typeLookup (.type T) "__getitem__" = pure (some (.builtin id)) ∧ s.TypeIs v T ∧ wpAny (model X.prog X.w) X.A (getItem v (.ref sl)) (EP X pins σ Q) X.xe s
def tSl (r : V → Option Int → Option Int → Hp → VK → Prop) (te : TE) (tl th : TO) : TE := fun σ H Q => te σ H fun x H1 => tl σ H1 fun l H2 => th σ H2 fun u H3 => r x l u H3 Q
theorem pe_slice {r : V → Option Int → Option Int → Hp → VK → Prop} (hr : SlR X r) (he : PE X e te) (hl : PO X lo tl) (hu : PO X hi th) : PE X (.Subscript e (.Slice lo hi none p2) pos) (tSl r te tl th) := by
  intro pins s σ H Q I h
  refine Subscript_ (thn (he pins s σ H _ I h) fun v s1 ⟨x, H1, I1, r1, q1⟩ => ?_)
  refine wpAny_Slice (thn (hl pins s1 σ H1 _ I1 q1) fun vl s2 ⟨l, H2, I2, pl, q2⟩ => thn (hu pins s2 σ H2 _ I2 q2) fun vu s3 ⟨u, H3, I3, pu, q3⟩ => ?_)
  rw [evalPart_none]
  refine wpAny_pure ?_
  have I4 : Inv X pins σ H3 { s3 with heap := s3.heap.push { cls := .type "slice", data := .fields #[vl, vu, .none] } } := I3.kept (t' := s3.toks) fun b ob q => Heap.get?_push_of_some _ q
  obtain ⟨T, id, hT, ht, hg⟩ := hr pins { s3 with heap := s3.heap.push { cls := .type "slice", data := .fields #[vl, vu, .none] } } σ H3 x v vl vu l u s3.heap.objs.size Q I4 r1 (Heap.IsSliceOf.new ..) pl pu q3
  show wpAny (model X.prog X.w) X.A (subscriptTail e (.Slice lo hi none p2) v (.ref s3.heap.objs.size)) (EP X pins σ Q) X.xe { s3 with heap := s3.heap.push { cls := .type "slice", data := .fields #[vl, vu, .none] } }
  exact tail_any (ops := [.ref s3.heap.objs.size, v]) ht hT hg (by with_unfolding_all rfl)
def cutV (xs : List V) (lo hi : Option Int) : List V := (xs.drop (HT.sIx xs.length 0 lo)).take (HT.sIx xs.length xs.length hi - HT.sIx xs.length 0 lo)
theorem cutV_length (xs : List V) (lo hi : Option Int) : (cutV xs lo hi).length ≤ xs.length := by
  unfold cutV
  rw [List.length_take, List.length_drop]
  omega
def rSlT (K : PySem.W.Frag) : V → Option Int → Option Int → Hp → VK → Prop := fun x lo hi H Q => ∃ a xs, x = .ref a ∧ SqT K H a xs ∧
  ¬ (HT.sIx xs.length 0 lo = 0 ∧ HT.sIx xs.length xs.length hi = xs.length) ∧ ∀ p, H p = none → Q (.ref p) (upd H p (.tup (cutV xs lo hi)))
def rLtT (K : PySem.W.Frag) : R2 := fun x y H Q => ∃ a b ns ms, x = .ref a ∧ y = .ref b ∧ SqT K H a (ns.map V.int) ∧ SqT K H b (ms.map V.int) ∧ Q (.bl (HT.lexLt ns ms)) H
def rCatT (K : PySem.W.Frag) : R2 := fun x y H Q => ∃ a b xs ys, x = .ref a ∧ y = .ref b ∧ SqT K H a xs ∧ SqT K H b ys ∧ xs ≠ [] ∧ xs.length + ys.length ≤ sizeLine ∧
  (ys = [] → Q (.ref a) H) ∧ (ys ≠ [] → ∀ p, H p = none → Q (.ref p) (upd H p (.tup (xs ++ ys))))
theorem Vals.nil_iff {xs : List V} {us : List Value} (r : Vals xs us) : us = [] ↔ xs = [] := by
  cases r with
  | nil => simp
  | cons _ _ => simp
theorem op_catT : OpR X (binaryOp .Add) (rCatT X.K) := by
  intro pins s σ H x y v u Q I rx ry h
  obtain ⟨a, b, xs, ys, rfl, rfl, ha, hb, hx, hz, q1, q2⟩ := h
  cases rx
  cases ry
  obtain ⟨its, r1, p1, _⟩ := I.tuple ha
  obtain ⟨its2, r2, p2, _⟩ := I.tuple hb
  refine HT.cat_tup p1 p2 (fun z => hx (r1.nil_iff.mp z)) (fun z => ⟨.ref a, H, I, rfl, q1 (r2.nil_iff.mp z)⟩) (fun z => ?_) (by rw [← r1.length, ← r2.length]; exact hz)
  refine ⟨.ref s.heap.objs.size, _, I.laid (t' := s.toks) (o := .tup (xs ++ ys)) (fun b ob q => Heap.get?_push_of_some _ q) (Nat.le_refl _) ?_, rfl, q2 (fun w => z (r2.nil_iff.mpr w)) _ (I.hok.fresh (Nat.le_refl _))⟩
  exact ⟨by rw [List.length_append]; exact hz, _, r1.append r2, IsTup.new _ _⟩
end
end L2
namespace L2
open PySem PySem.Spec PyProof.Rows
def ixN (n : Nat) (i : Int) : Option Nat := if 0 ≤ i then (if i < n then some i.toNat else none) else if -(n : Int) ≤ i then some (i + n).toNat else none
def atI {α : Type} (xs : List α) (i : Int) : Option α := (ixN xs.length i).bind fun j => xs[j]?
theorem ixN_seq {n : Nat} {i : Int} {j : Nat} (h : ixN n i = some j) : seqIndex? i n = some j ∧ j < n ∧ -(n : Int) ≤ i ∧ i < n := by
  unfold ixN at h
  by_cases h0 : 0 ≤ i
  · rw [if_pos h0] at h
    by_cases h1 : i < n
    · rw [if_pos h1] at h
      have e : i.toNat = j := Option.some.inj h
      exact ⟨by rw [seqIndex_of h0 h1, e], by omega, by omega, h1⟩
    · rw [if_neg h1] at h; cases h
  · rw [if_neg h0] at h
    by_cases h1 : -(n : Int) ≤ i
    · rw [if_pos h1] at h
      have e : (i + n).toNat = j := Option.some.inj h
      exact ⟨by rw [seqIndex_neg (by omega) h1, e], by omega, h1, by omega⟩
    · rw [if_neg h1] at h; cases h
theorem atI_get {α : Type} {xs : List α} {i : Int} {v : α} (h : atI xs i = some v) : ∃ j, seqIndex? i xs.length = some j ∧ xs[j]? = some v ∧ j < xs.length ∧ -(xs.length : Int) ≤ i ∧ i < xs.length := by
  unfold atI at h
  cases e : ixN xs.length i with
  | none => rw [e] at h; cases h
  | some j =>
    rw [e] at h
    obtain ⟨h1, h2, h3, h4⟩ := ixN_seq e
    exact ⟨j, h1, h, h2, h3, h4⟩
theorem atI_nat {α : Type} {xs : List α} {j : Nat} {v : α} (h : xs[j]? = some v) : atI xs (j : Int) = some v := by
  have hj : j < xs.length := (List.getElem?_eq_some_iff.mp h).1
  have e : ixN xs.length (j : Int) = some j := by
    unfold ixN
    rw [if_pos (by omega), if_pos (by omega)]; simp
  unfold atI; rw [e]; exact h
def PlainIx (b : Expr) : Prop := ∀ o i, subscripted b false o i = operate [o, i] (getItem o i)
def IxR (X : Cx) (r : R2) : Prop :=
  ∀ (value slice : Expr) (pins : List (Addr × Obj)) (s : Shared) (σ : St) (H : Hp) (x y : V) (v u : Value) (Q : VK), Inv X pins σ H s → RelV x v → RelV y u → r x y H Q →
    subscripted slice false v u = operate [v, u] (getItem v u) → wpAny (model X.prog X.w) X.A (subscriptTail value slice v u) (EP X pins σ Q) X.xe s
def MtR (X : Cx) (id : String) (r : V → List V → Hp → VK → Prop) : Prop :=
  ∀ (pins : List (Addr × Obj)) (s : Shared) (σ : St) (H : Hp) (x : V) (xs : List V) (v : Value) (us : List Value) (Q : VK), Inv X pins σ H s → RelV x v → Vals xs us → r x xs H Q →
    wpAny (model X.prog X.w) X.A (call (.builtin id) (v :: us)) (EP X pins σ Q) X.xe s
section
variable {X : Cx} {a b : Expr} {ta tb : TE} {pos : Pos}
theorem pe_ix {r : R2} (hr : IxR X r) (ha : PE X a ta) (hb : PE X b tb) (hs : PlainIx b) : PE X (.Subscript a b pos) (tOp r ta tb) := by
  intro pins s σ H Q I h
  exact Subscript_ (binT ha hb I h fun v u s2 x y H2 I2 rx ry q => hr a b pins s2 σ H2 x y v u Q I2 rx ry q (hs _ _))
def rIxL (K : PySem.W.Frag) : R2 := fun x y H Q => ∃ p xs i v, x = .ref p ∧ y = .int i ∧ SqL K H p xs ∧ atI xs i = some v ∧ Q v H
def rIxT (K : PySem.W.Frag) : R2 := fun x y H Q => ∃ p xs i v, x = .ref p ∧ y = .int i ∧ SqT K H p xs ∧ atI xs i = some v ∧ Q v H
def rIxS : R2 := fun x y H Q => ∃ z i c, x = .str z ∧ y = .int i ∧ z.length ≤ sizeLine ∧ atI z.cps.toList i = some c ∧ Q (.str ⟨#[c]⟩) H
theorem ix_list : IxR X (rIxL X.K) := by
  intro value slice pins s σ H x y v u Q I rx ry h hs
  obtain ⟨p, xs, i, z, rfl, rfl, hq, he, q⟩ := h
  cases rx
  obtain ⟨t, rfl⟩ := ry
  obtain ⟨its, r, pl, hz⟩ := I.list hq
  obtain ⟨j, h1, h2, h3, h4, h5⟩ := atI_get he
  obtain ⟨w, ew, rw'⟩ := r.get h2
  have hl := r.length
  have hn := line63
  have fin : EP X pins σ Q w s := ⟨z, H, I, rw', q⟩
  by_cases h0 : 0 ≤ i
  · have hj : i.toNat = j := by
      rw [seqIndex_of h0 h5] at h1
      exact Option.some.inj h1
    exact item_listR pl.isList h0 (by omega) (by rw [hj]; simpa using ew) fin hs
  · have hj : (i + (its.toArray.size : Int)).toNat = j := by
      rw [seqIndex_neg (by omega) h4] at h1
      rw [List.size_toArray, ← hl]
      exact Option.some.inj h1
    exact subscriptTail_builtinR (x := w) pl.isList.typeIs slot_list_getitem.lookup
      (wpAny_getItem_list_neg (Q := fun r s' => r = w ∧ EP X pins σ Q r s') pl.isList (by omega) (by rw [List.size_toArray] <;> omega) (by omega) (by rw [hj]; simpa using ew) ⟨rfl, fin⟩) hs
theorem ix_tup : IxR X (rIxT X.K) := by
  intro value slice pins s σ H x y v u Q I rx ry h hs
  obtain ⟨p, xs, i, z, rfl, rfl, hq, he, q⟩ := h
  cases rx
  obtain ⟨t, rfl⟩ := ry
  obtain ⟨its, r, pl, hz⟩ := I.tuple hq
  obtain ⟨j, h1, h2, h3, h4, h5⟩ := atI_get he
  obtain ⟨w, ew, rw'⟩ := r.get h2
  have hl := r.length
  have hn := line63
  have fin : EP X pins σ Q w s := ⟨z, H, I, rw', q⟩
  exact subscriptTail_builtinR (x := w) pl.typeIs slot_tuple_getitem.lookup
    (getItem_tuple (j := j) (Q := fun r s' => r = w ∧ EP X pins σ Q r s') pl (by omega) (by omega) (by rw [List.size_toArray, ← hl]; exact h1) (by simpa using ew) ⟨rfl, fin⟩) hs
def rIx (K : PySem.W.Frag) : R2 := fun x y H Q => rIxL K x y H Q ∨ rIxT K x y H Q ∨ rIxS x y H Q
theorem mapSeq_set (its : List Value) (n j : Nat) (u : Value) : Obj.mapSeq (·.setIfInBounds j u) { cls := .type "list", data := .seq its.toArray n } = { cls := .type "list", data := .seq (its.set j u).toArray n } := by
  simp [Obj.mapSeq]
theorem Inv.lst {pins : List (Addr × Obj)} {σ : St} {H : Hp} {s : Shared} {p : Addr} {xs : List V} (I : Inv X pins σ H s) (h : H p = some (.lst xs)) :
    ∃ (its : List Value) (n : Nat), Vals xs its ∧ s.heap.get? p = some { cls := .type "list", data := .seq its.toArray n } ∧ xs.length ≤ sizeLine := by
  obtain ⟨z, its, n, r, e⟩ := I.hok p _ h
  exact ⟨its, n, r, e, z⟩
theorem Inv.lstUpd {pins : List (Addr × Obj)} {σ : St} {H : Hp} {s : Shared} {p : Addr} {xs ys : List V} {its its' : List Value} {n n' : Nat} {f : Obj → Obj} (I : Inv X pins σ H s) (h : H p = some (.lst xs))
    (ho : s.heap.get? p = some { cls := .type "list", data := .seq its.toArray n }) (hf : f { cls := .type "list", data := .seq its.toArray n } = { cls := .type "list", data := .seq its'.toArray n' }) (r : Vals ys its') (hz : ys.length ≤ sizeLine) (t : Nat) :
    Inv X pins σ (upd H p (.lst ys)) { s with heap := s.heap.update p f, toks := t } := by
  have e : (s.heap.update p f).get? p = some { cls := .type "list", data := .seq its'.toArray n' } := by
    rw [Heap.get?_update_self f ho (by rw [hf] <;> rfl), hf]
  refine I.write (x := p) (e := p) (by rw [h]; trivial) (.inl rfl) (fun b u hb q => (Heap.get?_update_other _ _ (Ne.symm hb)).trans q) ⟨_, e⟩ ?_
  exact ⟨hz, its', n', r, e⟩
def rSetL : V → V → V → Hp → (Hp → Prop) → Prop := fun o i v H Q => ∃ p xs k j, o = .ref p ∧ i = .int k ∧ H p = some (.lst xs) ∧ ixN xs.length k = some j ∧ Q (upd H p (.lst (xs.set j v)))
theorem set_list : PSet X rSetL := by
  intro pins s σ H o i v ov iv u Q I ro ri rv h
  obtain ⟨p, xs, k, j, rfl, rfl, hp, hj, q⟩ := h
  cases ro
  obtain ⟨t, rfl⟩ := ri
  obtain ⟨its, n, r, ho, hz⟩ := I.lst hp
  obtain ⟨h1, h2, h3, h4⟩ := ixN_seq hj
  have hl := r.length
  have hn := line63
  have I' : Inv X pins σ (upd H p (.lst (xs.set j v))) { s with heap := s.heap.update p (Obj.mapSeq (·.setIfInBounds j u)) } :=
    I.lstUpd hp ho (mapSeq_set its n j u) (r.set rv j) (by rw [List.length_set]; exact hz) s.toks
  by_cases h0 : 0 ≤ k
  · have hk : k.toNat = j := by
      rw [seqIndex_of h0 h4] at h1
      exact Option.some.inj h1
    exact PySem.W.ki_setAt ho h0 (by omega) (by rw [List.size_toArray, ← hl]; exact h4) (by rw [hk]; exact ⟨_, I', q⟩)
  · have hk : (k + (its.toArray.size : Int)).toNat = j := by
      rw [seqIndex_neg (by omega) h3] at h1
      rw [List.size_toArray, ← hl]
      exact Option.some.inj h1
    exact PySem.W.ki_setBack ho (by omega) (by rw [List.size_toArray, ← hl]; exact h3) (by omega) (by rw [hk]; exact ⟨_, I', q⟩)
theorem slice_bounds (lo hi : Option Int) (n : Nat) : (sliceBounds lo hi none n).1 = ((HT.sIx n 0 lo : Nat) : Int) ∧ (sliceBounds lo hi none n).2.1 = ((HT.sIx n n hi : Nat) : Int) ∧ (sliceBounds lo hi none n).2.2 = 1 := by
  refine ⟨?_, ?_, rfl⟩
  · cases lo with
    | none => simp [sliceBounds, HT.sIx]
    | some i =>
      simp only [sliceBounds, HT.sIx, Option.getD_none, show (1 : Int) > 0 by decide, if_true]
      by_cases h : i < 0
      · simp only [h, if_true] <;> omega
      · simp only [h, if_false] <;> omega
  · cases hi with
    | none => simp [sliceBounds, HT.sIx]
    | some i =>
      simp only [sliceBounds, HT.sIx, Option.getD_none, show (1 : Int) > 0 by decide, if_true]
      by_cases h : i < 0
      · simp only [h, if_true] <;> omega
      · simp only [h, if_false] <;> omega
theorem slicePick_cut (its : List Value) (lo hi : Option Int) : slicePick its.toArray lo hi none = ((its.drop (HT.sIx its.length 0 lo)).take (HT.sIx its.length its.length hi - HT.sIx its.length 0 lo)).toArray := by
  obtain ⟨h1, h2, h3⟩ := slice_bounds lo hi its.toArray.size
  unfold slicePick
  rw [h1, h2, h3]
  simp only [sliceRange_one, pick_run, List.size_toArray] <;> rfl
def rSlL (K : PySem.W.Frag) : V → Option Int → Option Int → Hp → VK → Prop := fun x lo hi H Q => ∃ a xs, x = .ref a ∧ SqL K H a xs ∧ ∀ p, H p = none → Q (.ref p) (upd H p (.lst (cutV xs lo hi)))
theorem sl_list : SlR X (rSlL X.K) := by
  intro pins s σ H x v vl vu lo hi sl Q I rx hs pl pu h
  obtain ⟨a, xs, rfl, hx, q⟩ := h
  cases rx
  obtain ⟨its, r, ht, hz⟩ := I.list hx
  have hlen := r.length
  refine ⟨"list", _, slot_list_getitem.lookup, ht.isList.typeIs, ?_⟩
  refine wpAny_getItem_list_slice ht.isList hs pl pu .none (by simp) ?_ (by rw [List.size_toArray] <;> omega)
  rw [slicePick_cut, ← hlen]
  refine ⟨.ref s.heap.objs.size, _, I.laid (t' := s.toks) (o := .lst (cutV xs lo hi)) (fun b ob q => Heap.get?_push_of_some _ q) (Nat.le_refl _) ?_, rfl, q _ (I.hok.fresh (Nat.le_refl _))⟩
  exact ⟨Nat.le_trans (cutV_length xs lo hi) hz, _, 0, (r.drop (HT.sIx xs.length 0 lo)).take (HT.sIx xs.length xs.length hi - HT.sIx xs.length 0 lo), Heap.get?_push_size _ rfl⟩
def flatV : V → Bool
  | .non => true
  | .bl _ => true
  | .int _ => true
  | .str _ => true
  | _ => false
def eqV : V → V → Bool
  | .non, .non => true
  | .bl a, .bl b => a == b
  | .bl a, .int b => (if a then 1 else 0) == b
  | .int a, .bl b => a == (if b then 1 else 0)
  | .int a, .int b => a == b
  | .str a, .str b => a == b
  | _, _ => false
theorem eqAt_V {A : Around} {s : Shared} {y x : V} {u v : Value} (ry : RelV y u) (rx : RelV x v) (fy : flatV y = true) (fx : flatV x = true) : SeqAt.EqAt A s u v (eqV y x) := by
  cases y with
  | non =>
    cases ry
    cases x with
    | non => cases rx; exact SeqAt.EqAt.same _
    | bl b => cases rx; exact SeqAt.EqAt.none_bool b
    | int b => obtain ⟨t, rfl⟩ := rx; exact SeqAt.EqAt.none_int b t
    | str b => obtain ⟨t, rfl⟩ := rx; exact SeqAt.EqAt.none_str b t
    | _ => exact absurd (show false = true from fx) Bool.false_ne_true
  | bl a =>
    cases ry
    cases x with
    | non => cases rx; exact SeqAt.EqAt.bool_none a
    | bl b => cases rx; exact SeqAt.EqAt.bool_bool a b
    | int b => obtain ⟨t, rfl⟩ := rx; exact SeqAt.EqAt.bool_int a b t
    | str b => obtain ⟨t, rfl⟩ := rx; exact SeqAt.EqAt.bool_str a b t
    | _ => exact absurd (show false = true from fx) Bool.false_ne_true
  | int a =>
    obtain ⟨t', rfl⟩ := ry
    cases x with
    | non => cases rx; exact SeqAt.EqAt.int_none a t'
    | bl b => cases rx; exact SeqAt.EqAt.int_bool a t' b
    | int b => obtain ⟨t, rfl⟩ := rx; exact SeqAt.EqAt.int_int a t' b t
    | str b => obtain ⟨t, rfl⟩ := rx; exact SeqAt.EqAt.int_str a t' b t
    | _ => exact absurd (show false = true from fx) Bool.false_ne_true
  | str a =>
    obtain ⟨t', rfl⟩ := ry
    cases x with
    | non => cases rx; exact SeqAt.EqAt.str_none a t'
    | bl b => cases rx; exact SeqAt.EqAt.str_bool a t' b
    | int b => obtain ⟨t, rfl⟩ := rx; exact SeqAt.EqAt.str_int a t' b t
    | str b => obtain ⟨t, rfl⟩ := rx; exact SeqAt.EqAt.str_str a t' b t
    | _ => exact absurd (show false = true from fx) Bool.false_ne_true
  | _ => exact absurd (show false = true from fy) Bool.false_ne_true
def eqU (x : V) (u : Value) : Bool := match u with
  | .none => eqV .non x
  | .bool b => eqV (.bl b) x
  | .int i _ => eqV (.int i) x
  | .str z _ => eqV (.str z) x
  | _ => false
theorem eqU_of {x y : V} {u : Value} (r : RelV y u) (f : flatV y = true) : eqU x u = eqV y x := by
  cases y with
  | non => cases r; rfl
  | bl b => cases r; rfl
  | int i => obtain ⟨t, rfl⟩ := r; rfl
  | str z => obtain ⟨t, rfl⟩ := r; rfl
  | _ => exact absurd (show false = true from f) Bool.false_ne_true
theorem any_eqU {x : V} : ∀ {xs : List V} {us : List Value}, Vals xs us → xs.all flatV = true → us.any (eqU x) = xs.any fun y => eqV y x
  | _, _, .nil, _ => rfl
  | y :: xs, u :: us, .cons r t, f => by
    rw [List.all_cons, Bool.and_eq_true] at f
    rw [List.any_cons, List.any_cons, eqU_of r f.1, any_eqU t f.2]
theorem mem_eqAt {A : Around} {s : Shared} {x : V} {v : Value} (rx : RelV x v) (fx : flatV x = true) : ∀ {xs : List V} {us : List Value}, Vals xs us → xs.all flatV = true → ∀ u ∈ us, SeqAt.EqAt A s u v (eqU x u)
  | _, _, .nil, _ => fun u hu => by cases hu
  | y :: xs, u :: us, .cons r t, f => fun u' hu => by
    rw [List.all_cons, Bool.and_eq_true] at f
    rcases List.mem_cons.mp hu with rfl | hu
    · rw [eqU_of r f.1]; exact eqAt_V r rx f.1 fx
    · exact mem_eqAt rx fx t f.2 u' hu
def inV (x : V) (xs : List V) : Bool := xs.any fun y => eqV y x
def rIn (K : PySem.W.Frag) (neg : Bool) : R2 := fun x y H Q => ∃ p xs, y = .ref p ∧ (SqL K H p xs ∨ SqT K H p xs) ∧ flatV x = true ∧ xs.all flatV = true ∧ Q (.bl (if neg then !inV x xs else inV x xs)) H
theorem op_notIn_seq : OpR X (compareOp .NotIn) (rIn X.K true) := by
  intro pins s σ H x y v u Q I rx ry h
  obtain ⟨p, xs, rfl, hq, fx, fs, q⟩ := h
  cases ry
  rcases hq with hq | hq
  · obtain ⟨its, r, pl, hz⟩ := I.list hq
    refine SeqAt.notIn_listAt (eqU x) pl.isList (fun w hw => mem_eqAt rx fx r fs w (by simpa using hw)) ⟨.bl _, H, I, rfl, ?_⟩
    rw [show its.toArray.any (eqU x) = its.any (eqU x) by simp, any_eqU r fs]
    exact q
  · obtain ⟨its, r, pl, hz⟩ := I.tuple hq
    refine SeqAt.notIn_tupleAt (eqU x) pl (fun w hw => mem_eqAt rx fx r fs w (by simpa using hw)) ⟨.bl _, H, I, rfl, ?_⟩
    rw [show its.toArray.any (eqU x) = its.any (eqU x) by simp, any_eqU r fs]
    exact q
theorem call_len_seq : CallR X (.builtin "len") (fun xs H Q => ∃ p ys, xs = [.ref p] ∧ (SqL X.K H p ys ∨ SqT X.K H p ys) ∧ Q (.int ys.length) H) := by
  intro pins s σ H xs us Q I r h
  obtain ⟨p, ys, rfl, hq, q⟩ := h
  obtain ⟨u, rfl, rx⟩ := vals1 r
  cases rx
  have hn := line63
  rcases hq with hq | hq
  · obtain ⟨its, r', pl, hz⟩ := I.list hq
    have hlen := r'.length
    exact Calls.call_len_list pl.isList (by simp only [List.size_toArray] <;> omega) ⟨.int ys.length, H, I.tok _, ⟨s.toks + 1, by rw [List.size_toArray, hlen]⟩, q⟩
  · obtain ⟨its, r', pl, hz⟩ := I.tuple hq
    have hlen := r'.length
    exact len_tuple pl (by simp only [List.size_toArray] <;> omega) ⟨.int ys.length, H, I.tok _, ⟨s.toks + 1, by rw [List.size_toArray, hlen]⟩, q⟩
theorem call_list_of : CallR X (.type "list") (fun xs H Q => ∃ p ys, xs = [.ref p] ∧ (SqL X.K H p ys ∨ SqT X.K H p ys) ∧ ∀ l, H l = none → Q (.ref l) (upd H l (.lst ys))) := by
  intro pins s σ H xs us Q I r h
  obtain ⟨p, ys, rfl, hq, q⟩ := h
  obtain ⟨u, rfl, rx⟩ := vals1 r
  cases rx
  have fin : ∀ (its : List Value), Vals ys its → ys.length ≤ sizeLine → ∀ (h' : Heap) (c' : Nat), (∀ b o', s.heap.get? b = some o' → h'.get? b = some o') →
      h'.get? s.heap.objs.size = some { cls := .type "list", dict := none, data := .seq its.toArray c', slots := #[] } → EP X pins σ Q (.ref s.heap.objs.size) { s with heap := h' } := fun its r' hz h' c' kp e =>
    ⟨.ref s.heap.objs.size, _, I.laid (t' := s.toks) kp (Nat.le_refl _) (show ObjOk X.prog X.w _ h' _ (.lst ys) from ⟨hz, its, c', r', e⟩), rfl, q _ (I.hok.fresh (Nat.le_refl _))⟩
  rcases hq with hq | hq
  · obtain ⟨its, r', pl, hz⟩ := I.list hq
    have hlen := r'.length
    obtain ⟨o, ho, hc, n, hd⟩ := pl.isList
    exact call_list_seq p (.inl rfl) ho hc hd (fun h' c' kp e => fin its r' hz h' c' kp e) (by simp only [List.size_toArray] <;> omega)
  · obtain ⟨its, r', pl, hz⟩ := I.tuple hq
    have hlen := r'.length
    obtain ⟨o, ho, hc, n, hd⟩ := pl
    exact call_list_seq p (.inr rfl) ho hc hd (fun h' c' kp e => fin its r' hz h' c' kp e) (by simp only [List.size_toArray] <;> omega)
theorem call_tuple_of : CallR X (.type "tuple") (fun xs H Q => ∃ p ys, xs = [.ref p] ∧ ((SqL X.K H p ys ∧ ∀ l, H l = none → Q (.ref l) (upd H l (.tup ys))) ∨ (SqT X.K H p ys ∧ Q (.ref p) H))) := by
  intro pins s σ H xs us Q I r h
  obtain ⟨p, ys, rfl, h⟩ := h
  obtain ⟨u, rfl, rx⟩ := vals1 r
  cases rx
  rcases h with ⟨hq, q⟩ | ⟨hq, q⟩
  · obtain ⟨its, r', pl, hz⟩ := I.list hq
    have hlen := r'.length
    refine call_tuple_list pl.isList (fun h' kp => ?_) (by simp only [List.size_toArray] <;> omega)
    have I1 : Inv X pins σ H { s with heap := h' } := I.kept (t' := s.toks) kp
    have I2 : Inv X pins σ (upd H h'.objs.size (.tup ys)) { s with heap := h'.push { cls := .type "tuple", data := .seq its.toArray } } :=
      I1.laid (t' := s.toks) (fun b o e => Heap.get?_push_of_some _ e) (Nat.le_refl _) (show ObjOk X.prog X.w _ _ _ (.tup ys) from ⟨hz, its, r', IsTup.new _ _⟩)
    exact ⟨.ref h'.objs.size, _, I2, rfl, q _ (I1.hok.fresh (Nat.le_refl _))⟩
  · obtain ⟨its, r', pl, hz⟩ := I.tuple hq
    exact call_tuple_same pl ⟨.ref p, H, I, rfl, q⟩
def tyV (K : PySem.W.Frag) (T : String) (x : V) (H : Hp) : Prop := match x with
  | .str _ => T = "str"
  | .int _ => T = "int"
  | .ref p => (T = "list" ∧ ∃ xs, SqL K H p xs) ∨ (T = "tuple" ∧ ∃ o, K.lookup p = some o ∧ o.cls = .type "tuple" ∧ o.dict = none) ∨
      (T = "dict" ∧ ((∃ kvs, H p = some (.dK kvs)) ∨ ∃ kvs, H p = some (.dT kvs))) ∨ (T = "set" ∧ ∃ S n, H p = some (.set S n))
  | _ => False
theorem tyV_is {pins : List (Addr × Obj)} {σ : St} {H : Hp} {s : Shared} {T : String} {x : V} {v : Value} (I : Inv X pins σ H s) (r : RelV x v) (ty : tyV X.K T x H) :
    s.TypeIs v T ∧ ∀ a, v = .ref a → ∃ ob, s.heap.get? a = some ob ∧ ob.dict = none := by
  cases x with
  | str z =>
    obtain ⟨t, rfl⟩ := r
    cases (show T = "str" from ty)
    exact ⟨typeIs_str s z t, fun _ e => nomatch e⟩
  | int i =>
    obtain ⟨t, rfl⟩ := r
    cases (show T = "int" from ty)
    exact ⟨typeIs_int s i t, fun _ e => nomatch e⟩
  | ref p =>
    cases r
    rcases ty with ⟨rfl, xs, hq⟩ | ⟨rfl, o, hk, hc, hd⟩ | ⟨rfl, hk⟩ | ⟨rfl, S, n, hk⟩
    · obtain ⟨its, _, pl, _⟩ := I.list hq
      refine ⟨pl.isList.typeIs, fun a e => ?_⟩
      cases e
      obtain ⟨o, n, e, c, hd, _⟩ := pl
      exact ⟨o, e, hd⟩
    · refine ⟨⟨o, I.kIn p o hk, hc⟩, fun a e => ?_⟩
      cases e
      exact ⟨o, I.kIn _ o hk, hd⟩
    · have z : ∃ o, s.heap.get? p = some o ∧ o.ExactDict := by
        rcases hk with ⟨kvs, hk⟩ | ⟨kvs, hk⟩
        · obtain ⟨_, _, _, _, o, _, _, e, ex, _⟩ := I.hok p _ hk
          exact ⟨o, e, ex⟩
        · obtain ⟨_, _, _, _, o, _, _, e, ex, _⟩ := I.hok p _ hk
          exact ⟨o, e, ex⟩
      obtain ⟨o, e, ex⟩ := z
      refine ⟨⟨o, e, ex.1⟩, fun a e2 => ?_⟩
      cases e2
      exact ⟨o, e, ex.2.1⟩
    · obtain ⟨o, _, _, _, e, ex, _⟩ := I.hok p _ hk
      refine ⟨⟨o, e, ex.1⟩, fun a e2 => ?_⟩
      cases e2
      exact ⟨o, e, ex.2.1⟩
  | _ => exact False.elim ty
def tBM0 (K : PySem.W.Frag) (T : String) (r : V → List V → Hp → VK → Prop) (to : TE) : TE := fun σ H Q => to σ H fun x H1 => tyV K T x H1 ∧ r x [] H1 Q
def tBM (K : PySem.W.Frag) (T : String) (r : V → List V → Hp → VK → Prop) (to : TE) (t : TA) : TE := fun σ H Q => to σ H fun x H1 => tyV K T x H1 ∧ t σ H1 fun xs H2 => r x xs H2 Q
variable {o e : Expr} {es : List Expr} {to : TE} {t : TA} {name : Str} {apos cpos : Pos} {T id : String} {r : V → List V → Hp → VK → Prop}
theorem pe_bm (pa : PlainAttrs T) (slot : Slot T name id) (hty : typeOf (.builtin id) = pure (.type "method_descriptor")) (hm : MtR X id r) (ho : PE X o to) (ha : PA X (e :: es) t)
    (hbase : attributeBase o name X.env (eval o X.env) = eval o X.env := by rfl)
    (hfew : ((backTo cpos (starEach (e :: es) X.env)).all (fun x => !x.1) && (backToKw cpos (keywordEach [] X.env)).all (fun x => x.1.isSome)
      && decide ((e :: es).length + ([] : List Keyword).length + (if ([] : List Keyword).isEmpty then 0 else 1) < 30)) = true := by rfl)
    (hline : (apos.endLine == cpos.line) = true := by rfl) (hs : starEach (e :: es) X.env = (false, eval e X.env) :: starEach es X.env := by rfl) (hplain : (backTo cpos (starEach es X.env)).any (·.1) = false := by rfl) :
    PE X (.Call (.Attribute o name apos) (e :: es) [] cpos) (tBM X.K T r to t) := by
  intro pins s σ H Q I h
  refine wpAny_Call_method_late hbase hfew hline rfl (thn (ho pins s σ H _ I h) fun v s1 ⟨x, H1, I1, r1, ty, q1⟩ => ?_)
  obtain ⟨h1, h2⟩ := tyV_is I1 r1 ty
  refine ⟨T, id, pa, slot, hty, h1, h2, ?_⟩
  have hA := ha cpos pins s1 σ H1 _ I1 q1
  rw [hs] at hA ⊢
  refine Calls.callWith_builtin (by show (false || (backTo cpos (starEach es X.env)).any (·.1)) = false; rw [hplain] <;> rfl) (Calls.evalArgs_plain ?_)
  exact thn hA fun us s2 ⟨vs, H2, I2, r2, q2⟩ => hm pins s2 σ H2 x vs v us Q I2 r1 r2 q2
/- xs.append(e), list.index on a module's tuple .. are MtR facts of 06m -/
end
end L2
namespace L2
open PySem PySem.Spec PyProof.Rows
def MtM (X : Cx) (id : String) (r : V → List V → Hp → VK → Prop) : Prop :=
  ∀ (pins : List (Addr × Obj)) (s : Shared) (σ : St) (H : Hp) (x : V) (xs : List V) (v : Value) (us : List Value) (Q : VK), Inv X pins σ H s → RelV x v → Vals xs us → r x xs H Q →
    wpAny (model X.prog X.w) X.A (call (.builtin id) (v :: us)) (EP X pins σ Q) X.xe s
theorem Vals.one : ∀ {x : V} {us : List Value}, Vals [x] us → ∃ u, us = [u] ∧ RelV x u
  | _, _, .cons r .nil => ⟨_, rfl, r⟩
section
variable {X : Cx} {pins : List (Addr × Obj)} {σ : St} {H : Hp} {s : Shared} {l b : Addr} {xs ys zs : List V}
theorem Inv.lset {its its' : List Value} {n : Nat} {f : Array Value → Array Value} {t' : Nat} (I : Inv X pins σ H s) (hH : H l = some (.lst xs))
    (e : s.heap.get? l = some { cls := .type "list", data := .seq its.toArray n }) (hf : f its.toArray = its'.toArray) (hv : Vals ys its') (hz : ys.length ≤ sizeLine) :
    Inv X pins σ (upd H l (.lst ys)) { s with heap := s.heap.update l (Obj.mapSeq f), toks := t' } := by
  have q := PySem.IsL.update e f
  rw [hf] at q
  refine I.write (x := l) (e := l) (by rw [hH]; exact trivial) (.inl rfl) (fun b' u hb hu => (Heap.get?_update_other s.heap (Obj.mapSeq f) (Ne.symm hb)).trans hu) ⟨_, q⟩ ?_
  exact ⟨hz, its', _, hv, q⟩
theorem Inv.lnew {its : List Value} {t' : Nat} (I : Inv X pins σ H s) (hv : Vals ys its) (hz : ys.length ≤ sizeLine) :
    Inv X pins σ (upd H s.heap.objs.size (.lst ys)) { s with heap := s.heap.push { cls := .type "list", data := .seq its.toArray }, toks := t' } :=
  I.laid (fun _ _ q => Heap.get?_push_of_some _ q) (Nat.le_refl _) ⟨hz, its, 0, hv, Heap.get?_push_size _ rfl⟩
theorem Inv.fresh (I : Inv X pins σ H s) : H s.heap.objs.size = none := I.hok.fresh (Nat.le_refl _)
theorem Inv.lstM (I : Inv X pins σ H s) (hH : H l = some (.lst xs)) : xs.length ≤ sizeLine ∧ ∃ (its : List Value) (n : Nat), Vals xs its ∧ xs.length = its.length ∧ s.heap.get? l = some { cls := .type "list", data := .seq its.toArray n } := by
  obtain ⟨z, its, n, r, e⟩ := I.hok l _ hH
  exact ⟨z, its, n, r, r.length, e⟩
theorem notLongL {n : Nat} (h : n ≤ sizeLine) : Builtin.List.listTooLong n = false := by
  unfold Builtin.List.listTooLong
  exact decide_eq_false (by omega)
end
section
variable {X : Cx}
def rAppend : V → List V → Hp → VK → Prop := fun x vs H Q => ∃ l xs y, x = .ref l ∧ vs = [y] ∧ H l = some (.lst xs) ∧ xs.length < sizeLine ∧ Q .non (upd H l (.lst (xs ++ [y])))
theorem mt_append : MtM X "list.append" rAppend := by
  intro pins s σ H x vs v us Q I rx rv h
  obtain ⟨l, xs, y, rfl, rfl, hH, hz, q⟩ := h
  cases rx
  obtain ⟨u, rfl, ru⟩ := rv.one
  obtain ⟨z, its, n, r, hl, e⟩ := I.lstM hH
  refine call_meets F.slot_list_append ⟨_, e, rfl⟩ F.entry_list_append (F.args_list_append_2 _ _) (PySem.list_append l its.toArray n u (by rw [List.size_toArray]; omega)) ⟨e, ?_⟩
  refine ⟨.non, _, I.lset (its' := its ++ [u]) hH e (by simp) (r.append (.cons ru .nil)) ?_, rfl, q⟩
  rw [List.length_append, List.length_singleton]
  omega
def rExtend : V → List V → Hp → VK → Prop := fun x vs H Q => ∃ l b xs zs, x = .ref l ∧ vs = [.ref b] ∧ H l = some (.lst xs) ∧ H b = some (.lst zs) ∧ xs.length + zs.length ≤ sizeLine ∧ Q .non (upd H l (.lst (xs ++ zs)))
theorem mt_extend : MtM X "list.extend" rExtend := by
  intro pins s σ H x vs v us Q I rx rv h
  obtain ⟨l, b, xs, zs, rfl, rfl, hH, hB, hz, q⟩ := h
  cases rx
  obtain ⟨u, rfl, ru⟩ := rv.one
  cases ru
  obtain ⟨z, its, n, r, hl, e⟩ := I.lstM hH
  obtain ⟨z2, its2, n2, r2, hl2, e2⟩ := I.lstM hB
  have hsz : its.toArray.size + its2.toArray.size ≤ sizeLine := by rw [List.size_toArray, List.size_toArray]; omega
  have hlong : ¬ (!its.toArray.isEmpty && Builtin.List.listTooLong (its.toArray.size + its2.toArray.size)) = true := by
    rw [notLongL hsz, Bool.and_false]
    exact Bool.false_ne_true
  refine call_meets F.slot_list_extend ⟨_, e, rfl⟩ F.entry_list_extend (F.args_list_extend_2 _ _)
    (AutoSeq1.list_extend_list_list_0 l its.toArray n b its2.toArray n2 hlong (by rw [List.size_toArray]; omega) (by omega)) ⟨e, e2, ?_⟩
  refine ⟨.non, _, I.lset (its' := its ++ its2) hH e (by simp) (r.append r2) ?_, rfl, q⟩
  rw [List.length_append]
  omega
def rPop : V → List V → Hp → VK → Prop := fun x vs H Q => ∃ l xs y, x = .ref l ∧ vs = [] ∧ H l = some (.lst xs) ∧ xs[xs.length - 1]? = some y ∧ Q y (upd H l (.lst xs.dropLast))
def rPopAt : V → List V → Hp → VK → Prop := fun x vs H Q => ∃ l xs i k y, x = .ref l ∧ vs = [.int i] ∧ H l = some (.lst xs) ∧ -(2 ^ 63) ≤ i ∧ i < 2 ^ 63 ∧ seqIndex? i xs.length = some k ∧ xs[k]? = some y ∧ Q y (upd H l (.lst (xs.eraseIdx k)))
def rReverse : V → List V → Hp → VK → Prop := fun x vs H Q => ∃ l xs, x = .ref l ∧ vs = [] ∧ H l = some (.lst xs) ∧ Q .non (upd H l (.lst xs.reverse))
def rClear : V → List V → Hp → VK → Prop := fun x vs H Q => ∃ l xs, x = .ref l ∧ vs = [] ∧ H l = some (.lst xs) ∧ Q .non (upd H l (.lst []))
def rCat : R2 := fun x y H Q => ∃ l b xs zs, x = .ref l ∧ y = .ref b ∧ H l = some (.lst xs) ∧ H b = some (.lst zs) ∧ xs.length + zs.length ≤ sizeLine ∧ ∀ p, H p = none → Q (.ref p) (upd H p (.lst (xs ++ zs)))
theorem op_cat : OpR X (binaryOp .Add) rCat := by
  intro pins s σ H x y v u Q I rx ry h
  obtain ⟨l, b, xs, zs, rfl, rfl, hH, hB, hz, q⟩ := h
  cases rx
  cases ry
  obtain ⟨z, its, n, r, hl, e⟩ := I.lstM hH
  obtain ⟨z2, its2, n2, r2, hl2, e2⟩ := I.lstM hB
  refine PySem.P.add_list e e2 ?_ (by rw [List.size_toArray, List.size_toArray]; omega)
  have ea : its.toArray ++ its2.toArray = (its ++ its2).toArray := by simp
  rw [ea]
  exact ⟨.ref _, _, I.lnew (t' := s.toks) (r.append r2) (by rw [List.length_append]; omega), rfl, q _ I.fresh⟩
def rRep : R2 := fun x y H Q => ∃ l k xs, x = .ref l ∧ y = .int k ∧ H l = some (.lst xs) ∧ -(2 ^ 63) ≤ k ∧ k < 2 ^ 63 ∧ xs.length * k.toNat ≤ sizeLine ∧
  ∀ p, H p = none → Q (.ref p) (upd H p (.lst (List.replicate k.toNat xs).flatten))
end
section
variable {prog : Program} {w : World} {A : Around} {E : Value → Shared → Prop} {s : Shared}
end
section
variable {X : Cx}
end
end L2
namespace L2
open PySem PySem.Spec PyProof.Rows
theorem Vals.ints : ∀ {ns : List Int} {us : List Value}, Vals (ns.map V.int) us → IntsAre us ns
  | [], us, h => by
    rw [List.map_nil] at h
    cases h
    exact IntsAre.nil
  | n :: ns, us, h => by
    rw [List.map_cons] at h
    cases h with
    | cons r t =>
      obtain ⟨k, rfl⟩ := r
      exact IntsAre.cons n k (Vals.ints t)
theorem vals_of_ints : ∀ {us : List Value} {ns : List Int}, IntsAre us ns → Vals (ns.map V.int) us
  | _, _, .nil => by rw [List.map_nil]; exact Paired.nil
  | _, _, .cons n t h => by rw [List.map_cons]; exact Paired.cons (show RelV (V.int n) (Value.int n t) from ⟨t, rfl⟩) (vals_of_ints h)
theorem Vals.ref1 {a : Addr} {us : List Value} (r : Vals [V.ref a] us) : us = [Value.ref a] := by
  cases r with
  | cons r t =>
    cases t
    cases r
    rfl
section
variable {prog : Program} {w : World} {A : Around} {E : Value → Shared → Prop} {s : Shared} {l : Addr} {its : List Value} {ns : List Int} {Q : Value → Shared → Prop}
end
section
variable {X : Cx}
def rSum (K : PySem.W.Frag) : List V → Hp → VK → Prop := fun vs H Q => ∃ (a : Addr) (ns : List Int), vs = [V.ref a] ∧ SqL K H a (ns.map V.int) ∧ Q (.int ns.sum) H
def rMax (K : PySem.W.Frag) : List V → Hp → VK → Prop := fun vs H Q => ∃ (a : Addr) (ns : List Int), vs = [V.ref a] ∧ SqL K H a (ns.map V.int) ∧ 0 < ns.length ∧ ∀ m, m ∈ ns → (∀ y, y ∈ ns → y ≤ m) → Q (.int m) H
def rMin (K : PySem.W.Frag) : List V → Hp → VK → Prop := fun vs H Q => ∃ (a : Addr) (ns : List Int), vs = [V.ref a] ∧ SqL K H a (ns.map V.int) ∧ 0 < ns.length ∧ ∀ m, m ∈ ns → (∀ y, y ∈ ns → m ≤ y) → Q (.int m) H
def rSorted (K : PySem.W.Frag) : List V → Hp → VK → Prop := fun vs H Q => ∃ (a : Addr) (ns : List Int), vs = [V.ref a] ∧ SqL K H a (ns.map V.int) ∧ ns.length < 64 ∧
  ∀ (ns' : List Int) (p : Addr), ns'.Perm ns → ns'.Pairwise (· ≤ ·) → H p = none → Q (.ref p) (upd H p (.lst (ns'.map V.int)))
def rSortedS (K : PySem.W.Frag) : List V → Hp → VK → Prop := fun vs H Q => ∃ (a : Addr) (xs : List Str), vs = [V.ref a] ∧ SqL K H a (xs.map V.str) ∧ xs.length < 64 ∧
  ∀ (ys : List Str) (p : Addr), ys.Perm xs → sortedS ys = true → H p = none → Q (.ref p) (upd H p (.lst (ys.map V.str)))
theorem small64 {n : Nat} (h : n < 64) : n ≤ sizeLine := by rw [sizeLine_eq]; omega
theorem cr_sorted : CallR X (.builtin "sorted") (rSorted X.K) := by
  intro pins s σ H vs us Q I r h
  obtain ⟨a, ns, rfl, hs, h64, q⟩ := h
  obtain ⟨its, rv, hl, _⟩ := I.list hs
  rw [Vals.ref1 r]
  have hi := rv.ints
  refine PyProof.Rows.sorted_ints hl.isList hi (by rw [hi.length]; exact h64) fun out ns' h1 h2 h3 => ?_
  obtain ⟨ep, he'⟩ := PyProof.Rows.sortedAll_at s.heap its out
  have hlen : (ns'.map V.int).length ≤ sizeLine := by rw [List.length_map, h2.length_eq]; exact small64 h64
  exact ⟨.ref _, upd H (s.heap.objs.size + 1) (.lst (ns'.map V.int)), I.laid (t' := s.toks) (fun _ _ => PyProof.Rows.sortedAll_old) (Nat.le_succ _) ⟨hlen, out.toList, ep, vals_of_ints h1, he'⟩, rfl, q ns' _ h2 h3 (I.hok.fresh (Nat.le_succ _))⟩
def rSort : V → List V → Hp → VK → Prop := fun x xs H Q => ∃ (a : Addr) (ns : List Int), x = V.ref a ∧ xs = [] ∧ H a = some (.lst (ns.map V.int)) ∧ ns.length < 64 ∧
  ∀ ns' : List Int, ns'.Perm ns → ns'.Pairwise (· ≤ ·) → Q .non (upd H a (.lst (ns'.map V.int)))
end
section
variable {X : Cx}
def rIndex (K : PySem.W.Frag) : V → List V → Hp → VK → Prop := fun x xs H Q => ∃ (a : Addr) (ys : List V) (y : V) (j : Nat) (z : V), x = V.ref a ∧ xs = [y] ∧ SqL K H a ys ∧ flatV y = true ∧ ys.all flatV = true ∧ ys[j]? = some z ∧ eqV z y = true ∧
  (∀ (m : Nat) (z' : V), m < j → ys[m]? = some z' → eqV z' y = false) ∧ Q (.int (j : Nat)) H
theorem flat_at {ys : List V} (f : ys.all flatV = true) {j : Nat} {z : V} (h : ys[j]? = some z) : flatV z = true := List.all_eq_true.mp f z (List.mem_of_getElem? h)
theorem mt_index : MtR X "list.index" (rIndex X.K) := by
  intro pins s σ H x xs v us Q I rx rxs h
  obtain ⟨a, ys, y, j, z, rfl, rfl, hs, fy, fys, hz, hzj, hno, q⟩ := h
  cases rx
  cases rxs with
  | cons ry rt =>
    rename_i uy ut
    cases rt
    obtain ⟨its, rv, ⟨⟨cls, dd, data, sl⟩, n, ho, hc, hdn, hd⟩, hlen⟩ := I.list hs
    simp only at hc hd
    subst hc hd
    obtain ⟨u, hu, ru⟩ := rv.get hz
    obtain ⟨hjl, hje⟩ := List.getElem?_eq_some_iff.mp hu
    have hvl := rv.length
    have hj : j < its.toArray.size := by simpa using hjl
    have hsl := sizeLine_eq
    refine call_meets PySem.F.slot_list_index ⟨_, ho, rfl⟩ PySem.F.entry_list_index (PySem.F.args_list_index_2 _ _)
      (SeqAt.list_indexAt a its.toArray n dd sl uy (eqU y) j hj (by omega) ?_ ?_) ⟨ho, fun u' hu' => mem_eqAt ry fy rv fys u' (by simpa using hu'), ?_⟩
    · have e1 : its.toArray[j] = u := by simpa using hje
      rw [e1, eqU_of ru (flat_at fys hz)]
      exact hzj
    · intro m hm hmj
      have hml : m < its.length := by simpa using hm
      have hmy : m < ys.length := by omega
      have hy' : ys[m]? = some ys[m] := List.getElem?_eq_getElem hmy
      obtain ⟨u2, hu2, ru2⟩ := rv.get hy'
      obtain ⟨_, hme⟩ := List.getElem?_eq_some_iff.mp hu2
      have e1 : its.toArray[m] = u2 := by simpa using hme
      rw [e1, eqU_of ru2 (flat_at fys hy')]
      exact hno m _ hmj hy'
    · exact ⟨.int (j : Nat), H, I.tok _, ⟨_, rfl⟩, q⟩
end
section
variable {X : Cx}
end
section
variable {X : Cx}
def rAny (K : PySem.W.Frag) : List V → Hp → VK → Prop := fun vs H Q => ∃ (a : Addr) (bs : List Bool), vs = [V.ref a] ∧ SqL K H a (bs.map V.bl) ∧ Q (.bl (bs.any id)) H
def rAll (K : PySem.W.Frag) : List V → Hp → VK → Prop := fun vs H Q => ∃ (a : Addr) (bs : List Bool), vs = [V.ref a] ∧ SqL K H a (bs.map V.bl) ∧ Q (.bl (bs.all id)) H
end
mutual
inductive Dp (K : PySem.W.Frag) (H : Hp) : V → PyData → Prop
  | non : Dp K H .non .none
  | bl (b : Bool) : Dp K H (.bl b) (.bool b)
  | int (i : Int) : Dp K H (.int i) (.int i)
  | str (x : Str) : Dp K H (.str x) (.str x)
  | lst {a : Addr} {xs : List V} {ds : List PyData} : SqL K H a xs → DpAll K H xs ds → Dp K H (.ref a) (.list ds)
  | tup {a : Addr} {xs : List V} {ds : List PyData} : SqT K H a xs → DpAll K H xs ds → Dp K H (.ref a) (.tuple ds)
inductive DpAll (K : PySem.W.Frag) (H : Hp) : List V → List PyData → Prop
  | nil : DpAll K H [] []
  | cons {v : V} {vs : List V} {d : PyData} {ds : List PyData} : Dp K H v d → DpAll K H vs ds → DpAll K H (v :: vs) (d :: ds)
end
section
variable {X : Cx} {pins : List (Addr × Obj)} {σ : St} {H : Hp} {s : Shared}
mutual
theorem Dp.reads (I : Inv X pins σ H s) : ∀ (d : PyData) (v : V) (u : Value), Dp X.K H v d → RelV v u → ∃ as, Reads s.heap u d as
  | .none, _, _, h, r => by
    cases h
    cases r
    exact ⟨_, Reads.none⟩
  | .bool b, _, _, h, r => by
    cases h
    cases r
    exact ⟨_, Reads.bool b⟩
  | .int i, _, _, h, r => by
    cases h
    obtain ⟨t, rfl⟩ := r
    exact ⟨_, Reads.int i t⟩
  | .str x, _, _, h, r => by
    cases h
    obtain ⟨t, rfl⟩ := r
    exact ⟨_, Reads.str x t⟩
  | .list ds, _, _, h, r => by
    cases h with
    | lst hs ha =>
      cases r
      obtain ⟨its, rv, ⟨o, n, ho, hc, _, hd⟩, _⟩ := I.list hs
      obtain ⟨as, hr⟩ := Dp.readsAll I ds _ its ha rv
      exact ⟨_, Reads.list ho hc hd hr⟩
  | .tuple ds, _, _, h, r => by
    cases h with
    | tup hs ha =>
      cases r
      obtain ⟨its, rv, ⟨o, ho, hc, n, hd⟩, _⟩ := I.tuple hs
      obtain ⟨as, hr⟩ := Dp.readsAll I ds _ its ha rv
      exact ⟨_, Reads.tuple ho hc hd hr⟩
  | .dict _, _, _, h, _ => by cases h
theorem Dp.readsAll (I : Inv X pins σ H s) : ∀ (ds : List PyData) (vs : List V) (us : List Value), DpAll X.K H vs ds → Vals vs us → ∃ as, ReadsAll s.heap us ds as
  | [], _, _, h, r => by
    cases h
    cases r
    exact ⟨_, ReadsAll.nil⟩
  | d :: ds, _, _, h, r => by
    cases h with
    | cons h1 h2 =>
      cases r with
      | cons r1 r2 =>
        obtain ⟨as, q1⟩ := Dp.reads I d _ _ h1 r1
        obtain ⟨bs, q2⟩ := Dp.readsAll I ds _ _ h2 r2
        exact ⟨_, ReadsAll.cons q1 q2⟩
end
end
section
variable {X : Cx}
def rEqD (K : PySem.W.Frag) : R2 := fun x y H Q => ∃ d e, Dp K H x d ∧ Dp K H y e ∧ SeqAt.shaped d = true ∧ SeqAt.shaped e = true ∧ Q (.bl (PyData.eqv d e)) H
def rNeD (K : PySem.W.Frag) : R2 := fun x y H Q => ∃ d e, Dp K H x d ∧ Dp K H y e ∧ SeqAt.shaped d = true ∧ SeqAt.shaped e = true ∧ Q (.bl (!PyData.eqv d e)) H
theorem op_eqD (hu : X.A.units + 64 < cLine) : OpR X (compareOp .Eq) (rEqD X.K) := by
  intro pins s σ H x y v u Q I rx ry h
  obtain ⟨d, e, hd, he, sd, se, q⟩ := h
  obtain ⟨as, r1⟩ := Dp.reads I d x v hd rx
  obtain ⟨bs, r2⟩ := Dp.reads I e y u he ry
  exact SeqAt.compareEq_shaped r1 r2 sd se hu ⟨.bl _, H, I, rfl, q⟩
theorem op_neD (hu : X.A.units + 64 < cLine) : OpR X (compareOp .NotEq) (rNeD X.K) := by
  intro pins s σ H x y v u Q I rx ry h
  obtain ⟨d, e, hd, he, sd, se, q⟩ := h
  obtain ⟨as, r1⟩ := Dp.reads I d x v hd rx
  obtain ⟨bs, r2⟩ := Dp.reads I e y u he ry
  exact SeqAt.compareNe_shaped r1 r2 sd se hu ⟨.bl _, H, I, rfl, q⟩
end
end L2
namespace L2
open PySem PySem.Spec PyProof.Rows
abbrev CellAt (h : Heap) (c : Addr) (v : Option Value) : Prop := h.IsCell c v
def relS (scope sc : Scope) : Scope :=
  { scope with names := scope.names.map fun (n, k) => if (k == .free && sc.kind == .function && sc.names.lookup n == some .cell) then (n, .cell) else (n, k) }
def cloFrom (cells : List (Str × Addr)) : List (Str × NameKind) → List (Str × Addr) → List (Str × Addr)
  | [], acc => acc
  | (n, k) :: r, acc => if k == .free then cloFrom cells r ((n, (cells.lookup n).getD 0) :: acc) else cloFrom cells r acc
theorem closure_loop (env : Env) (f : Str × NameKind → List (Str × Addr) → Sem (ForInStep (List (Str × Addr))))
    (hf : ∀ n k c, f (n, k) c = if k == .free then (do let a ← cellOf env n; pure (.yield ((n, a) :: c))) else pure (.yield c)) :
    ∀ (names : List (Str × NameKind)) (acc : List (Str × Addr)), (∀ y ∈ names, y.2 = .free → ∃ c, env.cells.lookup y.1 = some c) → forIn names acc f = pure (cloFrom env.cells names acc)
  | [], acc, _ => by rw [List.forIn_nil]; rfl
  | (n, k) :: r, acc, h => by
    rw [List.forIn_cons, hf]
    have ih := fun acc => closure_loop env f hf r acc fun y hy => h y (List.mem_cons_of_mem _ hy)
    unfold cloFrom
    by_cases hk : (k == NameKind.free) = true
    · rw [if_pos hk, if_pos hk]
      obtain ⟨c, hc⟩ := h (n, k) List.mem_cons_self (by simpa using hk)
      have e : cellOf env n = pure c := by unfold cellOf; rw [hc]
      rw [e]
      have e2 : (env.cells.lookup n).getD 0 = c := by rw [hc]; rfl
      rw [e2]
      exact ih _
    · rw [if_neg hk, if_neg hk]
      exact ih _
theorem closure_ok {scope : Scope} {env : Env} (h : ∀ y ∈ scope.names, y.2 = .free → ∃ c, env.cells.lookup y.1 = some c) : closureFor scope env = pure (cloFrom env.cells scope.names []) := by
  simp only [closureFor]
  rw [closure_loop env _ (fun n k c => rfl) scope.names [] h]
  rfl
theorem mem_lookup {α : Type} : ∀ {l : List (Str × α)} {n : Str} {c : α}, (n, c) ∈ l → ∃ c', l.lookup n = some c'
  | (k, v) :: r, n, c, h => by
    rw [List.lookup_cons]
    cases hb : n == k with
    | true => exact ⟨_, rfl⟩
    | false =>
      rcases List.mem_cons.mp h with e | h
      · cases e; simp at hb
      · exact mem_lookup h
theorem cloFrom_mem {cells : List (Str × Addr)} : ∀ {names : List (Str × NameKind)} {acc : List (Str × Addr)} {n : Str} {c : Addr}, (n, c) ∈ cloFrom cells names acc → (n, c) ∈ acc ∨ ((n, .free) ∈ names ∧ c = (cells.lookup n).getD 0)
  | [], _, _, _, h => .inl h
  | (m, k) :: r, acc, n, c, h => by
    unfold cloFrom at h
    split at h
    · rename_i hk
      have hk : k = .free := by simpa using hk
      rcases cloFrom_mem h with h | ⟨h1, h2⟩
      · rcases List.mem_cons.mp h with e | h
        · cases e; exact .inr ⟨hk ▸ List.mem_cons_self, rfl⟩
        · exact .inl h
      · exact .inr ⟨List.mem_cons_of_mem _ h1, h2⟩
    · rcases cloFrom_mem h with h | ⟨h1, h2⟩
      · exact .inl h
      · exact .inr ⟨List.mem_cons_of_mem _ h1, h2⟩
theorem cloFrom_acc {cells : List (Str × Addr)} : ∀ {names : List (Str × NameKind)} {acc : List (Str × Addr)} {p : Str × Addr}, p ∈ acc → p ∈ cloFrom cells names acc
  | [], _, _, h => h
  | (m, k) :: r, acc, p, h => by
    unfold cloFrom
    split
    · exact cloFrom_acc (List.mem_cons_of_mem _ h)
    · exact cloFrom_acc h
theorem cloFrom_has {cells : List (Str × Addr)} : ∀ {names : List (Str × NameKind)} {acc : List (Str × Addr)} {n : Str}, (n, .free) ∈ names → (n, (cells.lookup n).getD 0) ∈ cloFrom cells names acc
  | (m, k) :: r, acc, n, h => by
    unfold cloFrom
    rcases List.mem_cons.mp h with e | h
    · cases e
      exact cloFrom_acc List.mem_cons_self
    · split
      · exact cloFrom_has h
      · exact cloFrom_has h
theorem cells_mem : ∀ {names : List (Str × NameKind)} {h : Heap} {acc : List (Str × Addr)} {x : Str} {c : Addr}, (x, c) ∈ cellsFrom h.objs.size names acc →
    (x, c) ∈ acc ∨ ((x, .cell) ∈ names ∧ h.objs.size ≤ c ∧ CellAt (pushCells h names) c none)
  | [], _, _, _, _, h => .inl h
  | (n, k) :: r, h, acc, x, c, hm => by
    unfold cellsFrom at hm
    unfold pushCells
    split at hm
    · rename_i hk
      rw [if_pos hk]
      have hk : k = .cell := by simpa using hk
      rw [← Heap.size_push h { cls := .type "cell", data := .cell none }] at hm
      rcases cells_mem hm with hm | ⟨h1, h2, h3⟩
      · rcases List.mem_cons.mp hm with e | hm
        · cases e
          exact .inr ⟨hk ▸ List.mem_cons_self, Nat.le_refl _, _, pushCells_keeps r _ _ _ (Heap.get?_push_size _ rfl), rfl⟩
        · exact .inl hm
      · rw [Heap.size_push] at h2
        exact .inr ⟨List.mem_cons_of_mem _ h1, Nat.le_of_succ_le h2, h3⟩
    · rename_i hk
      rw [if_neg hk]
      rcases cells_mem hm with hm | ⟨h1, h2, h3⟩
      · exact .inl hm
      · exact .inr ⟨List.mem_cons_of_mem _ h1, h2, h3⟩
theorem cells_acc : ∀ {names : List (Str × NameKind)} {n : Nat} {acc : List (Str × Addr)} {p : Str × Addr}, p ∈ acc → p ∈ cellsFrom n names acc
  | [], _, _, _, h => h
  | (m, k) :: r, n, acc, p, h => by
    unfold cellsFrom
    split
    · exact cells_acc (List.mem_cons_of_mem _ h)
    · exact cells_acc h
theorem cells_has : ∀ {names : List (Str × NameKind)} {n : Nat} {acc : List (Str × Addr)} {x : Str}, (x, .cell) ∈ names → ∃ c, (x, c) ∈ cellsFrom n names acc
  | (m, k) :: r, n, acc, x, h => by
    unfold cellsFrom
    rcases List.mem_cons.mp h with e | h
    · cases e
      exact ⟨n, cells_acc List.mem_cons_self⟩
    · split
      · exact cells_has h
      · exact cells_has h
theorem cells_inj : ∀ {names : List (Str × NameKind)} {h : Heap} {acc : List (Str × Addr)} {x y : Str} {c : Addr}, (∀ p ∈ acc, p.2 < h.objs.size) → (∀ x y c, (x, c) ∈ acc → (y, c) ∈ acc → x = y) →
    (x, c) ∈ cellsFrom h.objs.size names acc → (y, c) ∈ cellsFrom h.objs.size names acc → x = y
  | [], _, _, _, _, _, _, hi, h1, h2 => hi _ _ _ h1 h2
  | (n, k) :: r, h, acc, x, y, c, hl, hi, h1, h2 => by
    unfold cellsFrom at h1 h2
    split at h1
    · rename_i hk
      rw [if_pos hk] at h2
      rw [← Heap.size_push h { cls := .type "cell", data := .cell none }] at h1 h2
      refine cells_inj (h := h.push _) (fun p hp => ?_) (fun x y c a b => ?_) h1 h2
      · rw [Heap.size_push]
        rcases List.mem_cons.mp hp with rfl | hp
        · exact Nat.lt_succ_self _
        · exact Nat.lt_succ_of_lt (hl p hp)
      · rcases List.mem_cons.mp a with e | a <;> rcases List.mem_cons.mp b with e' | b
        · cases e; cases e'; rfl
        · cases e; exact absurd (hl _ b) (Nat.lt_irrefl _)
        · cases e'; exact absurd (hl _ a) (Nat.lt_irrefl _)
        · exact hi _ _ _ a b
    · rename_i hk
      rw [if_neg hk] at h2
      exact cells_inj hl hi h1 h2
theorem newEnv_comp {M : Model} {A : Around} {E : Value → Shared → Prop} {s : Shared} {scope : Scope} {globals : Addr} {closure : List (Str × Addr)} {qual : Str} {func : Option Addr} {code : Value} {around : Env} {builtins : Addr} {Q : Env → Shared → Prop}
    (h : Q (newEnv scope s.heap.objs.size globals (cellsFrom (s.heap.objs.size + 1) scope.names closure) qual func code (some around) builtins)
      { s with heap := pushCells (s.heap.push { cls := .type "dict", data := .dict #[] }) scope.names }) :
    wpAny M A (newFunctionEnv scope globals closure [] qual func code (some around) builtins) Q E s := by
  simp only [newFunctionEnv, Option.isSome_some, if_true]
  refine wpAny_bind (wpAny_alloc ?_)
  refine wpAny_bind (wpAny_layCells _ (fun n k c => rfl) scope.names closure _ _ ?_)
  rw [show ({ s with heap := s.heap.push { cls := .type "dict", data := .dict #[] } } : Shared).heap.objs.size = s.heap.objs.size + 1 from Heap.size_push ..]
  rw [List.forIn_nil]
  exact wpAny_bind (wpAny_pure (wpAny_pure h))
theorem lookup_relS {sc : Scope} : ∀ {names : List (Str × NameKind)} {x : Str} {k : NameKind},
    (names.map fun (n, k) => if (k == NameKind.free && sc.kind == .function && sc.names.lookup n == some .cell) then (n, NameKind.cell) else (n, k)).lookup x = some k →
    ∃ k', names.lookup x = some k' ∧ (k = k' ∨ (k' = .free ∧ k = .cell))
  | [], _, _, h => by simp at h
  | (n, k₀) :: r, x, k, h => by
    have ih := @lookup_relS sc r x k
    have h' : List.lookup x ((if (k₀ == NameKind.free && sc.kind == .function && sc.names.lookup n == some .cell) = true then (n, NameKind.cell) else (n, k₀)) :: (r.map _)) = some k := h
    cases hx : x == n with
    | true =>
      simp only [List.lookup_cons, hx]
      by_cases hc : (k₀ == NameKind.free && sc.kind == .function && sc.names.lookup n == some .cell) = true
      · rw [if_pos hc] at h'
        simp only [List.lookup_cons, hx] at h'
        cases h'
        simp only [Bool.and_eq_true, beq_iff_eq] at hc
        exact ⟨k₀, rfl, .inr ⟨hc.1.1, rfl⟩⟩
      · rw [if_neg hc] at h'
        simp only [List.lookup_cons, hx] at h'
        cases h'
        exact ⟨_, rfl, .inl rfl⟩
    | false =>
      simp only [List.lookup_cons, hx]
      by_cases hc : (k₀ == NameKind.free && sc.kind == .function && sc.names.lookup n == some .cell) = true
      · rw [if_pos hc] at h'
        simp only [List.lookup_cons, hx] at h'
        exact ih h'
      · rw [if_neg hc] at h'
        simp only [List.lookup_cons, hx] at h'
        exact ih h'
structure BlkOk (N : List Str) (sc scope : Scope) (own : List (Str × Nat)) : Prop where
  kind : scope.kind = .function
  uniq : ∀ y ∈ scope.names, scope.names.lookup y.1 = some y.2
  ix : ∀ p ∈ own, N[p.2]? = some p.1
  free : ∀ y ∈ scope.names, y.2 = .free → sc.names.lookup y.1 = some .cell ∨ sc.names.lookup y.1 = some .free
  own : ∀ y ∈ scope.names, y.2 = .local ∨ y.2 = .cell → y.1 ∈ own.map (·.1) ∨ y.1 ∉ N
def wipe (σ : St) : List Nat → St
  | [] => σ
  | v :: vs => (wipe σ vs).set v none
theorem wipe_length (σ : St) : ∀ vs : List Nat, (wipe σ vs).length = σ.length
  | [] => rfl
  | v :: vs => by unfold wipe; rw [List.length_set, wipe_length σ vs]
theorem wipe_some {σ : St} {i : Nat} {x : V} : ∀ {vs : List Nat}, (wipe σ vs)[i]? = some (some x) → σ[i]? = some (some x) ∧ i ∉ vs
  | [], h => ⟨h, by simp⟩
  | v :: vs, h => by
    unfold wipe at h
    by_cases hi : v = i
    · subst hi
      by_cases hv : v < (wipe σ vs).length
      · rw [List.getElem?_set_self hv] at h; cases h
      · rw [List.getElem?_eq_none (by simpa using hv)] at h; cases h
    · rw [List.getElem?_set_ne hi] at h
      obtain ⟨h1, h2⟩ := wipe_some h
      exact ⟨h1, by simp only [List.mem_cons, not_or]; exact ⟨fun e => hi e.symm, h2⟩⟩
abbrev Cx.blk (X : Cx) (s : Shared) (H : Hp) (scope : Scope) (cenv : Env) (fp : List Addr) : Cx := { X with s_0 := s, H_0 := H, env := cenv, outer := X.stack, ex := fp, fn := fun x => scope.names.lookup x == some .cell, pn := [], xe := fun _ _ => False }
section
variable {X : Cx} {pins : List (Addr × Obj)} {σ : St} {H : Hp} {s : Shared}
theorem block_start {scope : Scope} {own : List (Str × Nat)} {fp : List Addr} (I : Inv X pins σ H s) (ok : BlkOk X.N X.env.scope scope own) (hN : X.N.Nodup) (hfp : ∀ b ∈ fp, FpOk X pins H b ∧ b < s.heap.objs.size) :
    Inv (X.blk s H scope (compEnvC scope (cellsFrom (s.heap.objs.size + 1) scope.names (cloFrom X.env.cells scope.names [])) s.heap.objs.size X.env) fp) [] (wipe σ (own.map (·.2))) H { s with heap := pushCells (s.heap.push { cls := .type "dict", data := .dict #[] }) scope.names } := by
  have hfree : ∀ y ∈ scope.names, y.2 = .free → ∃ c, X.env.cells.lookup y.1 = some c := fun y hy e => by
    rcases ok.free y hy e with k | k
    · exact I.ok.has _ (.inl k)
    · exact I.ok.has _ (.inr k)
  generalize hcenv : compEnvC scope (cellsFrom (s.heap.objs.size + 1) scope.names (cloFrom X.env.cells scope.names [])) s.heap.objs.size X.env = cenv
  have kp : ∀ b o, s.heap.get? b = some o → (pushCells (s.heap.push { cls := .type "dict", data := .dict #[] }) scope.names).get? b = some o := fun b o e => pushCells_keeps _ _ _ _ (Heap.get?_push_of_some _ e)
  have hL : cenv.locals = s.heap.objs.size := by rw [← hcenv]; rfl
  have hcl : cenv.cells = cellsFrom (s.heap.objs.size + 1) scope.names (cloFrom X.env.cells scope.names []) := by rw [← hcenv]; rfl
  have hsc : cenv.scope = relS scope X.env.scope := by rw [← hcenv]; rfl
  rw [← Heap.size_push s.heap { cls := .type "dict", data := .dict #[] }] at hcl
  have cm : ∀ {y c}, (y, c) ∈ cloFrom X.env.cells scope.names [] → X.env.cells.lookup y = some c ∧ c < s.heap.objs.size := fun {y c} hm => by
    rcases cloFrom_mem hm with hm | ⟨h1, rfl⟩
    · cases hm
    · obtain ⟨c, hc⟩ := hfree _ h1 rfl
      rw [hc]
      obtain ⟨w, z⟩ := I.cell _ _ hc
      exact ⟨rfl, z.lt⟩
  have mem : ∀ {y c}, cenv.cells.lookup y = some c → (X.env.cells.lookup y = some c ∧ c < s.heap.objs.size) ∨ (s.heap.objs.size + 1 ≤ c ∧ CellAt (pushCells (s.heap.push { cls := .type "dict", data := .dict #[] }) scope.names) c none) := fun {y c} e => by
    rw [hcl] at e
    rcases cells_mem (PySem.mem_of_lookup e) with hm | ⟨_, h2, h3⟩
    · exact .inl (cm hm)
    · rw [Heap.size_push] at h2; exact .inr ⟨h2, h3⟩
  have look : ∀ {y}, scope.names.lookup y = some .free → ∃ c, cenv.cells.lookup y = some c ∧ X.env.cells.lookup y = some c := fun {y} hl => by
    have hy : (y, NameKind.free) ∈ scope.names := PySem.mem_of_lookup hl
    obtain ⟨c', e'⟩ := mem_lookup (cells_acc (names := scope.names) (n := (s.heap.push { cls := .type "dict", data := .dict #[] }).objs.size) (cloFrom_has (cells := X.env.cells) (acc := []) hy))
    rw [← hcl] at e'
    refine ⟨c', e', ?_⟩
    rw [hcl] at e'
    rcases cells_mem (PySem.mem_of_lookup e') with hm | ⟨h1, _, _⟩
    · exact (cm hm).1
    · have := ok.uniq _ h1
      rw [hl] at this; cases this
  have okB : (X.blk s H scope cenv fp).Ok := by
    refine ⟨I.ok.mod, by show cenv.scope.kind = _; rw [hsc]; exact ok.kind, by show cenv.globals = _; rw [← hcenv]; exact I.ok.glob, by show cenv.builtins = _; rw [← hcenv]; exact I.ok.blt, by show s.heap.objs.size ≤ cenv.locals; rw [hL]; exact Nat.le_refl _,
      fun y z c e1 e2 => ?_, fun y hy => ?_, fun y c z e => ?_, I.ok.hd, I.ok.frames, .inl rfl, fun b hb => ⟨?_, fun y c e z => ?_⟩, I.bs, Nat.le_trans I.ok.bsz I.sz, fun b o e hb => ?_, fun b hb z => ?_, I.stack, I.stkFree⟩
    · have e1 : cenv.cells.lookup y = some c := e1
      have e2 : cenv.cells.lookup z = some c := e2
      rw [hcl] at e1 e2
      refine cells_inj (fun p hp => ?_) (fun y z c a b => I.ok.inj y z c (cm a).1 (cm b).1) (PySem.mem_of_lookup e1) (PySem.mem_of_lookup e2)
      rw [Heap.size_push]
      exact Nat.lt_succ_of_lt (cm (y := p.1) (c := p.2) hp).2
    · show ∃ c, cenv.cells.lookup y = some c
      have key : ∀ k, cenv.kindOf y = some k → (k = .cell ∨ k = .free) → ∃ c, cenv.cells.lookup y = some c := fun k hk hk' => by
        unfold Env.kindOf at hk
        rw [hsc] at hk
        obtain ⟨k', e, r⟩ := lookup_relS hk
        have : k' = .cell ∨ k' = .free := by
          rcases r with rfl | ⟨rfl, _⟩
          · exact hk'
          · exact .inr rfl
        rcases this with rfl | rfl
        · obtain ⟨c, hm⟩ := cells_has (n := (s.heap.push { cls := .type "dict", data := .dict #[] }).objs.size) (acc := cloFrom X.env.cells scope.names []) (PySem.mem_of_lookup e)
          obtain ⟨c', e'⟩ := mem_lookup hm
          exact ⟨c', by rw [hcl]; exact e'⟩
        · obtain ⟨c, h1, _⟩ := look e
          exact ⟨c, h1⟩
      rcases hy with hy | hy
      · exact key _ hy (.inl rfl)
      · exact key _ hy (.inr rfl)
    · have z : (scope.names.lookup y == some NameKind.cell) = true := z
      have z : scope.names.lookup y = some .cell := by simpa using z
      have e : cenv.cells.lookup y = some c := e
      rw [hcl] at e
      rcases cells_mem (PySem.mem_of_lookup e) with hm | ⟨_, h2, _⟩
      · rcases cloFrom_mem hm with hm | ⟨h1, _⟩
        · cases hm
        · have q := ok.uniq _ h1
          rw [z] at q; cases q
      · rw [Heap.size_push] at h2
        exact Nat.le_of_succ_le h2
    · show b ≠ cenv.locals
      rw [hL]; exact Nat.ne_of_lt (hfp b hb).2
    · have e : cenv.cells.lookup y = some c := e
      rcases mem e with ⟨h1, _⟩ | ⟨h1, _⟩
      · exact (hfp b hb).1.2.2.2.2.1 y c h1 z
      · have h2 : s.heap.objs.size + 1 ≤ b := by rw [← z]; exact h1
        exact absurd (Nat.lt_of_lt_of_le (hfp b hb).2 (Nat.le_of_succ_le h2)) (Nat.lt_irrefl _)
    · rcases (hfp b hb).1.2.2.2.1 with z | z
      · exact I.ok.noex b o e z
      · exact absurd (Nat.lt_of_lt_of_le (Heap.lt_size e) (Nat.le_trans I.ok.bsz z)) (Nat.lt_irrefl _)
    · rcases List.mem_cons.mp (I.stkSub b z) with z | z
      · exact (hfp b hb).1.2.1 z
      · exact (hfp b hb).1.2.2.1 z
  refine ⟨okB, rfl, I.bare, Un.kept kp, ⟨fun _ => none, ?_, fun i y av e1 e2 e3 => ?_⟩, fun y c e => ?_, ?_, fun y c e => ?_, fun p hp => ?_, I.hok.kept kp, by rw [wipe_length]; exact I.len⟩
  · show Heap.Ns _ cenv.locals _
    rw [hL]
    exact Heap.Ns.keeps (Heap.Ns.new ..) fun b o e => pushCells_keeps _ _ _ _ e
  · obtain ⟨e2, hne⟩ := wipe_some e2
    have hfr : scope.names.lookup y = some .free ∧ (cenv.kindOf y = some .cell ∨ cenv.kindOf y = some .free) := by
      have key : ∀ k, cenv.scope.names.lookup y = some k → k = .local ∨ k = .cell ∨ k = .free → scope.names.lookup y = some .free ∧ (cenv.kindOf y = some .cell ∨ cenv.kindOf y = some .free) := fun k hk hk' => by
        have hk0 := hk
        rw [hsc] at hk
        obtain ⟨k', e, r⟩ := lookup_relS hk
        have no : ¬ (k' = .local ∨ k' = .cell) := fun hh => by
          rcases ok.own _ (PySem.mem_of_lookup e) hh with e' | e'
          · obtain ⟨p, hp, hpy⟩ := List.mem_map.mp e'
            have e3 := ok.ix p hp
            have : p.1 = y := hpy
            rw [this] at e3
            exact hne (List.mem_map.mpr ⟨p, hp, nodup_ix hN e3 e1⟩)
          · exact e' (List.mem_of_getElem? e1)
        rcases r with rfl | ⟨rfl, rfl⟩
        · rcases hk' with rfl | rfl | rfl
          · exact absurd (.inl rfl) no
          · exact absurd (.inr rfl) no
          · exact ⟨e, .inr hk0⟩
        · exact ⟨e, .inl hk0⟩
      have e3 : Vis cenv.scope y := e3
      rcases e3 with e3 | e3 | e3
      · exact key _ e3 (.inl rfl)
      · exact key _ e3 (.inr (.inl rfl))
      · exact key _ e3 (.inr (.inr rfl))
    obtain ⟨m, hn, hl⟩ := I.loc
    have hvis : Vis X.env.scope y := (ok.free _ (PySem.mem_of_lookup hfr.1) rfl).elim (fun k => .inr (.inl k)) (fun k => .inr (.inr k))
    obtain ⟨w, r, q⟩ := hl i y av e1 e2 hvis
    refine ⟨w, r, .inr ⟨hfr.2, ?_⟩⟩
    obtain ⟨c, h1, h2⟩ := look hfr.1
    rcases q with ⟨k, _⟩ | ⟨_, c', e', z⟩
    · have k : X.env.scope.names.lookup y = some .local := k
      rcases ok.free _ (PySem.mem_of_lookup hfr.1) rfl with k' | k' <;> rw [show X.env.scope.names.lookup y = _ from k'] at k <;> cases k
    · rw [h2] at e'; cases e'
      exact ⟨c, h1, z.keeps kp⟩
  · have e : cenv.cells.lookup y = some c := e
    rcases mem e with ⟨h1, _⟩ | ⟨_, z⟩
    · obtain ⟨w, z⟩ := I.cell y c h1
      exact ⟨w, z.keeps kp⟩
    · exact ⟨_, z⟩
  · show H cenv.locals = none
    rw [hL]; exact I.hok.fresh (Nat.le_refl _)
  · have e : cenv.cells.lookup y = some c := e
    rcases mem e with ⟨h1, _⟩ | ⟨h1, _⟩
    · exact I.freeC y c h1
    · exact I.hok.fresh (Nat.le_of_succ_le h1)
  · exact absurd (show p ∈ ([] : List (Addr × Obj)) ++ [] from hp) (by simp)
theorem app_ok {E : Value → Shared → Prop} {D : Addr} {xs : List V} {y : V} {v : Value} {Q : Value → Shared → Prop} (I : Inv X pins σ H s) (hD : H D = some (.lst xs)) (hz : xs.length < sizeLine) (r : RelV y v)
    (h : ∀ s', Inv X pins σ (upd H D (.lst (xs ++ [y]))) s' → Q .none s') : wpAny (model X.prog X.w) X.A (call (.builtin "list.append") [.ref D, v]) Q E s := by
  obtain ⟨hz', its, n, ri, e⟩ := I.hok D _ hD
  have hl := ri.length
  refine append_at (hsz := by rw [List.size_toArray]; omega) e fun h' sb ho' => ?_
  refine h { s with heap := h' } (I.write (t' := s.toks) (by rw [hD]; trivial) (.inl rfl) (fun b u hb q => (sb.2 b hb).trans q) ⟨_, ho'⟩ ⟨by rw [List.length_append]; exact hz, its ++ [v], n + 1, ri.append (.cons r .nil), ?_⟩)
  rw [ho']
  simp
def PTs (X : Cx) (ifs : List Expr) (t : TT) : Prop :=
  ∀ (pins : List (Addr × Obj)) (s : Shared) (σ : St) (H : Hp) (Q : Bool → Hp → Prop), Inv X pins σ H s → t σ H Q →
    wpAny (model X.prog X.w) X.A (forIn ifs true fun c r => if r = true then do let ok ← isTrue c X.env (eval c X.env); pure (ForInStep.yield ok) else pure (ForInStep.yield r)) (TP X pins σ Q) X.xe s
def tYes : TT := fun _ H Q => Q true H
theorem pts_nil : PTs X [] tYes := fun _ _ _ H _ I h => wpAny_tests_nil ⟨H, I, h⟩
theorem pts_one {c : Expr} {t : TT} (h : PT X c t) : PTs X [c] t := fun pins s σ H Q I hw => wpAny_tests_one (h pins s σ H Q I hw)
end
theorem thnF {α : Type} {t : Sem α} {Q Q' : α → Shared → Prop} {M : Model} {A : Around} {E : Value → Shared → Prop} {s : Shared} (h : wpAny M A t Q (fun _ _ => False) s) (hQ : ∀ a s, Q a s → Q' a s) : wpAny M A t Q' E s := wpAny_mono h hQ fun _ _ z => False.elim z
theorem compLoop_any {prog : Program} {w : World} {A : Around} {R : Result → Shared → Prop} {s : Shared} {elt target iter : Expr} {ifs : List Expr} {scope : Scope} {pos : Pos} {it acc : Value} {env : Env} (I : Nat → Shared → Prop)
    (turn : ∀ n s, I n s → wpAny (model prog w) A (pyNext it) (fun r s₁ => match r with
      | none => R (.ok .next) s₁
      | some v => wpAny (model prog w) A (letOwnedTupleGo target it v) (fun _ s₁' => wpAny (model prog w) A (assign target env v) (fun _ s₂ =>
          wpAny (model prog w) A (forIn ifs true fun c r => if r = true then do let ok ← isTrue c env (eval c env); pure (ForInStep.yield ok) else pure (ForInStep.yield r)) (fun ok s₃ =>
            if ok = true then wpAny (model prog w) A (eval elt env) (fun x s₄ =>
              wpAny (model prog w) A (call (.builtin "list.append") [acc, x]) (fun _ s₅ => ∃ m, m < n ∧ I m s₅) (notedBy (model prog w) A env fun e s' => R (.error e) s') s₄) (notedBy (model prog w) A env fun e s' => R (.error e) s') s₃
            else ∃ m, m < n ∧ I m s₃) (notedBy (model prog w) A env fun e s' => R (.error e) s') s₂) (notedBy (model prog w) A env fun e s' => R (.error e) s') s₁') (notedBy (model prog w) A env fun e s' => R (.error e) s') s₁) (notedBy (model prog w) A env fun e s' => R (.error e) s') s)
    (n : Nat) (h : I n s) :
    codeAny (model prog w) A (.compLoop (.ListComp elt [⟨target, iter, ifs, 0⟩] scope pos) 0 it acc env) R s := by
  refine codeAny_loop rfl I (fun n s hI => ?_) n h
  show wpAny _ A ((compTurn (.ListComp elt [⟨target, iter, ifs, 0⟩] scope pos) 0 it acc env).onRaise (fun x => do noteFrame x env; theTreesLotGoes x)) _ _ s
  refine wpAny_noted ?_
  rw [compTurn_list]
  refine wpAny_bind (wpAny_standAt (wpAny_bind (wpAny_mono (turn n s hI) (fun r s₁ h₁ => ?_) fun _ _ h' => h')))
  cases r with
  | none => exact wpAny_pure h₁
  | some v =>
    refine wpAny_bind (wpAny_mono h₁ (fun _ s₁' h₁' => ?_) fun _ _ h' => h')
    refine wpAny_bind (wpAny_mono h₁' (fun _ s₂ h₂ => wpAny_bind (wpAny_mono h₂ (fun ok s₃ h₃ => ?_) fun _ _ h' => h')) fun _ _ h' => h')
    cases ok with
    | false => exact wpAny_pure ⟨rfl, h₃⟩
    | true =>
      exact wpAny_bind (wpAny_bind (wpAny_mono h₃ (fun x s₄ h₄ => wpAny_bind (wpAny_mono h₄ (fun _ s₅ h₅ => wpAny_pure (wpAny_pure ⟨rfl, h₅⟩)) fun _ _ h' => h')) fun _ _ h' => h'))
section
variable {X : Cx}
def tLc (wi : TI) (g : TG) (tt : TT) (te : TE) (vs : List Nat) : TE := fun σ H Q => wi σ H fun J H1 => ∀ D, H1 D = none → ∃ W : Nat → Nat → Hp → Prop, (∃ m, W 0 m (upd H1 D (.lst []))) ∧ ∀ i m H, W i m H →
  (J.stop i H ∧ Q (.ref D) H) ∨ (J.go i H ∧ ∃ Nx : Hp → Prop, (∀ H', Nx H' → ∃ m', m' < m ∧ W (i + 1) m' H') ∧ ∀ x H', J.yld i H x H' → g x (wipe σ vs) H' fun σ2 H2 => wipe σ2 vs = wipe σ vs ∧ tt σ2 H2 fun b H3 =>
    if b = true then te σ2 H3 fun y H4 => ∃ acc, H4 D = some (.lst acc) ∧ acc.length < sizeLine ∧ Nx (upd H4 D (.lst (acc ++ [y]))) else Nx H3)
theorem lc_core {pins : List (Addr × Obj)} {s : Shared} {σ : St} {H : Hp} {Q : VK} {elt tg iter : Expr} {ifs : List Expr} {scope : Scope} {own : List (Str × Nat)} {pos pos' : Pos} {wi : TI} {g : TG} {tt : TT} {te : TE} {use : Option (Value → Sem Unit)} {Qf : Value → Shared → Prop}
    (hc : X.calm = true) (hN : X.N.Nodup) (I : Inv X pins σ H s) (hi : PI X tg iter wi) (ok : BlkOk X.N X.env.scope scope own)
    (hg : ∀ (s : Shared) (H : Hp) (C : Addr) (cl : List (Str × Addr)) (fp : List Addr), PG (X.blk s H scope (compEnvC scope cl C X.env) fp) tg g) (ht : ∀ (s : Shared) (H : Hp) (C : Addr) (cl : List (Str × Addr)) (fp : List Addr), PTs (X.blk s H scope (compEnvC scope cl C X.env) fp) ifs tt)
    (he : ∀ (s : Shared) (H : Hp) (C : Addr) (cl : List (Str × Addr)) (fp : List Addr), PE (X.blk s H scope (compEnvC scope cl C X.env) fp) elt te) (hs : ∀ x, foldedSetIterable iter X.env x = pure x)
    (h : tLc wi g tt te (own.map (·.2)) σ H Q)
    (hRR : ∀ D C s' m H', Inv X pins σ H' s' → Q (.ref D) H' → s'.heap.Ns C m → FpOk X pins H' C → compPost (model X.prog X.w) X.A X.xe use Qf (.ref D) C (.ok .next) s') :
    wpAny (model X.prog X.w) X.A (comprehension (.ListComp elt [⟨tg, iter, ifs, 0⟩] scope pos) scope X.env pos' (newList []) false (eval iter X.env) use) Qf X.xe s := by
  have hfree : ∀ y ∈ scope.names, y.2 = .free → ∃ c, X.env.cells.lookup y.1 = some c := fun y hy e => by
    rcases ok.free y hy e with k | k
    · exact I.ok.has _ (.inl k)
    · exact I.ok.has _ (.inr k)
  refine wpAny_comprehension_free (use := use) rfl hs (closure_ok hfree) ok.kind (fun y hy e => by rw [ok.uniq y hy, e])
    (thn (hi pins s σ H _ I h) fun xv s1 hx => thn hx fun itv s2 h2 => ?_)
  obtain ⟨it, fp, tn, J, H2, e, I2, T, st2, f2, q⟩ := h2
  subst e
  refine wpAny_newObj_type (newEnv_comp ?_) (by show 0 ≤ sizeLine; decide)
  generalize hD : s2.heap.objs.size = D
  have hDn : H2 D = none := I2.hok.fresh (Nat.le_of_eq hD)
  obtain ⟨W, ⟨m0, w0⟩, turn⟩ := q D hDn
  -- the new list
  generalize hs3 : ({ s2 with heap := s2.heap.push { cls := .type "list", data := .seq ([] : List Value).toArray } } : Shared) = s3
  have I3 : Inv X pins σ (upd H2 D (.lst [])) s3 := by
    rw [← hs3]
    refine I2.laid (t' := s2.toks) (fun b o e => Heap.get?_push_of_some _ e) (Nat.le_of_eq hD) ⟨Nat.zero_le _, [], 0, .nil, ?_⟩
    rw [← hD]
    exact Heap.get?_push_size _ rfl
  have h3 : s3.heap = s2.heap.push { cls := .type "list", data := .seq ([] : List Value).toArray } := by rw [← hs3]
  have sz : ∀ b ∈ fp, b < s2.heap.objs.size := fun b hb => by
    obtain ⟨o, e, _⟩ := T.obj _ _ st2 b hb
    exact Heap.lt_size e
  have f3 : ∀ b ∈ fp, FpOk X pins (upd H2 D (.lst [])) b ∧ b < s3.heap.objs.size := fun b hb => by
    have hlt := sz b hb
    refine ⟨⟨?_, (f2 b hb).2⟩, by rw [h3, Heap.size_push]; exact Nat.lt_succ_of_lt hlt⟩
    rw [upd_ne (by rw [← hD]; exact Nat.ne_of_lt hlt)]
    exact (f2 b hb).1
  have st3 : tn 0 s3.heap := T.keep _ _ _ st2 fun b _ o e => by rw [h3]; exact Heap.get?_push_of_some _ e
  have I4 := block_start I3 ok hN f3
  have pg := hg s3 (upd H2 D (.lst [])) s3.heap.objs.size (cellsFrom (s3.heap.objs.size + 1) scope.names (cloFrom X.env.cells scope.names [])) fp
  have pt := ht s3 (upd H2 D (.lst [])) s3.heap.objs.size (cellsFrom (s3.heap.objs.size + 1) scope.names (cloFrom X.env.cells scope.names [])) fp
  have pe := he s3 (upd H2 D (.lst [])) s3.heap.objs.size (cellsFrom (s3.heap.objs.size + 1) scope.names (cloFrom X.env.cells scope.names [])) fp
  show codeAny _ _ (.compStart (.ListComp elt [⟨tg, iter, ifs, 0⟩] scope pos) 0 (.ref it) (.ref D) (compEnvC scope (cellsFrom (s3.heap.objs.size + 1) scope.names (cloFrom X.env.cells scope.names [])) s3.heap.objs.size X.env)) (compPost (model X.prog X.w) X.A X.xe use Qf (.ref D) s3.heap.objs.size) { s3 with heap := pushCells (s3.heap.push { cls := .type "dict", data := .dict #[] }) scope.names }
  have nfp : ∀ b ∈ fp, (upd H2 D (.lst [])) b = none := fun b hb => (f3 b hb).1.1
  generalize hce : compEnvC scope (cellsFrom (s3.heap.objs.size + 1) scope.names (cloFrom X.env.cells scope.names [])) s3.heap.objs.size X.env = ce at I4 pg pt pe ⊢
  have cL : ce.locals = s3.heap.objs.size := by subst hce; rfl
  generalize hH3 : upd H2 D (.lst []) = H3 at I3 I4 pg pt pe w0 nfp f3
  generalize hs4 : ({ s3 with heap := pushCells (s3.heap.push { cls := .type "dict", data := .dict #[] }) scope.names } : Shared) = s4 at I4 ⊢
  have st4 : tn 0 s4.heap := T.keep _ _ _ st3 fun b _ o e => by rw [← hs4]; exact pushCells_keeps _ _ _ _ (Heap.get?_push_of_some _ e)
  have stat : ∀ {σ' : St} {H' : Hp} {s' : Shared}, Inv (X.blk s3 H3 scope ce fp) [] σ' H' s' → (∀ b ∈ fp, H' b = none) → ∀ b ∈ fp, FpOk (X.blk s3 H3 scope ce fp) [] H' b := fun {σ' H' s'} I' hn b hb =>
    ⟨hn b hb, (I'.ok.exf b hb).1, I'.ok.exfs b hb, .inl hb, fun x c e => (I'.ok.exf b hb).2 x c e, fun p hp => absurd (show p ∈ ([] : List (Addr × Obj)) ++ [] from hp) (by simp)⟩
  have loop : codeAny (model X.prog X.w) X.A (.compLoop (.ListComp elt [⟨tg, iter, ifs, 0⟩] scope pos) 0 (.ref it) (.ref D) ce) (compPost (model X.prog X.w) X.A X.xe use Qf (.ref D) s3.heap.objs.size) s4 := by
    refine compLoop_any (fun n s' => ∃ i H', Inv (X.blk s3 H3 scope ce fp) [] (wipe σ (own.map (·.2))) H' s' ∧ tn i s'.heap ∧ (∀ b ∈ fp, H' b = none) ∧ W i n H') ?_ m0 ⟨0, H3, I4, st4, nfp, w0⟩
    rintro n s5 ⟨i, H5, I5, st5, n5, w5⟩
    rcases turn i n H5 w5 with ⟨stop, qq⟩ | ⟨go, Nx, hNx, step⟩
    · have td := T.done (X.blk s3 H3 scope ce fp) rfl rfl rfl hc i [] s5 _ H5 (fun _ _ => False) I5 (stat I5 n5) st5 stop
      refine thnF td fun r s6 ⟨hr, I6⟩ => ?_
      subst hr
      -- back in the def's context
      have I7 : Inv X pins σ H5 s6 := I3.call' (ch := fp) I6.os I6.base I6.hok I6.bare fun b hb => ⟨(f3 b hb).1.2.2.2.1, (f3 b hb).1.2.1, (f3 b hb).1.2.2.2.2.1, (f3 b hb).1.2.2.2.2.2⟩
      have nC : H5 s3.heap.objs.size = none := by
        have z : H5 ce.locals = none := I6.free
        rw [cL] at z
        exact z
      obtain ⟨m, hn, _⟩ := I6.loc
      have hn : s6.heap.Ns ce.locals m := hn
      rw [cL] at hn
      exact hRR D s3.heap.objs.size s6 m H5 I7 qq hn (I3.fpOk (Nat.le_refl _) nC)
    · have ti := T.item (X.blk s3 H3 scope ce fp) rfl rfl rfl hc i [] s5 _ H5 (fun _ _ => False) I5 (stat I5 n5) st5 go
      refine thnF ti fun r s6 ⟨u, hr, h6⟩ => ?_
      subst hr
      refine thnF h6 fun _ s7 ⟨x, H7, I7, r7, y7, st7, n7⟩ => ?_
      have I7' := I7.pinned (stat I7 n7) (T.obj _ _ st7)
      refine thnF (pg _ s7 _ H7 x u _ I7' r7 (step x H7 y7)) fun _ s8 ⟨σ8, H8, I8, hw8, q8⟩ => ?_
      refine thnF (pt _ s8 σ8 H8 _ I8 q8) fun b s9 ⟨H9, I9, q9⟩ => ?_
      -- the turn's end
      have fin : ∀ {s' : Shared} {H' : Hp}, Inv (X.blk s3 H3 scope ce fp) ([] ++ pinsAt fp s7.heap) σ8 H' s' → Nx H' → ∃ m, m < n ∧ ∃ i H', Inv (X.blk s3 H3 scope ce fp) [] (wipe σ (own.map (·.2))) H' s' ∧ tn i s'.heap ∧ (∀ b ∈ fp, H' b = none) ∧ W i m H' := fun {s' H'} I' nx => by
        obtain ⟨m', hm, w'⟩ := hNx H' nx
        have pin' : ∀ b ∈ fp, ∀ o, s7.heap.get? b = some o → s'.heap.get? b = some o ∧ H' b = none := fun b hb o e =>
          let z := I'.pin (b, o) (List.mem_append_right _ (List.mem_append_right _ (mem_pinsAt hb e)))
          ⟨z.1, z.2.1⟩
        have hl : (wipe σ (own.map (·.2))).length = σ8.length := by rw [← hw8, wipe_length]
        refine ⟨m', hm, i + 1, H', (I'.unpinned (pins := [])).weak hl (fun j v e => ?_), T.keep _ _ _ st7 fun b hb o e => (pin' b hb o e).1, fun b hb => ?_, w'⟩
        · rw [← hw8] at e
          exact (wipe_some e).1
        · obtain ⟨o, e, _⟩ := T.obj _ _ st7 b hb
          exact (pin' b hb o e).2
      cases b with
      | false =>
        simp only [Bool.false_eq_true, if_false] at q9 ⊢
        exact fin I9 q9
      | true =>
        simp only [if_true] at q9 ⊢
        refine thnF (pe _ s9 σ8 H9 _ I9 q9) fun z s10 ⟨yv, H10, I10, r10, acc, hD10, hz10, nx⟩ => ?_
        exact app_ok (X := X.blk s3 H3 scope ce fp) I10 hD10 hz10 r10 fun s11 I11 => fin I11 nx
  exact codeAny_compStart_list loop (T.self X.A 0 _ _ _ st4 loop)
theorem pe_lc {elt tg iter : Expr} {ifs : List Expr} {scope : Scope} {own : List (Str × Nat)} {pos : Pos} {wi : TI} {g : TG} {tt : TT} {te : TE} (hc : X.calm = true) (hN : X.N.Nodup) (hi : PI X tg iter wi) (ok : BlkOk X.N X.env.scope scope own)
    (hg : ∀ (s : Shared) (H : Hp) (C : Addr) (cl : List (Str × Addr)) (fp : List Addr), PG (X.blk s H scope (compEnvC scope cl C X.env) fp) tg g) (ht : ∀ (s : Shared) (H : Hp) (C : Addr) (cl : List (Str × Addr)) (fp : List Addr), PTs (X.blk s H scope (compEnvC scope cl C X.env) fp) ifs tt)
    (he : ∀ (s : Shared) (H : Hp) (C : Addr) (cl : List (Str × Addr)) (fp : List Addr), PE (X.blk s H scope (compEnvC scope cl C X.env) fp) elt te) (hs : ∀ x, foldedSetIterable iter X.env x = pure x := by intro _; rfl) :
    PE X (.ListComp elt [⟨tg, iter, ifs, 0⟩] scope pos) (tLc wi g tt te (own.map (·.2))) := by
  intro pins s σ H Q I h
  rw [eval_ListComp]
  refine lc_core hc hN I hi ok hg ht he hs h fun D C s' m H' I' q hn f => ⟨m, hn, fun h'' sb => ?_⟩
  obtain ⟨f0, f1, f2, f3, f4, f5⟩ := f
  exact ⟨.ref D, H', I'.turned (t' := s'.toks) (fun b o hb e => (sb.2 b hb).trans e) f0 f1 f3 f4 f5, rfl, q⟩
theorem ps_setLc {i : Nat} {y : Str} {py : Pos} {elt tg iter : Expr} {ifs : List Expr} {scope : Scope} {own : List (Str × Nat)} {pos spos : Pos} {wi : TI} {g : TG} {tt : TT} {te : TE} (hc : X.calm = true) (hN : X.N.Nodup) (hy : X.N[i]? = some y) (hyl : X.env.scope.names.lookup y = some .local)
    (hsw : swapsWith (.ListComp elt [⟨tg, iter, ifs, 0⟩] scope pos) (some (.Name y py)) spos.line X.env = pure true) (hi : PI X tg iter wi) (ok : BlkOk X.N X.env.scope scope own)
    (hg : ∀ (s : Shared) (H : Hp) (C : Addr) (cl : List (Str × Addr)) (fp : List Addr), PG (X.blk s H scope (compEnvC scope cl C X.env) fp) tg g) (ht : ∀ (s : Shared) (H : Hp) (C : Addr) (cl : List (Str × Addr)) (fp : List Addr), PTs (X.blk s H scope (compEnvC scope cl C X.env) fp) ifs tt)
    (he : ∀ (s : Shared) (H : Hp) (C : Addr) (cl : List (Str × Addr)) (fp : List Addr), PE (X.blk s H scope (compEnvC scope cl C X.env) fp) elt te) (hs : ∀ x, foldedSetIterable iter X.env x = pure x := by intro _; rfl) :
    PS X (.Assign [.Name y py] (.ListComp elt [⟨tg, iter, ifs, 0⟩] scope pos) spos) (tAsg (tLc wi g tt te (own.map (·.2))) (gName i)) := by
  intro pins s σ H D I h
  rw [exec_Assign_Name_used _ _ _ _ hsw]
  refine wpAny_bind (wpAny_standAt (wpAny_bind ?_))
  show wpAny _ X.A (do let _ ← comprehension (.ListComp elt [⟨tg, iter, ifs, 0⟩] scope pos) scope X.env (firstIterPos [⟨tg, iter, ifs, 0⟩] pos) (newList []) false (eval iter X.env) (some (assign (.Name y py) X.env))) _ _ s
  have h : tLc wi g tt te (own.map (·.2)) σ H (fun x H1 => gName i x σ H1 D.nx) := h
  refine wpAny_bind (thn (lc_core (Qf := fun _ s' => SP X pins D .next s') hc hN I hi ok hg ht he hs h fun L C s' m H' I' q hn f => ?_) fun _ s' hq => wpAny_pure (wpAny_pure hq))
  show wpAny _ _ (assign (.Name y py) X.env (.ref L)) _ _ _
  refine wpAny_assign_Name (store_ok2 (v := V.ref L) I' hN hy (.inl hyl) rfl (fun s2 I2 ⟨a, sb, ha⟩ => ?_) (.inr hyl))
  obtain ⟨f0, f1, f2, f3, f4, f5⟩ := f
  have haC : C ≠ a := by
    rcases ha with z | z
    · rw [z]; exact f1
    · exact fun e => f4 y a z e.symm
  refine ⟨m, hn.sameBut sb haC, fun h3 sb3 => ?_⟩
  exact ⟨_, H', I2.turned (t' := s2.toks) (fun b o hb e => (sb3.2 b hb).trans e) f0 f1 f3 f4 f5, q⟩
theorem sw_true {elt : Expr} {gs : List Comprehension} {scope : Scope} {pos py : Pos} {y : Str} {l : Nat} {env : Env} (hk : env.scope.kind = .function) (hy : env.scope.names.lookup y = some .local) (hl : (py.line == pos.line) = true)
    (ha : (scope.names.any fun (n, k) => n == y && (k == .local || k == .cell)) = false) : swapsWith (.ListComp elt gs scope pos) (some (.Name y py)) l env = pure true := by
  have ky : env.kindOf y = some .local := hy
  have hb : env.blockKind = .function := by unfold Env.blockKind; rw [hk]; rfl
  unfold swapsWith
  simp only [hb, ky, ha, Expr.pos, hl]
  rfl
end
theorem lc_range {lo : Int} {n : Nat} {g : TG} {tt : TT} {te : TE} {vs : List Nat} {σ : St} {H1 : Hp} {D : Addr} {Qd : Hp → Prop} (Pv : Nat → Hp → Prop) (h0 : Pv 0 (upd H1 D (.lst [])))
    (hs : ∀ i H, i < n → Pv i H → g (.int (lo + i)) (wipe σ vs) H fun σ2 H2 => wipe σ2 vs = wipe σ vs ∧ tt σ2 H2 fun b H3 =>
      if b = true then te σ2 H3 fun y H4 => ∃ acc, H4 D = some (.lst acc) ∧ acc.length < sizeLine ∧ Pv (i + 1) (upd H4 D (.lst (acc ++ [y]))) else Pv (i + 1) H3) (hd : ∀ H, Pv n H → Qd H) :
    ∃ W : Nat → Nat → Hp → Prop, (∃ m, W 0 m (upd H1 D (.lst []))) ∧ ∀ i m H, W i m H →
      ((Itr lo n).stop i H ∧ Qd H) ∨ ((Itr lo n).go i H ∧ ∃ Nx : Hp → Prop, (∀ H', Nx H' → ∃ m', m' < m ∧ W (i + 1) m' H') ∧ ∀ x H', (Itr lo n).yld i H x H' → g x (wipe σ vs) H' fun σ2 H2 => wipe σ2 vs = wipe σ vs ∧ tt σ2 H2 fun b H3 =>
        if b = true then te σ2 H3 fun y H4 => ∃ acc, H4 D = some (.lst acc) ∧ acc.length < sizeLine ∧ Nx (upd H4 D (.lst (acc ++ [y]))) else Nx H3) := by
  refine ⟨fun i m H => m = n - i ∧ i ≤ n ∧ Pv i H, ⟨n, by simp, Nat.zero_le _, h0⟩, ?_⟩
  rintro i m H ⟨rfl, hi, p⟩
  by_cases hlt : i < n
  · refine .inr ⟨hlt, Pv (i + 1), fun H' p' => ⟨n - (i + 1), by omega, rfl, hlt, p'⟩, fun x H' y => ?_⟩
    obtain ⟨e, y⟩ := y
    subst e y
    exact hs i _ hlt p
  · have e : i = n := by omega
    subst e
    exact .inl ⟨Nat.le_refl _, hd H p⟩
theorem lc_list {K : PySem.W.Frag} {a : Addr} {xs : List V} {g : TG} {tt : TT} {te : TE} {vs : List Nat} {σ : St} {H1 : Hp} {D : Addr} {Qd : Hp → Prop} (Pv : Nat → Hp → Prop) (h0 : Pv 0 (upd H1 D (.lst []))) (hl : ∀ i H, i ≤ xs.length → Pv i H → SqL K H a xs)
    (hs : ∀ i x H, xs[i]? = some x → Pv i H → g x (wipe σ vs) H fun σ2 H2 => wipe σ2 vs = wipe σ vs ∧ tt σ2 H2 fun b H3 =>
      if b = true then te σ2 H3 fun y H4 => ∃ acc, H4 D = some (.lst acc) ∧ acc.length < sizeLine ∧ Pv (i + 1) (upd H4 D (.lst (acc ++ [y]))) else Pv (i + 1) H3) (hd : ∀ H, Pv xs.length H → Qd H) :
    ∃ W : Nat → Nat → Hp → Prop, (∃ m, W 0 m (upd H1 D (.lst []))) ∧ ∀ i m H, W i m H →
      ((Itl K a).stop i H ∧ Qd H) ∨ ((Itl K a).go i H ∧ ∃ Nx : Hp → Prop, (∀ H', Nx H' → ∃ m', m' < m ∧ W (i + 1) m' H') ∧ ∀ x H', (Itl K a).yld i H x H' → g x (wipe σ vs) H' fun σ2 H2 => wipe σ2 vs = wipe σ vs ∧ tt σ2 H2 fun b H3 =>
        if b = true then te σ2 H3 fun y H4 => ∃ acc, H4 D = some (.lst acc) ∧ acc.length < sizeLine ∧ Nx (upd H4 D (.lst (acc ++ [y]))) else Nx H3) := by
  refine ⟨fun i m H => m = xs.length - i ∧ i ≤ xs.length ∧ Pv i H, ⟨xs.length, by simp, Nat.zero_le _, h0⟩, ?_⟩
  rintro i m H ⟨rfl, hi, p⟩
  have q := hl i H hi p
  by_cases hlt : i < xs.length
  · refine .inr ⟨⟨xs, xs[i], q, by simp [hlt]⟩, Pv (i + 1), fun H' p' => ⟨xs.length - (i + 1), by omega, rfl, hlt, p'⟩, fun x H' y => ?_⟩
    obtain ⟨e, y⟩ := y
    subst e
    exact hs i x _ (y xs q) p
  · have e : i = xs.length := by omega
    subst e
    exact .inl ⟨⟨xs, q, Nat.le_refl _⟩, hd H p⟩
theorem lc_tup {K : PySem.W.Frag} {a : Addr} {xs : List V} {g : TG} {tt : TT} {te : TE} {vs : List Nat} {σ : St} {H1 : Hp} {D : Addr} {Qd : Hp → Prop} (Pv : Nat → Hp → Prop) (h0 : Pv 0 (upd H1 D (.lst []))) (hl : ∀ i H, i ≤ xs.length → Pv i H → SqT K H a xs)
    (hs : ∀ i x H, xs[i]? = some x → Pv i H → g x (wipe σ vs) H fun σ2 H2 => wipe σ2 vs = wipe σ vs ∧ tt σ2 H2 fun b H3 =>
      if b = true then te σ2 H3 fun y H4 => ∃ acc, H4 D = some (.lst acc) ∧ acc.length < sizeLine ∧ Pv (i + 1) (upd H4 D (.lst (acc ++ [y]))) else Pv (i + 1) H3) (hd : ∀ H, Pv xs.length H → Qd H) :
    ∃ W : Nat → Nat → Hp → Prop, (∃ m, W 0 m (upd H1 D (.lst []))) ∧ ∀ i m H, W i m H →
      ((Itt K a).stop i H ∧ Qd H) ∨ ((Itt K a).go i H ∧ ∃ Nx : Hp → Prop, (∀ H', Nx H' → ∃ m', m' < m ∧ W (i + 1) m' H') ∧ ∀ x H', (Itt K a).yld i H x H' → g x (wipe σ vs) H' fun σ2 H2 => wipe σ2 vs = wipe σ vs ∧ tt σ2 H2 fun b H3 =>
        if b = true then te σ2 H3 fun y H4 => ∃ acc, H4 D = some (.lst acc) ∧ acc.length < sizeLine ∧ Nx (upd H4 D (.lst (acc ++ [y]))) else Nx H3) := by
  refine ⟨fun i m H => m = xs.length - i ∧ i ≤ xs.length ∧ Pv i H, ⟨xs.length, by simp, Nat.zero_le _, h0⟩, ?_⟩
  rintro i m H ⟨rfl, hi, p⟩
  have q := hl i H hi p
  by_cases hlt : i < xs.length
  · refine .inr ⟨⟨xs, xs[i], q, by simp [hlt]⟩, Pv (i + 1), fun H' p' => ⟨xs.length - (i + 1), by omega, rfl, hlt, p'⟩, fun x H' y => ?_⟩
    obtain ⟨e, y⟩ := y
    subst e
    exact hs i x _ (y xs q) p
  · have e : i = xs.length := by omega
    subst e
    exact .inl ⟨⟨xs, q, Nat.le_refl _⟩, hd H p⟩
def blkC (N : List Str) (sc scope : Scope) (own : List (Str × Nat)) : Bool :=
  (match scope.kind with | .function => true | _ => false) && (scope.names.all fun y => decide (scope.names.lookup y.1 = some y.2)) && (own.all fun p => decide (N[p.2]? = some p.1)) &&
    (scope.names.all fun y => match y.2 with
      | .free => (match sc.names.lookup y.1 with | some .cell => true | some .free => true | _ => false)
      | .local => decide (y.1 ∈ own.map (·.1)) || decide (y.1 ∉ N)
      | .cell => decide (y.1 ∈ own.map (·.1)) || decide (y.1 ∉ N)
      | _ => true)
theorem blkOk_by {N : List Str} {sc scope : Scope} {own : List (Str × Nat)} (h : blkC N sc scope own = true) : BlkOk N sc scope own := by
  unfold blkC at h
  simp only [Bool.and_eq_true, List.all_eq_true, decide_eq_true_eq] at h
  obtain ⟨⟨⟨h1, h2⟩, h3⟩, h4⟩ := h
  refine ⟨?_, h2, h3, fun y hy e => ?_, fun y hy e => ?_⟩
  · split at h1
    · assumption
    · cases h1
  · have q := h4 y hy
    simp only [e] at q
    split at q <;> first | exact .inl (by assumption) | exact .inr (by assumption) | cases q
  · have q := h4 y hy
    rcases e with e | e <;> (simp only [e, Bool.or_eq_true, decide_eq_true_eq] at q; exact q)
end L2
namespace L2
open PySem PySem.Spec PyProof.Rows
section
variable {prog : Program} {w : World} {A : Around} {R : Result → Shared → Prop} {s : Shared} {elt t0 i0 t1 i1 : Expr} {ifs0 ifs1 : List Expr} {scope : Scope} {pos : Pos} {it acc : Value} {env : Env}
end
section
variable {X : Cx}
def tLc2 (wi : TI) (g : TG) (tt : TT) (wi1 : TI) (g1 : TG) (tt1 : TT) (te : TE) (vs vs1 : List Nat) : TE := fun σ H Q => wi σ H fun J H1 => ∀ D, H1 D = none → ∃ W : Nat → Nat → Hp → Prop, (∃ m, W 0 m (upd H1 D (.lst []))) ∧ ∀ i m H, W i m H →
  (J.stop i H ∧ Q (.ref D) H) ∨ (J.go i H ∧ ∃ Nx : Hp → Prop, (∀ H', Nx H' → ∃ m', m' < m ∧ W (i + 1) m' H') ∧ ∀ x H', J.yld i H x H' → g x (wipe σ vs) H' fun σ2 H2 => wipe σ2 vs = wipe σ vs ∧ tt σ2 H2 fun b H3 =>
    if b = true then wi1 σ2 H3 fun J1 H4 => ∃ W1 : Nat → Nat → Hp → Prop, (∃ m, W1 0 m H4) ∧ ∀ j k H, W1 j k H →
      (J1.stop j H ∧ Nx H) ∨ (J1.go j H ∧ ∃ Nx1 : Hp → Prop, (∀ H', Nx1 H' → ∃ k', k' < k ∧ W1 (j + 1) k' H') ∧ ∀ x H', J1.yld j H x H' → g1 x (wipe σ2 vs1) H' fun σ3 H5 => wipe σ3 vs1 = wipe σ2 vs1 ∧ tt1 σ3 H5 fun b H6 =>
        if b = true then te σ3 H6 fun y H7 => ∃ acc, H7 D = some (.lst acc) ∧ acc.length < sizeLine ∧ Nx1 (upd H7 D (.lst (acc ++ [y]))) else Nx1 H6)
    else Nx H3)
end
end L2
namespace L2
open PySem PySem.Spec PyProof.Rows
section
variable {κ : Type} [DecidableEq κ]
def valV (kvs : List (κ × V)) (k : κ) : Option V := (kvs.find? fun kv => decide (kv.1 = k)).map (·.2)
def putK (kvs : List (κ × V)) (k : κ) (v : V) : List (κ × V) :=
  if (kvs.any fun kv => decide (kv.1 = k)) = true then kvs.map (fun kv => if kv.1 = k then (kv.1, v) else kv) else kvs ++ [(k, v)]
def dropK (kvs : List (κ × V)) (k : κ) : List (κ × V) := kvs.filter fun kv => decide (kv.1 ≠ k)
theorem valV_pos {p : κ × V} {r : List (κ × V)} {k : κ} (e : p.1 = k) : valV (p :: r) k = some p.2 := by simp [valV, List.find?_cons, e]
theorem valV_neg {p : κ × V} {r : List (κ × V)} {k : κ} (e : ¬ p.1 = k) : valV (p :: r) k = valV r k := by simp [valV, List.find?_cons, e]
theorem valV_any (k : κ) : ∀ kvs : List (κ × V), (kvs.any fun kv => decide (kv.1 = k)) = (valV kvs k).isSome
  | [] => rfl
  | p :: r => by
    rw [List.any_cons]
    by_cases e : p.1 = k
    · simp only [valV_pos e, decide_eq_true e, Bool.true_or, Option.isSome_some]
    · rw [valV_neg e, decide_eq_false e, Bool.false_or]; exact valV_any k r
theorem length_putK (kvs : List (κ × V)) (k : κ) (v : V) : (putK kvs k v).length ≤ kvs.length + 1 := by
  unfold putK
  split
  · rw [List.length_map]; omega
  · rw [List.length_append, List.length_cons, List.length_nil]; omega
theorem putK_new {kvs : List (κ × V)} {k : κ} (v : V) (h : valV kvs k = none) : putK kvs k v = kvs ++ [(k, v)] := by
  unfold putK
  rw [valV_any, h]
  exact if_neg (by decide)
theorem RelO.isSome_eq {o : Option V} {u : Option Value} (r : RelO o u) : o.isSome = u.isSome := by
  cases o with
  | none => cases u with
    | none => rfl
    | some _ => exact (show False from r).elim
  | some _ => cases u with
    | none => exact (show False from r).elim
    | some _ => rfl
theorem KV.val {kvs : List (κ × V)} {vs : List (κ × Value)} (r : KV kvs vs) (k : κ) : RelO (valV kvs k) (valueAt vs k) := by
  unfold KV at r
  induction r with
  | nil => exact True.intro
  | @cons p q ps qs h t ih =>
    obtain ⟨h1, h2⟩ := h
    by_cases e : p.1 = k
    · have e' : q.1 = k := h1.symm.trans e
      have b : valueAt (q :: qs) k = some q.2 := by simp [valueAt, List.find?_cons, e']
      rw [valV_pos e, b]; exact h2
    · have e' : ¬ q.1 = k := fun z => e (h1.trans z)
      have b : valueAt (q :: qs) k = valueAt qs k := by simp [valueAt, List.find?_cons, e']
      rw [valV_neg e, b]; exact ih
theorem KV.any {kvs : List (κ × V)} {vs : List (κ × Value)} (r : KV kvs vs) (k : κ) : (kvs.any fun kv => decide (kv.1 = k)) = vs.any fun kv => decide (kv.1 = k) := by
  unfold KV at r
  induction r with
  | nil => rfl
  | cons h t ih => rw [List.any_cons, List.any_cons, ih, h.1]
theorem KV.repl {kvs : List (κ × V)} {vs : List (κ × Value)} (r : KV kvs vs) (k : κ) {y : V} {u : Value} (ry : RelV y u) :
    KV (kvs.map fun kv => if kv.1 = k then (kv.1, y) else kv) (vs.map fun kv => if kv.1 = k then (kv.1, u) else kv) := by
  unfold KV at r ⊢
  induction r with
  | nil => exact .nil
  | @cons p q ps qs h t ih =>
    rw [List.map_cons, List.map_cons]
    refine .cons ?_ ih
    obtain ⟨h1, h2⟩ := h
    by_cases e : p.1 = k
    · rw [if_pos e, if_pos (h1.symm.trans e)]; exact ⟨h1, ry⟩
    · rw [if_neg e, if_neg (fun z => e (h1.trans z))]; exact ⟨h1, h2⟩
theorem KV.put {kvs : List (κ × V)} {vs : List (κ × Value)} (r : KV kvs vs) (k : κ) {y : V} {u : Value} (ry : RelV y u) : KV (putK kvs k y) (stored vs k u) := by
  unfold putK stored
  rw [r.any k]
  by_cases e : (vs.any fun kv => decide (kv.1 = k)) = true
  · rw [if_pos e, if_pos e]; exact r.repl k ry
  · rw [if_neg e, if_neg e]; exact Paired.snoc r ⟨rfl, ry⟩
theorem KV.length {kvs : List (κ × V)} {vs : List (κ × Value)} (r : KV kvs vs) : kvs.length = vs.length := Paired.length r
end
theorem kV_is {P : Program} {w : World} {k : Key} {u : Value} (r : RelV (kV k) u) : (mixKind P w).is k u = true := by
  cases k with
  | inl i => obtain ⟨t, e⟩ := (show ∃ t, u = Value.int i t from r); subst e; exact mixKind_int P w i t
  | inr x => obtain ⟨t, e⟩ := (show ∃ t, u = Value.str x t from r); subst e; exact mixKind_str P w x t
theorem kV_inj {a b : Key} (e : kV a = kV b) : a = b := by
  cases a with
  | inl i => cases b with
    | inl j => have e' : V.int i = V.int j := e; injection e' with e'; rw [e']
    | inr y => exact nomatch (show V.int i = V.str y from e)
  | inr x => cases b with
    | inl j => exact nomatch (show V.str x = V.int j from e)
    | inr y => have e' : V.str x = V.str y := e; injection e' with e'; rw [e']
theorem items_are {P : Program} {w : World} : ∀ {ks : List Key} {us : List Value}, Vals (ks.map kV) us → ItemsAre (mixKind P w) ks us
  | [], _, r => by rw [List.map_nil] at r; cases r; exact .nil
  | k :: ks, _, r => by
    rw [List.map_cons] at r
    cases r with
    | cons h t => exact .cons (kV_is h) (items_are t)
abbrev KT (H : Hp) : List (List Key × V) → List (List Key × Addr × Value) → Prop := Paired fun p q => p.1 = q.1 ∧ H q.2.1 = some (.tup (p.1.map kV)) ∧ RelV p.2 q.2.2
theorem KT.val {H : Hp} {kvs : List (List Key × V)} {xs : List (List Key × Addr × Value)} (r : KT H kvs xs) (k : List Key) : RelO (valV kvs k) ((atKey xs k).map (·.2)) := by
  induction r with
  | nil => exact True.intro
  | @cons p q ps qs h t ih =>
    obtain ⟨h1, _, h2⟩ := h
    by_cases e : p.1 = k
    · have e' : q.1 = k := h1.symm.trans e
      have b : atKey (q :: qs) k = some q.2 := by simp [atKey, List.find?_cons, e']
      rw [valV_pos e, b]; exact h2
    · have e' : ¬ q.1 = k := fun z => e (h1.trans z)
      have b : atKey (q :: qs) k = atKey qs k := by simp [atKey, List.find?_cons, e']
      rw [valV_neg e, b]; exact ih
theorem KT.repl {H : Hp} {kvs : List (List Key × V)} {xs : List (List Key × Addr × Value)} (r : KT H kvs xs) (k : List Key) {y : V} {u : Value} (ry : RelV y u) :
    KT H (kvs.map fun kv => if kv.1 = k then (kv.1, y) else kv) (xs.map (putAt k u)) := by
  induction r with
  | nil => exact .nil
  | @cons p q ps qs h t ih =>
    rw [List.map_cons, List.map_cons]
    refine .cons ?_ ih
    obtain ⟨h1, h2, h3⟩ := h
    unfold putAt
    by_cases e : p.1 = k
    · rw [if_pos e, if_pos (h1.symm.trans e)]; exact ⟨h1, h2, ry⟩
    · rw [if_neg e, if_neg (fun z => e (h1.trans z))]; exact ⟨h1, h2, h3⟩
theorem KT.put {H : Hp} {kvs : List (List Key × V)} {xs : List (List Key × Addr × Value)} (r : KT H kvs xs) (k : List Key) {b : Addr} {y : V} {u : Value} (hb : H b = some (.tup (k.map kV))) (ry : RelV y u) :
    KT H (putK kvs k y) (storedH xs k b u) := by
  have e : (kvs.any fun kv => decide (kv.1 = k)) = (atKey xs k).isSome := by
    rw [valV_any, (r.val k).isSome_eq, Option.isSome_map]
  unfold putK storedH
  rw [e]
  by_cases q : (atKey xs k).isSome = true
  · rw [if_pos q, if_pos q]; exact r.repl k ry
  · rw [if_neg q, if_neg q]; exact Paired.snoc r ⟨rfl, hb, ry⟩
theorem KT.keeps {H H' : Hp} {kvs : List (List Key × V)} {xs : List (List Key × Addr × Value)} (r : KT H kvs xs) (ht : ∀ b ys, H b = some (.tup ys) → H' b = some (.tup ys)) : KT H' kvs xs :=
  Paired.mapP r fun _ _ z => ⟨z.1, ht _ _ z.2.1, z.2.2⟩
section
variable {P : Program} {w : World} {H : Hp} {h : Heap} {a : Addr}
theorem rd_of {u : HO} (ok : HOk P w H h) (e : Rd H a u) : ObjOk P w H h a u := e.ok ok
theorem dk_rd {kvs : List (Key × V)} (ok : HOk P w H h) (e : Rd H a (.dK kvs)) : kvs.length ≤ sizeLine ∧ (a == sysModules) = false ∧ ∃ vs, KV kvs vs ∧ h.DictOf (mixKind P w) a vs :=
  show ObjOk P w H h a (.dK kvs) from rd_of ok e
theorem dk_of {kvs : List (Key × V)} (ok : HOk P w H h) (e : H a = some (.dK kvs)) : kvs.length ≤ sizeLine ∧ (a == sysModules) = false ∧ ∃ vs, KV kvs vs ∧ h.DictOf (mixKind P w) a vs := dk_rd ok (.inl e)
theorem key_of {ks : List Key} (ok : HOk P w H h) (e : H a = some (.tup (ks.map kV))) : (tupleKind (mixKind P w)).is h ks a := by
  obtain ⟨_, its, r, o, h1, h2, n, h3⟩ := (show ObjOk P w H h a (.tup (ks.map kV)) from ok a _ e)
  exact ⟨o, its.toArray, n, h1, h2, h3, by simpa using items_are r⟩
theorem dt_rd {kvs : List (List Key × V)} (ok : HOk P w H h) (e : Rd H a (.dT kvs)) : kvs.length ≤ sizeLine ∧ (a == sysModules) = false ∧
    ∃ xs, KT H kvs xs ∧ h.DictOfH (tupleKind (mixKind P w)) a xs := by
  obtain ⟨z, y, xs, r, o, es, ep, h1, h2, h3, h4, h5⟩ := (show ObjOk P w H h a (.dT kvs) from rd_of ok e)
  refine ⟨z, y, xs, r, o, es, ep, h1, h2, h3, h4, fun x hx => ?_, h5⟩
  have all : ∀ {l : List (List Key × V)} {m : List (List Key × Addr × Value)}, KT H l m → ∀ x ∈ m, (tupleKind (mixKind P w)).is h x.1 x.2.1 := by
    intro l m q
    induction q with
    | nil => intro x hx; exact nomatch hx
    | @cons p q ps qs hq t ih =>
      intro x hx
      rcases List.mem_cons.mp hx with e | hx
      · subst e
        exact key_of ok (by rw [← hq.1]; exact hq.2.1)
      · exact ih x hx
  exact all r x hx
theorem dt_of {kvs : List (List Key × V)} (ok : HOk P w H h) (e : H a = some (.dT kvs)) : kvs.length ≤ sizeLine ∧ (a == sysModules) = false ∧
    ∃ xs, KT H kvs xs ∧ h.DictOfH (tupleKind (mixKind P w)) a xs := dt_rd ok (.inl e)
end
def DGet (H : Hp) (a : Addr) (y : V) (r : Option V) : Prop :=
  (∃ kvs k, Rd H a (.dK kvs) ∧ y = kV k ∧ r = valV kvs k) ∨ ∃ kvs k b, Rd H a (.dT kvs) ∧ y = .ref b ∧ H b = some (.tup (k.map kV)) ∧ r = valV kvs k
def DPut (H : Hp) (a : Addr) (y v : V) (H' : Hp) : Prop :=
  (∃ kvs k, H a = some (.dK kvs) ∧ y = kV k ∧ kvs.length < sizeLine ∧ H' = upd H a (.dK (putK kvs k v))) ∨
  ∃ kvs k b, H a = some (.dT kvs) ∧ y = .ref b ∧ H b = some (.tup (k.map kV)) ∧ kvs.length < sizeLine ∧ H' = upd H a (.dT (putK kvs k v))
theorem DGet.k {H : Hp} {a : Addr} {kvs : List (Key × V)} {k : Key} (e : H a = some (.dK kvs)) : DGet H a (kV k) (valV kvs k) := .inl ⟨kvs, k, .inl e, rfl, rfl⟩
theorem DPut.k {H : Hp} {a : Addr} {kvs : List (Key × V)} {k : Key} {v : V} (e : H a = some (.dK kvs)) (hl : kvs.length < sizeLine) : DPut H a (kV k) v (upd H a (.dK (putK kvs k v))) := .inl ⟨kvs, k, e, rfl, hl, rfl⟩
section
variable {X : Cx} {pins : List (Addr × Obj)} {σ : St} {H : Hp} {s : Shared} {a : Addr} {y v : V} {u r : Value} {o : Option V} {A : Around} {E : Value → Shared → Prop}
theorem Inv.big (I : Inv X pins σ H s) : sysModules < s.heap.objs.size := by
  have h : mainGlobals < s.heap.objs.size := (I.mod.glob.keeps I.bk).lt
  exact Nat.lt_trans (by decide) h
theorem d_getItem {Q : Value → Shared → Prop} (hu : A.units + 1 < cLine) (I : Inv X pins σ H s) (g : DGet H a y (some v)) (ry : RelV y u) (h : ∀ w' s', Inv X pins σ H s' → RelV v w' → Q w' s') :
    wpAny (model X.prog X.w) A (getItem (.ref a) u) Q E s := by
  rcases g with ⟨kvs, k, e, ey, l⟩ | ⟨kvs, k, b, e, ey, eb, l⟩
  · subst ey
    obtain ⟨z, hd, vs, rel, dd⟩ := dk_rd I.hok e
    obtain ⟨w', hw, rw'⟩ := RelO.some_of (v := v) (o := valueAt vs k) (by rw [l]; exact rel.val k)
    exact wpAny_getItem_of (kV_is ry) dd.mapOf hw (h w' _ (I.tok _) rw')
  · subst ey
    cases (show u = Value.ref b from ry)
    obtain ⟨z, hd, xs, rel, dd⟩ := dt_rd I.hok e
    obtain ⟨w', hw, rw'⟩ := RelO.some_of (v := v) (o := (atKey xs k).map (·.2)) (by rw [l]; exact rel.val k)
    obtain ⟨p, hp, hp2⟩ := Option.map_eq_some_iff.mp hw
    refine wpAny_getItem_heap (tupleKind_room_in1 hu) (key_of I.hok eb) dd hp ?_
    rw [hp2]
    exact h w' _ (I.tok _) rw'
theorem d_in {Q : Value → Shared → Prop} (hu : A.units + 1 < cLine) (I : Inv X pins σ H s) (g : DGet H a y o) (ry : RelV y u) (h : ∀ s', Inv X pins σ H s' → Q (.bool o.isSome) s') :
    wpAny (model X.prog X.w) A (compareOp .In u (.ref a)) Q E s := by
  rcases g with ⟨kvs, k, e, ey, l⟩ | ⟨kvs, k, b, e, ey, eb, l⟩
  · subst ey
    obtain ⟨z, hd, vs, rel, dd⟩ := dk_rd I.hok e
    refine wpAny_in_of (kV_is ry) hd dd.mapOf ?_
    rw [← (rel.val k).isSome_eq, ← l]
    exact h _ (I.tok _)
  · subst ey
    cases (show u = Value.ref b from ry)
    obtain ⟨z, hd, xs, rel, dd⟩ := dt_rd I.hok e
    refine wpAny_in_heap (tupleKind_room_in1 hu) (key_of I.hok eb) hd dd ?_
    have q := (rel.val k).isSome_eq
    rw [Option.isSome_map] at q
    rw [← q, ← l]
    exact h _ (I.tok _)
theorem d_write {h' : Heap} {t' : Nat} {ob : HO} (I : Inv X pins σ H s) (mu : Mut (H a)) (hs : Heap.SameBut a s.heap h') (he : ∃ q, h'.get? a = some q) (new : ObjOk X.prog X.w (upd H a ob) h' a ob) :
    Inv X pins σ (upd H a ob) { s with heap := h', toks := t' } :=
  I.write (x := a) (e := a) mu (.inl rfl) (fun b q hb z => (hs.2 b hb).trans z) he new
theorem dk_new {P : Program} {w : World} {H' : Hp} {h' : Heap} {kvs : List (Key × V)} {vs : List (Key × Value)} (z : kvs.length ≤ sizeLine) (hd : (a == sysModules) = false) (rel : KV kvs vs) (dd : h'.DictOf (mixKind P w) a vs) :
    ObjOk P w H' h' a (.dK kvs) := ⟨z, hd, vs, rel, dd⟩
end
section
variable {X : Cx} {pins : List (Addr × Obj)} {σ : St} {H : Hp} {s : Shared} {a : Addr} {kvs : List (Key × V)} {k : Key} {u : Value} {A : Around} {E : Value → Shared → Prop}
end
def NoSl (i : Expr) : Prop := ∀ ov iv, subscripted i false ov iv = operate [ov, iv] (getItem ov iv)
theorem subD_of {prog : Program} {w : World} {A : Around} {E : Value → Shared → Prop} {s : Shared} {env : Env} {value slice : Expr} {pos : Pos} {T id : String} {Q : Value → Shared → Prop}
    (hl : typeLookup (.type T) "__getitem__" = pure (some (.builtin id))) (hs : NoSl slice)
    (h : wpAny (model prog w) A (eval value env) (fun o s₁ => wpAny (model prog w) A (eval slice env) (fun i s₂ => s₂.TypeIs o T ∧ wpAny (model prog w) A (getItem o i) Q E s₂) E s₁) E s) :
    wpAny (model prog w) A (eval (.Subscript value slice pos) env) Q E s := by
  refine Subscript_ (wpAny_mono h (fun o s₁ h₁ => wpAny_mono h₁ (fun i s₂ h₂ => ?_) fun _ _ x => x) fun _ _ x => x)
  obtain ⟨hT, h₂⟩ := h₂
  unfold subscriptTail
  refine wpAny_bind ?_
  rw [getitemInPython_of_ne hT.not_modules]
  refine wpAny_bind (wpAny_specialOf hT hl ?_)
  have fin : wpAny (model prog w) A (subscripted slice false o i) (fun r s₃ => wpAny (model prog w) A (letTemporaryGo value o r >>= fun _ => pure r) Q E s₃) E s₂ := by
    rw [hs o i]
    exact wpAny_operating (wpAny_mono h₂ (fun r s₃ h₃ => wpAny_bind (wpAny_letTemporaryGo (wpAny_pure h₃))) fun _ _ x => x)
  first
    | exact wpAny_pure (wpAny_bind fin)
    | exact wpAny_bind (wpAny_pure (wpAny_bind fin))
    | exact wpAny_bind fin
theorem dict_typeIs {X : Cx} {pins : List (Addr × Obj)} {σ : St} {H : Hp} {s : Shared} {a : Addr} {y : V} {o : Option V} (I : Inv X pins σ H s) (g : DGet H a y o) : s.TypeIs (.ref a) "dict" := by
  rcases g with ⟨kvs, k, e, _, _⟩ | ⟨kvs, k, b, e, _, _, _⟩
  · obtain ⟨_, _, vs, _, dd⟩ := dk_rd I.hok e
    exact dd.typeIs
  · obtain ⟨_, _, xs, _, dd⟩ := dt_rd I.hok e
    exact dd.typeIs
def tDGet (td ty : TE) : TE := fun σ H Q => td σ H fun x H1 => ty σ H1 fun y H2 => ∃ a v, x = .ref a ∧ DGet H2 a y (some v) ∧ Q v H2
def tDIn (ty td : TE) : TE := fun σ H Q => ty σ H fun y H1 => td σ H1 fun x H2 => ∃ a o, x = .ref a ∧ DGet H2 a y o ∧ Q (.bl o.isSome) H2
def tDNotIn (ty td : TE) : TE := fun σ H Q => ty σ H fun y H1 => td σ H1 fun x H2 => ∃ a o, x = .ref a ∧ DGet H2 a y o ∧ Q (.bl (!o.isSome)) H2
def sDPut (td ty tv : TE) : TS := fun D σ H => tv σ H fun v H1 => td σ H1 fun x H2 => ty σ H2 fun y H3 => ∃ a H4, x = .ref a ∧ DPut H3 a y v H4 ∧ D.nx σ H4
def sDAug (td ty tv : TE) (rd : V → V → Hp → VK → Prop) : TS := fun D σ H => td σ H fun x H1 => ty σ H1 fun y H2 => ∃ a v, x = .ref a ∧ DGet H2 a y (some v) ∧
  tv σ H2 fun y2 H3 => rd v y2 H3 fun z H4 => ∃ H5, DPut H4 a y z H5 ∧ D.nx σ H5
def sDDel (td ty : TE) : TS := fun D σ H => td σ H fun x H1 => ty σ H1 fun y H2 => ∃ a kvs k, x = .ref a ∧ H2 a = some (.dK kvs) ∧ y = kV k ∧ (valV kvs k).isSome = true ∧ D.nx σ (upd H2 a (.dK (dropK kvs k)))
section
variable {X : Cx} {o i e value : Expr} {pos pos' tpos : Pos} {td ty tv : TE}
theorem pe_dget (hu : X.A.units + 1 < cLine) (ho : PE X o td) (hi : PE X i ty) (hs : NoSl i) : PE X (.Subscript o i pos) (tDGet td ty) := by
  intro pins s σ H Q I h
  refine subD_of PySem.F.slot_dict_getitem.lookup hs (thn (ho pins s σ H _ I h) fun u s1 ⟨x, H1, I1, rx, q1⟩ => thn (hi pins s1 σ H1 _ I1 q1) fun iv s2 ⟨y, H2, I2, ry, a, v, ex, g, q2⟩ => ?_)
  subst ex
  obtain rfl : u = Value.ref a := rx
  exact ⟨dict_typeIs I2 g, d_getItem hu I2 g ry fun w' s3 I3 rw' => ⟨v, H2, I3, rw', q2⟩⟩
theorem pc_din (hu : X.A.units + 1 < cLine) (hi : PE X i ty) (ho : PE X o td) : PC X .In i o (tDIn ty td) := by
  intro pins s σ H Q I h
  refine thn (hi pins s σ H _ I h) fun iv s1 ⟨y, H1, I1, ry, q1⟩ => thn (ho pins s1 σ H1 _ I1 q1) fun u s2 ⟨x, H2, I2, rx, a, ov, ex, g, q2⟩ => ?_
  subst ex
  obtain rfl : u = Value.ref a := rx
  exact d_in hu I2 g ry fun s3 I3 => ⟨.bl ov.isSome, H2, I3, rfl, q2⟩
end
theorem dk_empty {P : Program} {w : World} {H : Hp} (h : Heap) (hb : sysModules < h.objs.size) : ObjOk P w H (h.push { cls := .type "dict", data := .dict #[] }) h.objs.size (.dK []) :=
  ⟨Nat.zero_le _, beq_eq_false_iff_ne.mpr (Ne.symm (Nat.ne_of_lt hb)), [], .nil, Heap.DictOf.new h⟩
def tDNewK : TE := fun _ H Q => ∀ p, H p = none → Q (.ref p) (upd H p (.dK []))
def tDNewT : TE := fun _ H Q => ∀ p, H p = none → Q (.ref p) (upd H p (.dT []))
section
variable {X : Cx} {pos : Pos}
end
def tPairs : List (TE × TE) → St → Hp → (List (V × V) → Hp → Prop) → Prop
  | [], _, H, Q => Q [] H
  | (tk, tv) :: r, σ, H, Q => tk σ H fun x H1 => tv σ H1 fun y H2 => tPairs r σ H2 fun ps H3 => Q ((x, y) :: ps) H3
abbrev VV : List (V × V) → List (Value × Value) → Prop := Paired fun p q => RelV p.1 q.1 ∧ RelV p.2 q.2
def PPs (X : Cx) (pos : Pos) (keys : List (Option Expr)) (values : List Expr) (trs : List (TE × TE)) : Prop :=
  ∀ (pins : List (Addr × Obj)) (s : Shared) (σ : St) (H : Hp) (Q : List (V × V) → Hp → Prop), Inv X pins σ H s → tPairs trs σ H Q →
    wpAny (model X.prog X.w) X.A (evalPairs (pairTrees keys values X.env pos)) (fun vs s' => ∃ ps H', Inv X pins σ H' s' ∧ VV ps vs ∧ Q ps H') X.xe s
def mergeK (kvs more : List (Key × V)) : List (Key × V) := more.foldl (fun acc kv => putK acc kv.1 kv.2) kvs
def tDisp (trs : List (TE × TE)) : TE := fun σ H Q => ∀ p, H p = none → tPairs trs σ (upd H p (.dK [])) fun ps H2 => H2 p = some (.dK []) ∧ ∃ kvs : List (Key × V), ps = kvs.map (fun kv => (kV kv.1, kv.2)) ∧ kvs.length ≤ 15 ∧ Q (.ref p) (upd H2 p (.dK (mergeK [] kvs)))
structure M1 (X : Cx) (o : Expr) (m : Str) (apos : Pos) (e : Expr) (cpos : Pos) : Prop where
  base : attributeBase o m X.env (eval o X.env) = eval o X.env
  few : ((backTo cpos (starEach [e] X.env)).all (fun x => !x.1) && (backToKw cpos (keywordEach [] X.env)).all (fun x => x.1.isSome)
    && decide (([e] : List Expr).length + ([] : List Keyword).length + (if ([] : List Keyword).isEmpty then 0 else 1) < 30)) = true
  line : (apos.endLine == cpos.line) = true
  trees : backTo cpos (starEach [e] X.env) = [(false, eval e X.env)]
structure M2 (X : Cx) (o : Expr) (m : Str) (apos : Pos) (e f : Expr) (cpos : Pos) : Prop where
  base : attributeBase o m X.env (eval o X.env) = eval o X.env
  few : ((backTo cpos (starEach [e, f] X.env)).all (fun x => !x.1) && (backToKw cpos (keywordEach [] X.env)).all (fun x => x.1.isSome)
    && decide (([e, f] : List Expr).length + ([] : List Keyword).length + (if ([] : List Keyword).isEmpty then 0 else 1) < 30)) = true
  line : (apos.endLine == cpos.line) = true
  trees : backTo cpos (starEach [e, f] X.env) = [(false, eval e X.env), (false, eval f X.env)]
def IsD (H : Hp) (a : Addr) : Prop := (∃ kvs, Rd H a (.dK kvs)) ∨ ∃ kvs, Rd H a (.dT kvs)
section
variable {X : Cx} {pins : List (Addr × Obj)} {σ : St} {H : Hp} {s : Shared} {a : Addr} {y d : V} {u r : Value} {o : Option V} {A : Around} {E : Value → Shared → Prop}
end
def tDGet1 (td ty : TE) : TE := fun σ H Q => td σ H fun x H1 => ∃ a, x = .ref a ∧ IsD H1 a ∧ ty σ H1 fun y H2 => ∃ o, DGet H2 a y o ∧ Q (o.getD .non) H2
def tDGet2 (td ty tx : TE) : TE := fun σ H Q => td σ H fun x H1 => ∃ a, x = .ref a ∧ IsD H1 a ∧ ty σ H1 fun y H2 => tx σ H2 fun z H3 => ∃ o, DGet H3 a y o ∧ Q (o.getD z) H3
def tDPop1 (td ty : TE) : TE := fun σ H Q => td σ H fun x H1 => ∃ a, x = .ref a ∧ IsD H1 a ∧ ty σ H1 fun y H2 => ∃ kvs k v, H2 a = some (.dK kvs) ∧ y = kV k ∧ valV kvs k = some v ∧ Q v (upd H2 a (.dK (dropK kvs k)))
def tDPop2 (td ty tx : TE) : TE := fun σ H Q => td σ H fun x H1 => ∃ a, x = .ref a ∧ IsD H1 a ∧ ty σ H1 fun y H2 => tx σ H2 fun z H3 => ∃ kvs k, H3 a = some (.dK kvs) ∧ y = kV k ∧
  (∀ v, valV kvs k = some v → Q v (upd H3 a (.dK (dropK kvs k)))) ∧ (valV kvs k = none → Q z H3)
section
variable {X : Cx} {o e f : Expr} {apos cpos : Pos} {td ty tx : TE}
end
section
variable {X : Cx} {pins : List (Addr × Obj)} {σ : St} {H : Hp} {s : Shared} {a : Addr} {kvs : List (Key × V)} {A : Around} {E : Value → Shared → Prop}
end
section
variable {X : Cx} {pins : List (Addr × Obj)} {σ : St} {H : Hp} {s : Shared} {a : Addr} {y : V} {u : Value} {A : Around} {E : Value → Shared → Prop}
end
end L2
namespace L2
open PySem PySem.Spec PyProof.Rows
theorem ud_entry : entryFor table "dict.update.loop" = some Builtin.«dict.update.loop» := entryFor_of_tree (by kernel_rfl)
theorem ud_plain : plainId "dict.update.loop" = true := by decide +kernel
section
variable {prog : Program} {w : World} {A : Around} {E : Value → Shared → Prop}
end
section
variable {X : Cx}
end
end L2
namespace L2
open PySem PySem.Spec PyProof.Rows
section
variable {X : Cx} {pins : List (Addr × Obj)} {σ : St} {H : Hp} {s : Shared} {h' : Heap}
theorem Inv.turnedNew {t' : Nat} {ch : List Addr} {T : Addr} {ob : HO} (I : Inv X pins σ H s) (k : ∀ b o, b ∉ ch → s.heap.get? b = some o → h'.get? b = some o) (hf : ∀ b ∈ ch, FpOk X pins H b) (hT : s.heap.objs.size ≤ T)
    (new : ObjOk X.prog X.w (upd H T ob) h' T ob) : Inv X pins σ (upd H T ob) { s with heap := h', toks := t' } := by
  have hn : H T = none := I.hok.fresh hT
  have nit : ∀ b u, H b = some u → b ∉ ch := fun b u e z => by
    have q := (hf b z).1
    rw [q] at e; cases e
  refine I.step (g' := s.gens) (d' := s.drawn) (ch := ch) (fun b hb => ⟨(hf b hb).2.2.2.1, (hf b hb).2.1, (hf b hb).2.2.2.2.1, (hf b hb).2.2.2.2.2⟩) (fun b o _ _ hc e _ => k b o hc e) (fun b o _ _ hc e _ => ⟨o.slots, k b o hc e⟩)
    (fun b o _ e n => ?_) (fun b o hc e => ⟨o, k b o hc e⟩) (fun b xs e => ?_) (fun b o u e => ?_) (fun b ps e => ⟨#[], ?_⟩) (fun m hm => ?_) (fun b u e => ?_) I.bare
  · rw [upd_ne (Nat.ne_of_lt (Nat.lt_of_lt_of_le (Heap.lt_size e) hT))]; exact n
  · rw [upd_ne (ne_of_none e hn)]; exact e
  · rw [upd_ne (ne_of_none e hn)]; exact e
  · rw [upd_ne (ne_of_none e hn), e]; simp
  · obtain ⟨o, es, ep, ho, r⟩ := hm
    exact ⟨o, es, ep, k _ o (fun z => (hf _ z).2.1 rfl) ho, r⟩
  · by_cases hb : b = T
    · subst hb
      rw [upd_same] at e
      cases e
      exact new
    · rw [upd_ne hb] at e
      refine (I.hok b u e).stay (fun c v hc q => k c v ?_ q) (fun c q => by rw [upd_ne (ne_of_none q hn)]; exact q) fun c xs q => by rw [upd_ne (ne_of_none q hn)]; exact q
      rcases hc with z | z
      · rw [z]; exact nit b u e
      · exact nit c _ z
end
def tLock (t : TS) : TS := fun D σ H => ∃ d u, H d = some u ∧ Mut (some u) ∧ ∀ od, t ⟨fun σ' H' => H' d = some (.frz od u) ∧ D.nx σ' (upd H' d u), fun v H' => H' d = some (.frz od u) ∧ D.rt v (upd H' d u), fun σ' H' => H' d = some (.frz od u) ∧ D.bk σ' (upd H' d u), fun σ' H' => H' d = some (.frz od u) ∧ D.ct σ' (upd H' d u)⟩ σ (upd H d (.frz od u))
def tLockE (t : TE) : TE := fun σ H Q => ∃ d u, H d = some u ∧ Mut (some u) ∧ ∀ od, t σ (upd H d (.frz od u)) fun v H' => H' d = some (.frz od u) ∧ Q v (upd H' d u)
section
variable {X : Cx}
end
def Itc (lo c : Int) (n : Nat) : It := ⟨fun i _ => i < n, fun i H x H' => H' = H ∧ x = .int (lo + (i : Nat) * c), fun i _ => n ≤ i⟩
def RgC (i j c : Int) (n : Nat) : Prop := c ≠ 0 ∧ c.natAbs < 1073741824 ∧ Builtin.Range.small i j c = true ∧ Builtin.Range.rangeSize i j c = n
def iRng3 (ta : TA) : TI := fun σ H R => ta σ H fun vs H1 => ∃ (i j c : Int) (n : Nat), vs = [.int i, .int j, .int c] ∧ RgC i j c n ∧ R (Itc i c n) H1
section
variable {X : Cx} {tg : Expr}
end
def Itv (K : PySem.W.Frag) (a : Addr) (n : Nat) : It :=
  ⟨fun i H => i < n ∧ ∃ (xs : List V) (x : V), SqL K H a xs ∧ xs[n - 1 - i]? = some x, fun i H x H' => H' = H ∧ ∀ xs, SqL K H a xs → xs[n - 1 - i]? = some x, fun i _ => n ≤ i⟩
def iRev (K : PySem.W.Frag) (ta : TA) : TI := fun σ H R => ta σ H fun vs H1 => ∃ (a : Addr) (xs : List V), vs = [.ref a] ∧ SqL K H1 a xs ∧ R (Itv K a xs.length) H1
section
variable {X : Cx} {tg : Expr}
end
def Its (x : Str) : It := ⟨fun i _ => i < x.cps.size, fun i H v H' => H' = H ∧ ∃ c, x.cps[i]? = some c ∧ v = .str ⟨#[c]⟩, fun i _ => x.cps.size ≤ i⟩
def iStr (te : TE) : TI := fun σ H R => te σ H fun v H1 => ∃ x, v = .str x ∧ R (Its x) H1
section
variable {prog : Program} {w : World} {A : Around} {E : Value → Shared → Prop} {s : Shared}
end
section
variable {X : Cx} {pins : List (Addr × Obj)} {σ : St} {H : Hp} {s : Shared} {d : Addr} {o : Obj}
end
def Itk (d : Addr) (o : Obj) (kvs : List (Key × V)) : It :=
  ⟨fun i H => H d = some (.frz o (.dK kvs)) ∧ i < kvs.length, fun i H x H' => H' = H ∧ ∃ k v, kvs[i]? = some (k, v) ∧ x = kV k, fun i H => H d = some (.frz o (.dK kvs)) ∧ kvs.length ≤ i⟩
def Itkt (d : Addr) (o : Obj) (kvs : List (List Key × V)) : It :=
  ⟨fun i H => H d = some (.frz o (.dT kvs)) ∧ i < kvs.length, fun i H x H' => H' = H ∧ ∃ (k : List Key) (v : V) (q : Addr), kvs[i]? = some (k, v) ∧ x = .ref q ∧ H q = some (.tup (k.map kV)), fun i H => H d = some (.frz o (.dT kvs)) ∧ kvs.length ≤ i⟩
def Itd (d : Addr) (o : Obj) (kvs : List (Key × V)) : It :=
  ⟨fun i H => H d = some (.frz o (.dK kvs)) ∧ i < kvs.length, fun i H x H' => H' = H ∧ ∃ k, kvs[i]? = some (k, x), fun i H => H d = some (.frz o (.dK kvs)) ∧ kvs.length ≤ i⟩
def Iti (d : Addr) (o : Obj) (kvs : List (Key × V)) : It :=
  ⟨fun i H => H d = some (.frz o (.dK kvs)) ∧ i < kvs.length, fun i H x H' => ∃ T k v, kvs[i]? = some (k, v) ∧ x = .ref T ∧ H T = none ∧ H' = upd H T (.tup [kV k, v]), fun i H => H d = some (.frz o (.dK kvs)) ∧ kvs.length ≤ i⟩
section
variable {P : Program} {w : World} {K : PySem.W.Frag} {tg : Expr} {d : Addr} {o : Obj} {es : Array DictEntry} {ep : Nat}
end
def iKeys (td : TE) : TI := fun σ H R => td σ H fun x H1 => ∃ d o, x = .ref d ∧ ((∃ kvs, H1 d = some (.frz o (.dK kvs)) ∧ R (Itk d o kvs) H1) ∨ ∃ kvs, H1 d = some (.frz o (.dT kvs)) ∧ R (Itkt d o kvs) H1)
def iVals (td : TE) : TI := fun σ H R => td σ H fun x H1 => ∃ d o kvs, x = .ref d ∧ H1 d = some (.frz o (.dK kvs)) ∧ R (Itd d o kvs) H1
def iItems (td : TE) : TI := fun σ H R => td σ H fun x H1 => ∃ d o kvs, x = .ref d ∧ H1 d = some (.frz o (.dK kvs)) ∧ R (Iti d o kvs) H1
def iKeysM (td : TE) : TI := fun σ H R => td σ H fun x H1 => ∃ d o kvs, x = .ref d ∧ H1 d = some (.frz o (.dK kvs)) ∧ R (Itk d o kvs) H1
section
variable {X : Cx} {tg e : Expr} {td : TE} {apos cpos : Pos}
end
def Ite (K : PySem.W.Frag) (a : Addr) : It :=
  ⟨fun i H => ∃ (xs : List V) (x : V), SqL K H a xs ∧ xs[i]? = some x, fun i H v H' => ∃ T x, v = .ref T ∧ H T = none ∧ H' = upd H T (.tup [.int (i : Nat), x]) ∧ ∀ xs, SqL K H a xs → xs[i]? = some x, fun i H => ∃ xs : List V, SqL K H a xs ∧ xs.length ≤ i⟩
theorem turn_enum {P : Program} {w : World} {K : PySem.W.Frag} {elts : List Expr} {kk : Nat} {tpos : Pos} (a e it : Addr) :
    Turn P w K (.Tuple elts kk tpos) (Ite K a) [e, it] e (fun i h => (∃ old, IsEnum h e it ((i : Nat) : Int) old) ∧ h.IsListIter it a i ∧ e ≠ it) where
  mem := by simp
  obj := fun i h st b hb => by
    obtain ⟨⟨old, he⟩, ⟨o, ho, hc, hd⟩, _⟩ := st
    have e' : b = e ∨ b = it := by simpa using hb
    rcases e' with z | z
    · rw [z]; exact ⟨_, he, fun v q => nomatch q⟩
    · rw [z]; exact ⟨o, ho, fun v q => by rw [hd] at q; cases q⟩
  keep := fun i h h' st k => let ⟨⟨old, he⟩, hi, hne⟩ := st; ⟨⟨old, k e (by simp) _ he⟩, hi.at fun o q => k it (by simp) o q, hne⟩
  item := by
    intro X hP hw hK hc i pins s σ H E I hf st hg
    subst hP hw hK
    obtain ⟨⟨old, he⟩, hit, hne⟩ := st
    obtain ⟨xs, x, hq, hx⟩ := hg
    obtain ⟨its, rv, p, hz⟩ := I.list hq
    obtain ⟨u, hu, ru⟩ := rv.get hx
    have hel : e < s.heap.objs.size := Heap.lt_size he
    have hil : it < s.heap.objs.size := by obtain ⟨_, q, _⟩ := hit; exact Heap.lt_size q
    refine wpAny_pyNext_enum_item he hit p.isList (x := u) (by simpa using hu) hne fun h' ho hit' hT hsz hk => ?_
    refine ⟨_, rfl, wpAny_letOwnedTupleGo_enum (s := { s with heap := h', toks := s.toks + 1 }) ho fun h'' he' sb => ?_⟩
    have hT2 : h''.get? s.heap.objs.size = some { cls := .type "tuple", data := .seq #[.int i s.toks, u] } := (sb.2 _ (Nat.ne_of_gt hel)).trans hT
    have new : ObjOk X.prog X.w (upd H s.heap.objs.size (.tup [.int (i : Nat), x])) h'' s.heap.objs.size (.tup [.int (i : Nat), x]) :=
      ⟨by show 2 ≤ sizeLine; decide, [.int i s.toks, u], .cons ⟨_, rfl⟩ (.cons ru .nil), ⟨_, hT2, rfl, _, rfl⟩⟩
    have I1 : Inv X pins σ (upd H s.heap.objs.size (.tup [.int (i : Nat), x])) { s with heap := h'', toks := s.toks + 1 } :=
      I.turnedNew (ch := [e, it]) (fun b ob hb q => (sb.2 b (fun z => hb (by simp [z]))).trans (hk b ob (fun z => hb (by simp [z])) (fun z => hb (by simp [z])) q)) hf (Nat.le_refl _) new
    refine ⟨.ref s.heap.objs.size, _, I1, rfl, ⟨_, x, rfl, I.hok.fresh (Nat.le_refl _), rfl, fun ys hy => by rw [I.list_inj hy hq]; exact hx⟩, ⟨⟨u, ?_⟩, hit'.at fun o q => (sb.2 it (Ne.symm hne)).trans q, hne⟩, fun b hb => ?_⟩
    · have e1 : ((i + 1 : Nat) : Int) = (i : Int) + 1 := by omega
      rw [e1]; exact he'
    · have hb' : b < s.heap.objs.size := by
        have e' : b = e ∨ b = it := by simpa using hb
        rcases e' with z | z
        · rw [z]; exact hel
        · rw [z]; exact hil
      rw [upd_ne (Nat.ne_of_lt hb')]
      exact (hf b hb).1
  done := by
    intro X hP hw hK hc i pins s σ H E I hf st hg
    subst hP hw hK
    obtain ⟨⟨old, he⟩, hit, hne⟩ := st
    obtain ⟨xs, hq, hx⟩ := hg
    obtain ⟨its, rv, p, hz⟩ := I.list hq
    obtain ⟨f0, f1, f2, f3, f4, f5⟩ := hf it (by simp)
    have hl := rv.length
    exact wpAny_pyNext_enum_end (I.ok.hd hc) he hit p.isList (by simp; omega) fun h' eb => ⟨rfl, I.turned (t' := s.toks) (fun b o hb q => eb b o hb q) f0 f1 f3 f4 f5⟩
  self := fun A i s Q E st h => let ⟨⟨_, he⟩, _⟩ := st; wpAny_pyIter_enum he h
def iEnum (K : PySem.W.Frag) (ta : TA) : TI := fun σ H R => ta σ H fun vs H1 => ∃ a xs, vs = [.ref a] ∧ SqL K H1 a xs ∧ R (Ite K a) H1
theorem pi_enum {X : Cx} {e : Expr} {ta : TA} {p pos tpos : Pos} {elts : List Expr} {kk : Nat} (hg : Gl X "enumerate") (hm : X.mg "enumerate" = none) (ha : PA X [e] ta) (hs : starEach [e] X.env = [(false, eval e X.env)] := by rfl) :
    PI X (.Tuple elts kk tpos) (.Call (.Name "enumerate" p) [e] [] pos) (iEnum X.K ta) := by
  intro pins s σ H R I h
  refine Call_ (ld_blt I hg hm boot_enumerate (PyProof.Rows.callWith_type1 (thn (ha pos pins s σ H _ I h) fun us s1 ⟨vs, H1, I1, r1, q1⟩ => ?_) hs rfl))
  obtain ⟨a, xs, ex, hq, q⟩ := q1
  subst ex
  cases r1 with
  | cons r rr =>
    cases rr
    cases r
    obtain ⟨its, rv, p', hz⟩ := I1.list hq
    refine call_enumerate_list p'.isList fun h' he hit hsz hk => wpAny_pyIter_enum he ?_
    have I2 : Inv X pins σ H1 { s1 with heap := h' } := I1.kept (t' := s1.toks) hk
    refine ⟨s1.heap.objs.size + 1, [s1.heap.objs.size + 1, s1.heap.objs.size], _, _, H1, rfl, I2, turn_enum a (s1.heap.objs.size + 1) s1.heap.objs.size, ⟨⟨.none, he⟩, hit, Nat.succ_ne_self _⟩, fun b hb => ?_, q⟩
    have e' : b = s1.heap.objs.size + 1 ∨ b = s1.heap.objs.size := by simpa using hb
    have hle : s1.heap.objs.size ≤ b := by
      rcases e' with z | z
      · rw [z]; exact Nat.le_add_right _ _
      · rw [z]; exact Nat.le_refl _
    exact I1.fpOk hle (I1.hok.fresh hle)
def Itz (K : PySem.W.Frag) (a b : Addr) : It :=
  ⟨fun i H => ∃ (xs ys : List V) (x y : V), SqL K H a xs ∧ SqL K H b ys ∧ xs[i]? = some x ∧ ys[i]? = some y,
    fun i H v H' => ∃ T x y, v = .ref T ∧ H T = none ∧ H' = upd H T (.tup [x, y]) ∧ (∀ xs, SqL K H a xs → xs[i]? = some x) ∧ ∀ ys, SqL K H b ys → ys[i]? = some y,
    fun i H => ∃ xs ys : List V, SqL K H a xs ∧ SqL K H b ys ∧ (xs.length ≤ i ∨ ys.length ≤ i)⟩
def iZip (K : PySem.W.Frag) (ta : TA) : TI := fun σ H R => ta σ H fun vs H1 => ∃ a b xs ys, vs = [.ref a, .ref b] ∧ SqL K H1 a xs ∧ SqL K H1 b ys ∧ R (Itz K a b) H1
end L2
section 
namespace Bits
open PySem PyProof.Rows
end Bits
end 
section 
namespace TL
open PySem PySem.Builtin PySem.Builtin.Str PySem.StrLaws
abbrev tl (x : Str) : List Nat := x.cps.toList
theorem len_tl (x : Str) : x.length = (tl x).length := by simp [tl, Str.length]
theorem ext_tl {x y : Str} (h : tl x = tl y) : x = y := Str.ext' (Array.toList_inj.mp h)
theorem tl_append (x y : Str) : tl (x ++ y) = tl x ++ tl y := by
  show (x ++ y).cps.toList = _
  rw [Str.cps_append, Array.toList_append]
def pre (S l : List Nat) : Bool := l.take S.length == S
def spl (S : List Nat) : Nat → List Nat → List Nat → List (List Nat)
  | _, acc, [] => [acc]
  | 0, acc, c :: r => if pre S (c :: r) = true then acc :: spl S (S.length - 1) [] r else spl S 0 (acc ++ [c]) r
  | k + 1, acc, _ :: r => spl S k acc r
def par (S : List Nat) : List Nat → List Nat → Option (List Nat × List Nat)
  | _, [] => none
  | acc, c :: r => if pre S (c :: r) = true then some (acc, (c :: r).drop S.length) else par S (acc ++ [c]) r
theorem spl_nil (S : List Nat) (k : Nat) (acc : List Nat) : spl S k acc [] = [acc] := by cases k <;> rfl
theorem spl_hit {S acc r : List Nat} {c : Nat} (h : pre S (c :: r) = true) : spl S 0 acc (c :: r) = acc :: spl S (S.length - 1) [] r := by
  show (if pre S (c :: r) = true then acc :: spl S (S.length - 1) [] r else spl S 0 (acc ++ [c]) r) = _
  rw [if_pos h]
theorem spl_miss {S acc r : List Nat} {c : Nat} (h : pre S (c :: r) = false) : spl S 0 acc (c :: r) = spl S 0 (acc ++ [c]) r := by
  show (if pre S (c :: r) = true then acc :: spl S (S.length - 1) [] r else spl S 0 (acc ++ [c]) r) = _
  rw [if_neg (by rw [h]; exact Bool.false_ne_true)]
theorem spl_pass (S : List Nat) : ∀ (k : Nat) (acc l : List Nat), spl S k acc l = spl S 0 acc (l.drop k)
  | 0, _, _ => by rw [List.drop_zero]
  | k + 1, acc, [] => by rw [List.drop_nil, spl_nil, spl_nil]
  | k + 1, acc, c :: r => by
    show spl S k acc r = spl S 0 acc (r.drop k)
    exact spl_pass S k acc r
theorem par_miss {S acc r : List Nat} {c : Nat} (h : pre S (c :: r) = false) : par S acc (c :: r) = par S (acc ++ [c]) r := by
  show (if pre S (c :: r) = true then some (acc, (c :: r).drop S.length) else par S (acc ++ [c]) r) = _
  rw [if_neg (by rw [h]; exact Bool.false_ne_true)]
theorem pre_nil {S : List Nat} (hS : S ≠ []) : pre S [] = false := by
  cases S with
  | nil => exact absurd rfl hS
  | cons s S => rfl
theorem pre_of_head {s c : Nat} (S r : List Nat) (h : c ≠ s) : pre (s :: S) (c :: r) = false := by
  cases hp : pre (s :: S) (c :: r) with
  | false => rfl
  | true =>
    have e : (c :: r).take (s :: S).length = s :: S := eq_of_beq hp
    rw [List.length_cons, List.take_succ_cons] at e
    injection e with e1 e2
    exact absurd e1 h
theorem pre_self (S r : List Nat) : pre S (S ++ r) = true := by
  show ((S ++ r).take S.length == S) = true
  have e : (S ++ r).take S.length = S := List.take_left
  rw [e] <;> exact beq_self_eq_true S
theorem getElem_drop_cons {L : List Nat} {a : Nat} (h : a < L.length) : ∃ c, L.drop a = c :: L.drop (a + 1) := ⟨L[a], List.drop_eq_getElem_cons h⟩
theorem spl_run (S L : List Nat) : ∀ (m a : Nat) (acc : List Nat), a + m ≤ L.length → (∀ k, a ≤ k → k < a + m → pre S (L.drop k) = false) →
    spl S 0 acc (L.drop a) = spl S 0 (acc ++ (L.drop a).take m) (L.drop (a + m))
  | 0, a, acc, _, _ => by rw [List.take_zero, List.append_nil, Nat.add_zero]
  | m + 1, a, acc, h, hn => by
    have hlt : a < L.length := by omega
    obtain ⟨c, e⟩ := getElem_drop_cons hlt
    have h0 := hn a (Nat.le_refl _) (by omega)
    have ih := spl_run S L m (a + 1) (acc ++ [c]) (by omega) (fun k h1 h2 => hn k (by omega) (by omega))
    have e2 : a + 1 + m = a + (m + 1) := by omega
    rw [e2] at ih
    rw [e] at h0
    rw [e, spl_miss h0, ih, List.take_succ_cons, List.append_assoc] <;> rfl
theorem drop_two (L : List Nat) (a b : Nat) : (L.drop a).drop b = L.drop (a + b) := by
  first
    | rw [List.drop_drop]
    | rw [List.drop_drop, Nat.add_comm]
theorem spl_at {S L : List Nat} (hS : S ≠ []) {c : Nat} {acc : List Nat} (h : pre S (L.drop c) = true) : spl S 0 acc (L.drop c) = acc :: spl S 0 [] (L.drop (c + S.length)) := by
  rw [← drop_two]
  cases e : L.drop c with
  | nil => rw [e, pre_nil hS] at h; cases h
  | cons d r =>
    rw [e] at h
    rw [spl_hit h, spl_pass]
    cases S with
    | nil => exact absurd rfl hS
    | cons s S => rfl
theorem at_iff {x y : Str} (hy : tl y ≠ []) (i : Nat) : At x y x.length i ↔ pre (tl y) ((tl x).drop i) = true := by
  have hx := len_tl x
  have hl := len_tl y
  constructor
  · intro h
    have h2 := h.2
    rw [subAt_eq, hl] at h2
    exact h2
  · intro h
    have e : ((tl x).drop i).take (tl y).length = tl y := eq_of_beq h
    have e1 := congrArg List.length e
    rw [List.length_take, List.length_drop] at e1
    have e2 : 0 < (tl y).length := List.length_pos_iff.mpr hy
    refine ⟨by omega, ?_⟩
    rw [subAt_eq, hl]
    exact h
theorem no_at {x y : Str} (hy : tl y ≠ []) {i : Nat} (h : ¬ At x y x.length i) : pre (tl y) ((tl x).drop i) = false := by
  cases hp : pre (tl y) ((tl x).drop i) with
  | false => rfl
  | true => exact absurd ((at_iff hy i).mpr hp) h
theorem tl_strSub (x : Str) (i j : Nat) : tl (strSub x i j) = ((tl x).drop i).take (j - i) := strSub_toList x i j
theorem tl_strSub_end (x : Str) (i : Nat) : tl (strSub x i x.length) = (tl x).drop i := by
  rw [tl_strSub, len_tl x]
  exact List.take_of_length_le (by rw [List.length_drop] <;> omega)
theorem spl_part {S p rest acc : List Nat} (hS : S ≠ []) (h : ∀ i, i < p.length → pre S ((p ++ (S ++ rest)).drop i) = false) :
    spl S 0 acc (p ++ (S ++ rest)) = (acc ++ p) :: spl S 0 [] rest := by
  have run := spl_run S (p ++ (S ++ rest)) p.length 0 acc (by rw [List.length_append]; omega) (fun k _ k2 => h k (by omega))
  have ed : (p ++ (S ++ rest)).drop p.length = S ++ rest := List.drop_left
  rw [List.drop_zero, Nat.zero_add, List.take_left] at run
  rw [run, spl_at hS (by rw [ed]; exact pre_self S rest), ← drop_two, ed, List.drop_left]
theorem spl_last {S p acc : List Nat} (h : ∀ i, i < p.length → pre S (p.drop i) = false) : spl S 0 acc p = [acc ++ p] := by
  have run := spl_run S p p.length 0 acc (by omega) (fun k _ k2 => h k (by omega))
  rw [List.drop_zero, Nat.zero_add, List.drop_length, spl_nil, List.take_length] at run
  exact run
theorem free_of {s : Nat} {S p q : List Nat} (h : s ∉ p) : ∀ i, i < p.length → pre (s :: S) ((p ++ q).drop i) = false := fun i hi => by
  have hlt : i < (p ++ q).length := by rw [List.length_append]; omega
  have e : (p ++ q).drop i = (p ++ q)[i] :: (p ++ q).drop (i + 1) := List.drop_eq_getElem_cons hlt
  rw [e]
  refine pre_of_head _ _ fun z => h ?_
  have e1 : (p ++ q)[i] = p[i] := List.getElem_append_left hi
  rw [← z, e1]
  exact List.getElem_mem hi
theorem spl_part1 {s : Nat} {S p rest acc : List Nat} (h : s ∉ p) : spl (s :: S) 0 acc (p ++ (s :: S ++ rest)) = (acc ++ p) :: spl (s :: S) 0 [] rest :=
  spl_part (by simp) (free_of h)
theorem spl_last1 {s : Nat} {S p acc : List Nat} (h : s ∉ p) : spl (s :: S) 0 acc p = [acc ++ p] := spl_last fun i hi => by
  have z := free_of (S := S) (q := []) h i hi
  rw [List.append_nil] at z
  exact z
def joinL (S : List Nat) : List (List Nat) → List Nat
  | [] => []
  | [p] => p
  | p :: q :: r => p ++ (S ++ joinL S (q :: r))
def numL (n : Nat) : List Nat := (Nat.toDigits 10 n).map Char.toNat
def wstep (st : List (List Nat) × List Nat) (c : Nat) : List (List Nat) × List Nat :=
  if Unicode.isSpace c = true then (if st.2 = [] then st else (st.1 ++ [st.2], [])) else (st.1, st.2 ++ [c])
def wfin (st : List (List Nat) × List Nat) : List (List Nat) := if st.2 = [] then st.1 else st.1 ++ [st.2]
theorem len0_tl (x : Str) : x.length = 0 ↔ tl x = [] := by
  rw [len_tl]
  exact List.length_eq_zero_iff
theorem step_tl (ws : List Str) (u : Str) (c : Nat) : ((KWd.step (ws, u) c).1.map tl, tl (KWd.step (ws, u) c).2) = wstep (ws.map tl, tl u) c := by
  by_cases hc : Unicode.isSpace c = true
  · by_cases hu : u.length = 0
    · have a : KWd.step (ws, u) c = (ws, u) := (if_pos hc).trans (if_pos hu)
      have b : wstep (ws.map tl, tl u) c = (ws.map tl, tl u) := (if_pos hc).trans (if_pos ((len0_tl u).mp hu))
      rw [a, b] <;> rfl
    · have a : KWd.step (ws, u) c = (ws ++ [u], Str.empty) := (if_pos hc).trans (if_neg hu)
      have b : wstep (ws.map tl, tl u) c = (ws.map tl ++ [tl u], []) := (if_pos hc).trans (if_neg fun z => hu ((len0_tl u).mpr z))
      rw [a, b]
      show ((ws ++ [u]).map tl, ([] : List Nat)) = _
      rw [List.map_append] <;> rfl
  · have a : KWd.step (ws, u) c = (ws, u ++ ⟨#[c]⟩) := if_neg hc
    have b : wstep (ws.map tl, tl u) c = (ws.map tl, tl u ++ [c]) := if_neg hc
    rw [a, b]
    show (ws.map tl, tl (u ++ ⟨#[c]⟩)) = _
    rw [tl_append] <;> rfl
theorem wfold_word : ∀ (p : List Nat) (ws : List (List Nat)) (u : List Nat), (∀ c ∈ p, Unicode.isSpace c = false) → p.foldl wstep (ws, u) = (ws, u ++ p)
  | [], ws, u, _ => by rw [List.append_nil] <;> rfl
  | c :: r, ws, u, h => by
    have hc := h c (List.mem_cons_self ..)
    rw [List.foldl_cons]
    have e : wstep (ws, u) c = (ws, u ++ [c]) := if_neg (by rw [hc]; exact Bool.false_ne_true)
    rw [e, wfold_word r ws (u ++ [c]) fun d hd => h d (List.mem_cons_of_mem _ hd), List.append_assoc] <;> rfl
end TL
end 
namespace L2
open PySem PySem.Spec PyProof.Rows
def rNewStrs (ys : List Str) : Hp → VK → Prop := fun H Q => ∀ p, H p = none → Q (.ref p) (upd H p (.lst (ys.map V.str)))
section
variable {X : Cx} {pins : List (Addr × Obj)} {σ : St} {H : Hp} {s : Shared} {Q : VK}
end
section
variable {X : Cx}
end
section
variable {X : Cx} {o e : Expr} {to te : TE}
def tM0 (r : V → List V → Hp → VK → Prop) (to : TE) : TE := fun σ H Q => to σ H fun x H1 => (∃ a, x = .str a) ∧ r x [] H1 Q
def tM1 (r : V → List V → Hp → VK → Prop) (to te : TE) : TE := fun σ H Q => to σ H fun x H1 => (∃ a, x = .str a) ∧ te σ H1 fun y H2 => r x [y] H2 Q
end
end L2
namespace L2
open PySem PySem.Spec PyProof.Rows
section
variable {X : Cx}
end
def clipS (n d : Nat) : Option Int → Int
  | none => (d : Int)
  | some i => max 0 (min (if i < 0 then i + (n : Int) else i) (n : Int))
def cutS (z : Str) (lo hi : Option Int) : Str :=
  ⟨((z.cps.toList.drop (HT.sIx z.length 0 lo)).take (HT.sIx z.length z.length hi - HT.sIx z.length 0 lo)).toArray⟩
def rSlS : V → Option Int → Option Int → Hp → VK → Prop := fun x lo hi H Q => ∃ z, x = .str z ∧ z.length ≤ sizeLine ∧ Q (.str (cutS z lo hi)) H
end L2
namespace Att
open PySem PySem.W PySem.Calls PyProof.Rows
theorem ints_of_wellAll {P : Params} {h : Heap} : ∀ (ns : List Int) (vs : List Value), WellAll P h vs (ns.map WData.int) → IntsAre vs ns := by
  intro ns
  induction ns with
  | nil =>
    intro vs w
    rw [List.map_nil] at w
    cases w
    exact .nil
  | cons n ns ih =>
    intro vs w
    rw [List.map_cons] at w
    cases w with
    | cons a b =>
      cases a
      exact .cons _ _ (ih _ b)
theorem script_of {l : OpenLaw} {n : Nat} (hn : l.most = some n) {P : Params} {h : Heap} {args : List WData} {vals : List Value}
    (hpre : l.row.toRowW.claim.pre args = true) (hwl : WellAll P h vals args) :
    ∃ a vs ns, vals = [Value.ref a] ∧ args = [WData.list (ns.map WData.int)] ∧ h.get? a = some { cls := .type "list", data := .seq vs.toArray } ∧ IntsAre vs ns ∧ ns.length ≤ n := by
  have hsh : WShape.hasAll [] args [.list .int] = true := (pre_splitW hpre).1
  have hc : l.pre.holds [] { args := args } = true := (pre_splitW hpre).2
  obtain ⟨d, r, rfl, h1, h2⟩ := hasAllW_cons hsh
  obtain rfl := hasAllW_nil h2
  obtain ⟨xs, rfl, h3⟩ := hasW_list h1
  obtain ⟨ns, rfl⟩ := items_int h3
  have hlen : ns.length ≤ n := by
    unfold OpenLaw.pre at hc
    have h4 : (WTm.not (.lt (.lit (.int (n : Int))) (.len (.arg 0)))).holds [] { args := [.list (ns.map .int)] } = true := by
      have h4 := (holds_andW hc).1
      rw [hn] at h4
      exact h4
    have h5 := condW_of h4 (w_not (w_lt w_lit (w_len_list (w_arg rfl))))
    rw [List.length_map] at h5
    refine Nat.le_of_not_lt fun q => ?_
    have q' : (n : Int) < ((ns.length : Nat) : Int) := by omega
    first
      | (rw [decide_eq_true q'] at h5; exact absurd h5 (by decide))
      | (simp at h5; omega)
  cases hwl with
  | cons w1 w2 =>
    cases w2
    cases w1 with
    | list ho hall => exact ⟨_, _, ns, rfl, rfl, ho, ints_of_wellAll ns _ hall, hlen⟩
theorem post_true (l : OpenLaw) (args : List WData) : l.row.toRowW.claim.post args (.bool true) args = true :=
  postW_of (r := l.row.toRowW) (X := (true == true))
    (show WShape.has [] (.bool true) .bool = true by first | rfl | decide | simp [WShape.has, WShape.arms, WShape.armsAll])
    (show (WTm.eq .res (.lit (.bool true))).value [] { args := args, res := some (.bool true), after := args } = some (.bool (true == true)) from w_eq_bool (w_res rfl) w_lit) rfl
theorem attach_call {l : OpenLaw} {n : Nat} {q : Program} {loose : List Str} {XP : (Str → Option Value) → Heap → Prop} {YP : World → Heap → Prop} {d : DefRec}
    (hn : l.most = some n) (hdf : d.params.defaults = [])
    (call : ∀ (w : World) (s₀ s₁ : Shared) (mg mb : Str → Option Value) (fa : Addr) (o : Obj) (pm cd doc : Value) (a : Addr) (vs : List Value) (ns : List Int),
      Ground q loose [] XP w s₀ mg mb s₁.heap → YP w s₁.heap →
      s₁.heap.get? fa = some o → o.data = .func (docDef d.name d.params d.body d.scope pm cd doc) → s₁.heap.CodeRec cd d.name → mg d.name = some (.ref fa) →
      s₁.heap.get? a = some { cls := .type "list", data := .seq vs.toArray } → IntsAre vs ns → ns.length ≤ n → s₁.gens = #[] →
      codeAny (model l.prog w) callerA (.call (.ref fa) ⟨[.ref a], []⟩) (fun r s' => r = .ok (.ret (.bool true)) ∧ OldK s₁.heap s'.heap ∧ s'.os = s₁.os ∧ AllBare s'.gens) s₁) :
    WalkO q loose XP YP l.row.toRowW d [] (fun f vs => PySem.call f vs) := by
  intro w s₀ s₁ mg mb G Y fa o pm cd doc dV kV ho hd hcd hD hmg hg args vals as hpre hlay hrd hwl hlo
  obtain rfl : dV = .none := Dflts.none hD hdf
  obtain rfl : kV = .none := Dflts.noKw hD
  obtain ⟨a, vs, ns, rfl, rfl, hobj, hints, hlen⟩ := script_of hn hpre hwl
  refine enter_call (codeAny_mono (call w s₀ s₁ mg mb fa o pm cd doc a vs ns G Y ho (fd_plain hd) hcd hmg hobj hints hlen hg) fun r s' hq => ?_)
  obtain ⟨rfl, h2, h3, h4⟩ := hq
  exact ⟨.inl ⟨.bool true, .bool true, [], rfl, fun _ => rfl, .bool true, post_true l _, fun _ => ⟨List.Pairwise.nil, fun _ hm => (nomatch hm)⟩⟩, h2, h3, h4⟩
section
variable {prog : Program} {w : World} {A : Around} {E : Value → Shared → Prop} {s : Shared} {K : Frag}
def noObjs (h : Heap) : Heap := { h with objs := #[] }
def ledger (h : Heap) (L d : Addr) : List (Addr × Obj) := (List.range h.objs.size).filterMap fun a => if a = L ∨ a = d then none else (h.get? a).map fun o => (a, o)
end
end Att
namespace L2
open PySem PySem.Spec PyProof.Rows
theorem vals_ints : ∀ {vs : List Value} {ns : List Int}, IntsAre vs ns → Vals (ns.map V.int) vs
  | _, _, .nil => .nil
  | _, _, .cons n t h => .cons ⟨t, rfl⟩ (vals_ints h)
def Only (H : Hp) : Prop := ∀ b, H b = none ∨ ∃ o xs, H b = some (.frz o (.lst xs))
theorem law_call {P : Program} {w : World} {K : PySem.W.Frag} {mg mb : Str → Option Value} {CX : CXT} {k : Nat} {fa a : Addr} {fd : FuncData} {x : Str} {sp : Sp} {s₁ : Shared} {vs : List Value} {ns : List Int}
    (KX : K.In s₁.heap) (hns : s₁.heap.Ns mainGlobals mg) (hb : s₁.heap.Ns builtinsNs mb) (hbb : ∀ x : Str, x ≠ "__name__" → mb x = bootBuiltins x) (hlim : s₁.heap.NoLimit) (hg : s₁.gens = #[])
    (ha : s₁.heap.get? a = some { cls := .type "list", data := .seq vs.toArray }) (hi : IntsAre vs ns) (hl : ns.length ≤ sizeLine) (hr : Room k callerA)
    (F : ∀ base : Heap, K.In base → base.Ns mainGlobals mg → FnOk P w K mg base CX k fa fd [x] sp) (hbind : ∀ (s : Shared) (u : Value), BindsTo s fd ⟨[u], []⟩ [(x, u)])
    (hsp : ∀ H : Hp, Only H → SqL K H a (ns.map V.int) → sp [.ref a] H (fun v _ => v = .bl true) fun _ _ _ => False)
    (hCX : ∀ H e s', CX [] H s₁ (fun _ _ _ => False) e s' → False) :
    codeAny (model P w) callerA (.call (.ref fa) ⟨[.ref a], []⟩) (fun r s' => r = .ok (.ret (.bool true)) ∧ OldK s₁.heap s'.heap ∧ s'.os = s₁.os ∧ AllBare s'.gens) s₁ := by
  have rv := vals_ints hi
  have lenV := hi.length
  -- from an abstract heap in which nothing but the script may be tracked
  have core : ∀ H : Hp, Only H → SqL K H a (ns.map V.int) → HOk P w H s₁.heap → (∀ b, H b ≠ none → b = a) → (H a ≠ none → K.lookup a = none) →
      codeAny (model P w) callerA (.call (.ref fa) ⟨[.ref a], []⟩) (fun r s' => r = .ok (.ret (.bool true)) ∧ OldK s₁.heap s'.heap ∧ s'.os = s₁.os ∧ AllBare s'.gens) s₁ := by
    intro H hO hS hok hA hK
    have base_of : ∀ {b : Addr} {o : Obj}, s₁.heap.get? b = some o → H b = none → (hidT s₁.heap H).get? b = some o := fun e n => hidT_get e n
    have noA : ∀ {b : Addr} {o : Obj} {es : Array DictEntry} {ep : Nat}, s₁.heap.get? b = some o → o.data = .dict es ep → H b = none := fun {b o es ep} e d => by
      cases q : H b with
      | none => rfl
      | some u =>
        have e' : b = a := hA b (by rw [q]; simp)
        subst e'
        rw [ha] at e; cases e
        have d' : Data.seq vs.toArray _ = Data.dict es ep := d
        cases d'
    have nsK : ∀ {b : Addr} {m : Str → Option Value}, s₁.heap.Ns b m → (hidT s₁.heap H).Ns b m := fun {b m} ⟨o, es, ep, e, d, r⟩ => ⟨o, es, ep, base_of e (noA e d), d, r⟩
    have hKb : K.In (hidT s₁.heap H) := fun b o e => base_of (KX b o e) (by
      cases q : H b with
      | none => rfl
      | some u =>
        have e' : b = a := hA b (by rw [q]; simp)
        subst e'
        rw [hK (by rw [q]; simp)] at e; cases e)
    have hM : Mod K mg (hidT s₁.heap H) := ⟨hKb, nsK hns, ⟨mb, nsK hb, hbb⟩, let ⟨mc, h1, h2⟩ := hlim; ⟨mc, nsK h1, h2⟩⟩
    have e0 : Env0 P w K mg (hidT s₁.heap H) callerA [] s₁ H := ⟨rfl, hM, fun b o e => of_hidT e, Nat.le_of_eq (hidT_size _ _), trivial, fun b hb => absurd (show b ∈ ([] : List Addr) from hb) (by simp), hok, .of_eq hg⟩
    refine codeAny_mono ((F _ hKb (nsK hns)).run callerA [] s₁ H ⟨[.ref a], []⟩ [.ref a] [.ref a] _ _ hr e0 (hbind s₁ (.ref a)) (.cons rfl .nil) (hsp H hO hS)) fun r s' h => ?_
    cases r with
    | error e => exact (hCX H e s' h).elim
    | ok fl =>
      cases fl with
      | next => exact False.elim h
      | brk => exact False.elim h
      | cont => exact False.elim h
      | ret u =>
        obtain ⟨v, H', os, bare, un, hok', r', q⟩ := h
        have q' : v = .bl true := q
        subst q'
        obtain rfl : u = Value.bool true := r'
        refine ⟨rfl, OldK.of_keep fun b o e => ?_, os, bare⟩
        cases q : H b with
        | none => exact un.keep b o e q (by intro z; exact absurd (show b ∈ ([] : List Addr) from z) (by simp)) (by simp)
        | some u =>
          rcases hO b with z | ⟨ob, xs, z⟩
          · rw [q] at z; cases z
          · have z2 := un.frzs b ob _ z
            obtain ⟨e1, _⟩ := hok b _ z
            obtain ⟨e2, _⟩ := hok' b _ z2
            rw [e] at e1; cases e1
            exact e2
  cases hk : K.lookup a with
  | some o =>
    -- the script is one of the module's own objects
    have e := KX a o hk
    rw [ha] at e
    cases e
    refine core (fun _ => none) (fun _ => .inl rfl) (.inr ⟨_, vs.toArray, _, hk, rfl, rfl, rfl, by rw [List.size_toArray, lenV]; exact hl, by simpa using rv⟩) (fun b u z => by have z' : (none : Option HO) = some u := z; cases z') (fun b z => absurd rfl z) fun z => absurd rfl z
  | none =>
    refine core (fun b => if b = a then some (.frz { cls := .type "list", data := .seq vs.toArray } (.lst (ns.map V.int))) else none) (fun b => ?_) (.inl (.inr ⟨{ cls := .type "list", data := .seq vs.toArray }, if_pos rfl⟩)) (fun b u z => ?_) (fun b z => ?_) fun _ => hk
    · by_cases hb : b = a
      · exact .inr ⟨_, _, if_pos hb⟩
      · exact .inl (if_neg hb)
    · by_cases hb : b = a
      · have z' := (if_pos hb).symm.trans z
        cases z'
        subst hb
        exact ⟨ha, by rw [List.length_map]; exact hl, vs, _, rv, ha⟩
      · have z' := (if_neg hb).symm.trans z
        cases z'
    · by_cases hb : b = a
      · exact hb
      · exact absurd (if_neg hb) z
end L2
namespace L2
open PySem PySem.Spec PyProof.Rows
abbrev KOf {K : PySem.W.Frag} {h : Heap} (_ : K.In h) : PySem.W.Frag := K
theorem walk_of {l : PySem.W.OpenLaw} {n k : Nat} {q : Program} {loose : List Str} {XP : (Str → Option Value) → Heap → Prop} {YP : World → Heap → Prop} {d : DefRec} {K : Params → PySem.W.Frag} {CX : World → CXT} {sp : World → Sp} {x : Str}
    (hn : l.most = some n) (hn2 : n ≤ sizeLine) (hdf : d.params.defaults = []) (hr : Room k callerA)
    (hY : ∀ (w : World) (h : Heap), YP w h → (K w.params).In h)
    (F : ∀ (w : World) (mg : Str → Option Value) (fa : Addr) (h : Heap), (K w.params).In h → h.Ns mainGlobals mg → mg d.name = some (.ref fa) →
      ∃ fd : FuncData, (∀ (s : Shared) (u : Value), BindsTo s fd ⟨[u], []⟩ [(x, u)]) ∧
        ∀ base : Heap, (K w.params).In base → base.Ns mainGlobals mg → FnOk l.prog w (K w.params) mg base (CX w) k fa fd [x] (sp w))
    (hsp : ∀ (w : World) (H : Hp) (a : Addr) (ns : List Int), ns.length ≤ n → Only H → SqL (K w.params) H a (ns.map V.int) → sp w [.ref a] H (fun v _ => v = .bl true) fun _ _ _ => False)
    (hCX : ∀ (w : World) (H : Hp) (s : Shared) (e : Value) (s' : Shared), CX w [] H s (fun _ _ _ => False) e s' → False) :
    PySem.W.WalkO q loose XP YP l.row.toRowW d [] (fun f vs => PySem.call f vs) := by
  refine Att.attach_call hn hdf fun w s₀ s₁ mg mb fa o pm cd doc a vs ns G Y ho hd hcd hmg hobj hints hlen hg => ?_
  have KX := hY w _ Y
  obtain ⟨fd, hb, hF⟩ := F w mg fa _ KX G.T.g hmg
  exact law_call KX G.T.g G.T.b G.T.builtins G.T.nolimit hg hobj hints (Nat.le_trans hlen hn2) hr hF hb (fun H hO hS => hsp w H a ns hlen hO hS) fun H e s' => hCX w H s₁ e s'
end L2
/- THE LAST THEOREM (shape; LID, My.* are yours):
   My.Adr: a structure of the addresses that your layer names (classes, functions); My.Txt K t: a structure (Prop) of the equations over K;
   My.txt_mk : {K} {implicit addresses ..} (e1 : nsIn K mainGlobals "law" = some (some (.ref f))) (e2 : K.lookup f = some ⟨oc, od, .func (fnOf "law" "law" params body scope dV kV doc pm an cdv ct), sl⟩) (e3 : codeIn K cdv "law" = true) .. : ∃ t, My.Txt K t
set_option maxRecDepth 100000 in
set_option maxHeartbeats 0 in
theorem PySem.Challenge.cw_LID_holds : PySem.Challenge.rw_LID.Holds := by
  w_on; o_law; k_head; (case hw => w_witness2)
  k_fill
  refine L2.walk_of (l := PySem.Challenge.rw_LID) (n := 63) (k := 40) (x := "script") (CX := fun w => ..) (sp := fun _ => My.sp_law) rfl (by decide) rfl ⟨rfl, by decide, by decide⟩ (fun w h Y => PySem.W.kIn_of Y) ?F ?S ?C
  case F =>
    intro w mg fa h KX G hmg
    have T : ∃ t, My.Txt (L2.KOf KX) t := by
      dsimp only [L2.KOf]                          -- K must stand as «<heap const> w.params» for k_is
      refine' My.txt_mk ?e1 ?e2 ?e3 ..
      (case e1 => PySem.W.k_is)                    -- in the order: a name -> its address -> its object -> its parts
      (case e2 => PySem.W.k_is)
      ..
    obtain ⟨t, T⟩ := T
    have e0 := hmg.symm.trans (PySem.W.mg_of KX G T.law)
    cases e0                                       -- fa is the law's own address
    exact ⟨_, fun s u => .of_eq rfl, fun base kb nb => My.law_fn T kb nb⟩     -- if «.of_eq rfl» comes too early: refine' ⟨_, ?b, fun base kb nb => My.law_fn T kb nb⟩; exact fun s u => .of_eq rfl
  case S => exact fun w H a ns hl hO hS => ..
  case C => exact ..
(the tactic k_is has no namespace: write k_is) -/
namespace L2
open PySem PySem.Spec PyProof.Rows
def inClass (s : Stmt) (j : Nat) : Stmt := match s with
  | .ClassDef _ _ _ body _ _ _ _ _ _ _ => body.getD j (.Pass ⟨0, 0, 0, 0⟩)
  | _ => .Pass ⟨0, 0, 0, 0⟩
def defArgs (s : Stmt) : Arguments := match s with
  | .FunctionDef _ a _ _ _ _ _ _ _ _ => a
  | _ => { posonlyargs := [], args := [], vararg := none, kwonlyargs := [], kw_defaults := [], kwarg := none, defaults := [] }
def defBody (s : Stmt) : List Stmt := match s with
  | .FunctionDef _ _ b _ _ _ _ _ _ _ => b
  | _ => []
def defScope (s : Stmt) : Scope := match s with
  | .FunctionDef _ _ _ _ _ _ sc _ _ _ => sc
  | _ => { kind := .function, names := [], isGenerator := false, isCoroutine := false }
abbrev CX0 : CXT := fun _ _ _ _ _ _ => False
abbrev E0 : XK := fun _ _ _ => False
theorem pass0 {X : Cx} : Passes CX0 X E0 := fun _ _ _ _ _ _ _ h => h.elim
structure Fun (K : PySem.W.Frag) (x qual : Str) (st : Stmt) (f : Addr) (fd : FuncData) : Prop where
  ex : ∃ (oc : Value) (od : Option Addr) (kV doc pm : Value) (an : Option Addr) (cdv ct : Value) (osl : Array (Option Value)),
    fd = PySem.W.fnOf x qual (defArgs st) (defBody st) (defScope st) .none kV doc pm an cdv ct ∧ K.lookup f = some ⟨oc, od, .func fd, osl⟩ ∧ PySem.W.codeIn K cdv qual = true
  kp : PySem.W.keepIn K (.ref f) = true
section
variable {P : Program} {w : World} {K : PySem.W.Frag} {mg : Str → Option Value} {base : Heap}
theorem Fun.ok {x qual : Str} {st : Stmt} {f : Addr} {fd : FuncData} {N ps : List Str} {k : Nat} {sp : Sp} (F : Fun K x qual st f fd) (S : FnScope N ps (defScope st)) (len : ∀ vs H Q E, sp vs H Q E → vs.length = ps.length)
    (hbody : ∀ (cdv : Value) (A : Around) (outer : List Env) (s : Shared) (H : Hp) (vs : List V) (Q : VK) (E : XK), Room k (A.deeper (envOfC qual (defScope st) s.heap.objs.size f cdv)) → sp vs H Q E →
      ∃ t, PSs (cxOf CX0 P w K mg base N qual (defScope st) f cdv A outer s H E).nox (defBody st) t ∧ t { nx := fun _ H' => Q .non H', rt := Q } (start N vs) H) : FnOk P w K mg base CX0 (k + 1) f fd ps sp := by
  obtain ⟨oc, od, kV, doc, pm, an, cdv, ct, osl, rfl, lk, hcd⟩ := F.ex
  refine fn_of lk hcd S len fun A outer s H vs Q E hr hsp => ?_
  obtain ⟨t, h, q⟩ := hbody cdv A outer s H vs Q E hr hsp
  exact ⟨t, h.nox, q⟩
theorem Fun.binds {x qual : Str} {st : Stmt} {f : Addr} {fd : FuncData} {ps : List Str} (F : Fun K x qual st f fd)
    (h : ∀ (kV doc pm : Value) (an : Option Addr) (cdv ct : Value) (us : List Value), us.length = ps.length → bindArgs (PySem.W.fnOf x qual (defArgs st) (defBody st) (defScope st) .none kV doc pm an cdv ct) ⟨us, []⟩ = pure (ps.zip us)) : Binds K fd ps [] := by
  obtain ⟨oc, od, kV, doc, pm, an, cdv, ct, osl, rfl, lk, hcd⟩ := F.ex
  exact .all (h kV doc pm an cdv ct)
theorem fun_mk {x qual : Str} {st : Stmt} {f : Addr} {oc : Value} {od an : Option Addr} {osl : Array (Option Value)} {kV doc pm cdv ct : Value} (l : K.lookup f = some ⟨oc, od, .func (PySem.W.fnOf x qual (defArgs st) (defBody st) (defScope st) .none kV doc pm an cdv ct), osl⟩)
    (c : PySem.W.codeIn K cdv qual = true) (k : PySem.W.keepIn K (.ref f) = true) : Fun K x qual st f (PySem.W.fnOf x qual (defArgs st) (defBody st) (defScope st) .none kV doc pm an cdv ct) := ⟨⟨oc, od, kV, doc, pm, an, cdv, ct, osl, rfl, l, c⟩, k⟩
end
theorem small1000 {n : Nat} (h : n ≤ 1000) : n < sizeLine := Nat.lt_of_le_of_lt h (by decide)
section
variable {X : Cx}
theorem pv (i : Nat) {x : Str} {pos : Pos} (hN : X.N[i]? = some x := by rfl) (hv : Vis X.env.scope x := by first | exact Or.inl rfl | exact Or.inr (Or.inl rfl) | exact Or.inr (Or.inr rfl)) (hd : (x == ("__debug__" : Str)) = false := by decide)
    (hcd : (x == ("__classdict__" : Str)) = false := by decide) : PE X (.Name x pos) (tVar i) := pe_var hN hv hd hcd
end
theorem iteF {A B : Prop} (h : B) : if false = true then A else B := by
  rw [if_neg Bool.false_ne_true]
  exact h
theorem iteT {A B : Prop} (h : A) : if true = true then A else B := by
  rw [if_pos rfl]
  exact h
def Same (H H' : Hp) : Prop := ∀ b o, H b = some o → H' b = some o
theorem Same.refl (H : Hp) : Same H H := fun _ _ h => h
theorem Same.trans {H H1 H2 : Hp} (a : Same H H1) (b : Same H1 H2) : Same H H2 := fun c o h => b c o (a c o h)
theorem Same.free {H H' : Hp} (e : Same H H') {l : Addr} (h : H' l = Option.none) : H l = Option.none := by
  cases q : H l with
  | none => rfl
  | some o =>
    rw [e l o q] at h
    cases h
theorem Same.seq {K : PySem.W.Frag} {H H' : Hp} {a : Addr} {xs : List V} (e : Same H H') (h : SqL K H a xs) : SqL K H' a xs := by
  rcases h with (h | ⟨o, h⟩) | h
  · exact .inl (.inl (e _ _ h))
  · exact .inl (.inr ⟨o, e _ _ h⟩)
  · exact .inr h
section
variable {κ : Type} [DecidableEq κ]
theorem nd_snoc : ∀ {l : List κ} {k : κ}, l.Nodup → ¬ k ∈ l → (l ++ [k]).Nodup
  | [], k, _, _ => by simp
  | a :: r, k, h, hk => by
    obtain ⟨h1, h2⟩ := List.nodup_cons.mp h
    show (a :: (r ++ [k])).Nodup
    refine List.nodup_cons.mpr ⟨fun m => ?_, nd_snoc h2 fun m => hk (List.mem_cons.mpr (Or.inr m))⟩
    rcases List.mem_append.mp m with q | q
    · exact h1 q
    · exact hk (List.mem_cons.mpr (Or.inl (List.mem_singleton.mp q).symm))
theorem dropK_pos {p : κ × V} {r : List (κ × V)} {k : κ} (e : p.1 = k) : dropK (p :: r) k = dropK r k := by
  unfold dropK
  rw [List.filter_cons, if_neg (by simp [e])]
theorem dropK_neg {p : κ × V} {r : List (κ × V)} {k : κ} (e : ¬ p.1 = k) : dropK (p :: r) k = p :: dropK r k := by
  unfold dropK
  rw [List.filter_cons, if_pos (by simp [e])]
theorem dropK_no : ∀ {kvs : List (κ × V)} {k : κ}, ¬ k ∈ kvs.map (·.1) → dropK kvs k = kvs
  | [], _, _ => rfl
  | p :: r, k, h => by
    have h' : ¬ k ∈ r.map (·.1) := fun m => by
      obtain ⟨q, hq, e⟩ := List.mem_map.mp m
      exact h (List.mem_map.mpr ⟨q, List.mem_cons.mpr (Or.inr hq), e⟩)
    rw [dropK_neg fun e => h (List.mem_map.mpr ⟨p, List.mem_cons.mpr (Or.inl rfl), e⟩), dropK_no h']
theorem dropK_mem {kvs : List (κ × V)} {k : κ} {p : κ × V} (h : p ∈ dropK kvs k) : p ∈ kvs := (List.mem_filter.mp h).1
end
theorem at_of {xs : List V} {z : Int} {j : Nat} {v : V} (e : z = (j : Int)) (h : xs[j]? = some v) : atI xs z = some v := by
  rw [e]
  exact atI_nat h
end L2
set_option Elab.async false
set_option linter.all false
set_option maxRecDepth 100000
namespace L2
open PySem PySem.Spec PyProof.Rows
structure Has (P : Program) (w : World) (K : PySem.W.Frag) (mg : Str → Option Value) (base : Heap) (k : Nat) (x : Str) (ps : List Str) (sp : Sp) : Prop where
  ex : ∃ f fd, FnOk P w K mg base CX0 k f fd ps sp ∧ Binds K fd ps [] ∧ PySem.W.keepIn K (.ref f) = true ∧ mg x = some (.ref f) ∧ ∃ o, K.lookup f = some o ∧ o.data = .func fd
structure FunAt (K : PySem.W.Frag) (mg : Str → Option Value) (x : Str) (st : Stmt) (ps : List Str) : Prop where
  ex : ∃ f fd, Fun K x x st f fd ∧ Binds K fd ps [] ∧ mg x = some (.ref f)
theorem pcall {X : Cx} {k k' : Nat} {x : Str} {ps : List Str} {sp : Sp} {p pos : Pos} {e : Expr} {es : List Expr} {t : TA} (h : Has X.prog X.w X.K X.mg X.base k x ps sp) (hr : Room k' X.A) (hk : k ≤ k') (hg : Gl X x)
    (ha : PA X (e :: es) t) (hdb : (x == ("__debug__" : Str)) = false := by decide) (he : starEach (e :: es) X.env = (false, eval e X.env) :: starEach es X.env := by rfl) (hpl : (backTo pos (starEach es X.env)).any (·.1) = false := by rfl) :
    PE X (.Call (.Name x p) (e :: es) [] pos) (tCall sp [] E0 t) := by
  intro pins s σ H Q I q
  obtain ⟨f, fd, F, b, kp, m, _⟩ := h.ex
  exact pe_call F (hr.mono hk) hg m kp b .nil pass0 ha hdb he hpl pins s σ H Q I q
theorem FunAt.has {P : Program} {w : World} {K : PySem.W.Frag} {mg : Str → Option Value} {base : Heap} {x : Str} {st : Stmt} {N ps : List Str} {k : Nat} {sp : Sp} (F : FunAt K mg x st ps) (S : FnScope N ps (defScope st)) (len : ∀ vs H Q E, sp vs H Q E → vs.length = ps.length)
    (hbody : ∀ (f : Addr) (cdv : Value) (A : Around) (outer : List Env) (s : Shared) (H : Hp) (vs : List V) (Q : VK) (E : XK), Room k (A.deeper (envOfC x (defScope st) s.heap.objs.size f cdv)) → sp vs H Q E →
      ∃ t, PSs (cxOf CX0 P w K mg base N x (defScope st) f cdv A outer s H E).nox (defBody st) t ∧ t { nx := fun _ H' => Q .non H', rt := Q } (start N vs) H) : Has P w K mg base (k + 1) x ps sp := by
  obtain ⟨f, fd, F, b, m⟩ := F.ex
  refine ⟨f, fd, F.ok S len (fun cdv A outer s H vs Q E hr h => hbody f cdv A outer s H vs Q E hr h), b, F.kp, m, ?_⟩
  obtain ⟨_, _, _, _, _, _, _, _, _, _, lk, _⟩ := F.ex
  exact ⟨_, lk, rfl⟩
theorem law_ok {P : Program} {w : World} {K : PySem.W.Frag} {mg : Str → Option Value} {base : Heap} {x : Str} {st : Stmt} {f : Addr} {fd : FuncData} {ps : List Str} {k : Nat} {sp : Sp} (F : Fun K x x st f fd) (m : mg x = some (.ref f)) (h : Has P w K mg base k x ps sp) : FnOk P w K mg base CX0 k f fd ps sp := by
  obtain ⟨f', fd', F', b, kp, m', o, lk, ed⟩ := h.ex
  rw [m] at m'
  cases m'
  obtain ⟨_, _, _, _, _, _, _, _, _, _, lk', _⟩ := F.ex
  rw [lk] at lk'
  cases lk'
  cases ed
  exact F'
theorem at_mk {K : PySem.W.Frag} {mg : Str → Option Value} {x : Str} {st : Stmt} {f : Addr} {ps : List Str} {h : Heap} {oc : Value} {od an : Option Addr} {osl : Array (Option Value)} {kV doc pm cdv ct : Value} (X : K.In h) (G : h.Ns mainGlobals mg)
    (a : PySem.W.nsIn K mainGlobals x = some (some (.ref f))) (l : K.lookup f = some ⟨oc, od, .func (PySem.W.fnOf x x (defArgs st) (defBody st) (defScope st) .none kV doc pm an cdv ct), osl⟩) (c : PySem.W.codeIn K cdv x = true) (k : PySem.W.keepIn K (.ref f) = true)
    (hb : ∀ (kV doc pm : Value) (an : Option Addr) (cdv ct : Value) (us : List Value), us.length = ps.length → bindArgs (PySem.W.fnOf x x (defArgs st) (defBody st) (defScope st) .none kV doc pm an cdv ct) ⟨us, []⟩ = pure (ps.zip us)) : FunAt K mg x st ps :=
  ⟨f, _, fun_mk l c k, (fun_mk l c k).binds hb, PySem.W.mg_of X G a⟩
def lsAt (H : Hp) : V → Option (List V)
  | .ref a => match H a with
    | some (.lst xs) => some xs
    | _ => none
  | _ => none
def tpAt (H : Hp) : V → Option (List V)
  | .ref a => match H a with
    | some (.tup xs) => some xs
    | _ => none
  | _ => none
def sqAt (H : Hp) : V → Option (List V)
  | .ref a => match H a with
    | some (.lst xs) => some xs
    | some (.tup xs) => some xs
    | _ => none
  | _ => none
theorem lsAt_some {H : Hp} {x : V} {xs : List V} (h : lsAt H x = some xs) : ∃ a, x = .ref a ∧ H a = some (.lst xs) := by
  unfold lsAt at h
  split at h
  · split at h
    · rename_i a _ ys e; cases h; exact ⟨a, rfl, e⟩
    · cases h
  · cases h
theorem tpAt_some {H : Hp} {x : V} {xs : List V} (h : tpAt H x = some xs) : ∃ a, x = .ref a ∧ H a = some (.tup xs) := by
  unfold tpAt at h
  split at h
  · split at h
    · rename_i a _ ys e; cases h; exact ⟨a, rfl, e⟩
    · cases h
  · cases h
theorem sqAt_some {H : Hp} {x : V} {xs : List V} (h : sqAt H x = some xs) : ∃ a, x = .ref a ∧ (H a = some (.lst xs) ∨ H a = some (.tup xs)) := by
  unfold sqAt at h
  split at h
  · split at h
    · rename_i a _ ys e; cases h; exact ⟨a, rfl, .inl e⟩
    · rename_i a _ ys e; cases h; exact ⟨a, rfl, .inr e⟩
    · cases h
  · cases h
theorem lsAt_of {H : Hp} {a : Addr} {xs : List V} (h : H a = some (.lst xs)) : lsAt H (.ref a) = some xs := by unfold lsAt; simp only [h]
theorem tpAt_of {H : Hp} {a : Addr} {xs : List V} (h : H a = some (.tup xs)) : tpAt H (.ref a) = some xs := by unfold tpAt; simp only [h]
theorem sqAt_lst {H : Hp} {a : Addr} {xs : List V} (h : H a = some (.lst xs)) : sqAt H (.ref a) = some xs := by unfold sqAt; simp only [h]
theorem sqAt_tup {H : Hp} {a : Addr} {xs : List V} (h : H a = some (.tup xs)) : sqAt H (.ref a) = some xs := by unfold sqAt; simp only [h]
section
variable {X : Cx}
def rIxLF : R2 := fun x y H Q => ∃ xs, lsAt H x = some xs ∧ ∃ i, y = .int i ∧ ∃ v, atI xs i = some v ∧ Q v H
def rIxTF : R2 := fun x y H Q => ∃ xs, tpAt H x = some xs ∧ ∃ i, y = .int i ∧ ∃ v, atI xs i = some v ∧ Q v H
theorem IxR.imp {r r' : R2} (h : IxR X r) (hi : ∀ x y H Q, r' x y H Q → r x y H Q) : IxR X r' := fun value slice pins s σ H x y v u Q I rx ry q hs => h value slice pins s σ H x y v u Q I rx ry (hi _ _ _ _ q) hs
theorem OpR.imp {f : Value → Value → Sem Value} {r r' : R2} (h : OpR X f r) (hi : ∀ x y H Q, r' x y H Q → r x y H Q) : OpR X f r' := fun pins s σ H x y v u Q I rx ry q => h pins s σ H x y v u Q I rx ry (hi _ _ _ _ q)
theorem CallR.imp {f : Value} {r r' : List V → Hp → VK → Prop} (h : CallR X f r) (hi : ∀ xs H Q, r' xs H Q → r xs H Q) : CallR X f r' := fun pins s σ H xs us Q I rs q => h pins s σ H xs us Q I rs (hi _ _ _ q)
theorem ix_listF : IxR X rIxLF := ix_list.imp fun x y H Q h => by
  obtain ⟨xs, e, i, rfl, v, ev, q⟩ := h
  obtain ⟨a, rfl, ha⟩ := lsAt_some e
  exact ⟨a, xs, i, v, rfl, rfl, SqL.of ha, ev, q⟩
theorem ix_tupF : IxR X rIxTF := ix_tup.imp fun x y H Q h => by
  obtain ⟨xs, e, i, rfl, v, ev, q⟩ := h
  obtain ⟨a, rfl, ha⟩ := tpAt_some e
  exact ⟨a, xs, i, v, rfl, rfl, SqT.of ha, ev, q⟩
theorem sq_or {K : PySem.W.Frag} {H : Hp} {x : V} {xs : List V} (h : sqAt H x = some xs) : ∃ a, x = .ref a ∧ (SqL K H a xs ∨ SqT K H a xs) := by
  obtain ⟨a, e, h | h⟩ := sqAt_some h
  · exact ⟨a, e, .inl (SqL.of h)⟩
  · exact ⟨a, e, .inr (SqT.of h)⟩
theorem call_lenF : CallR X (.builtin "len") (fun xs H Q => ∃ x, xs = [x] ∧ ∃ ys, sqAt H x = some ys ∧ Q (.int ys.length) H) := call_len_seq.imp fun xs H Q h => by
  obtain ⟨x, rfl, ys, e, q⟩ := h
  obtain ⟨a, rfl, ha⟩ := sq_or (K := X.K) e
  exact ⟨a, ys, rfl, ha, q⟩
theorem call_listF : CallR X (.type "list") (fun xs H Q => ∃ x, xs = [x] ∧ ∃ ys, sqAt H x = some ys ∧ ∀ l, H l = none → Q (.ref l) (upd H l (.lst ys))) := call_list_of.imp fun xs H Q h => by
  obtain ⟨x, rfl, ys, e, q⟩ := h
  obtain ⟨a, rfl, ha⟩ := sq_or (K := X.K) e
  exact ⟨a, ys, rfl, ha, q⟩
theorem call_tupleF : CallR X (.type "tuple") (fun xs H Q => ∃ x, xs = [x] ∧ ∃ ys, lsAt H x = some ys ∧ ∀ l, H l = none → Q (.ref l) (upd H l (.tup ys))) := call_tuple_of.imp fun xs H Q h => by
  obtain ⟨x, rfl, ys, e, q⟩ := h
  obtain ⟨a, rfl, ha⟩ := lsAt_some e
  exact ⟨a, ys, rfl, .inl ⟨SqL.of ha, q⟩⟩
def rInF (neg : Bool) : R2 := fun x y H Q => ∃ xs, sqAt H y = some xs ∧ flatV x = true ∧ xs.all flatV = true ∧ Q (.bl (if neg then !inV x xs else inV x xs)) H
theorem op_notInF : OpR X (compareOp .NotIn) (rInF true) := op_notIn_seq.imp fun x y H Q h => by
  obtain ⟨xs, e, f1, f2, q⟩ := h
  obtain ⟨a, rfl, ha⟩ := sq_or (K := X.K) e
  exact ⟨a, xs, rfl, ha, f1, f2, q⟩
def rSlLF : V → Option Int → Option Int → Hp → VK → Prop := fun x lo hi H Q => ∃ xs, lsAt H x = some xs ∧ ∀ p, H p = none → Q (.ref p) (upd H p (.lst (cutV xs lo hi)))
theorem sl_listF : SlR X rSlLF := by
  intro pins s σ H x v vl vu lo hi sl Q I rx hs pl pu h
  obtain ⟨xs, e, q⟩ := h
  obtain ⟨a, rfl, ha⟩ := lsAt_some e
  exact sl_list pins s σ H _ v vl vu lo hi sl Q I rx hs pl pu ⟨a, xs, rfl, SqL.of ha, q⟩
def gTupF (n : Nat) (t : TGs) : TG := fun v σ H Q => ∃ xs, tpAt H v = some xs ∧ xs.length = n ∧ t xs σ H Q
theorem pg_tupF {es : List Expr} {k : Nat} {t : TGs} {n : Nat} {pos : Pos} (hc : X.calm = true) (h : PGs X es t)
    (hn : (assignEach es X.env).length = n := by rfl) (hst : (assignEach es X.env).findIdx? (·.1) = none := by rfl) : PG X (.Tuple es k pos) (gTupF n t) := by
  intro pins s σ H v u Q I r hw
  obtain ⟨xs, e, hl, hw⟩ := hw
  obtain ⟨a, rfl, ha⟩ := tpAt_some e
  exact pg_tup hc h hn hst pins s σ H _ u Q I r ⟨a, xs, rfl, SqT.of ha, hl, hw⟩
inductive TyF : V → String → Prop
  | non : TyF .non "NoneType"
  | bl (b : Bool) : TyF (.bl b) "bool"
  | int (i : Int) : TyF (.int i) "int"
  | str (x : Str) : TyF (.str x) "str"
end
section
variable {t u : TS} {D : Ends} {σ : St} {H : Hp} {te ta tb tc : TE} {tt tA tB' : TT} {as : TA} {Q : VK} {QB : Bool → Hp → Prop} {QA : List V → Hp → Prop} {i : Nat} {r : R2}
theorem r_seq (h : t { D with nx := u D } σ H) : tSeq t u D σ H := h
theorem r_next (h : D.nx σ H) : tNext D σ H := h
theorem r_name {v : V} {R : St → Hp → Prop} (h : R (σ.set i (some v)) H) : gName i v σ H R := h
theorem r_asg {g : TG} (h : te σ H fun x H1 => g x σ H1 D.nx) : tAsg te g D σ H := h
theorem r_ret (h : te σ H D.rt) : tRet te D σ H := h
theorem r_drop (h : te σ H fun _ H1 => D.nx σ H1) : tDrop te D σ H := h
theorem r_ifs (h : tt σ H fun b H1 => if b = true then t D σ H1 else u D σ H1) : tIfS tt t u D σ H := h
theorem r_var {v : V} (e : σ[i]? = some (some v)) (h : Q v H) : tVar i σ H Q := ⟨v, e, h⟩
theorem r_c {v : V} (h : Q v H) : tC v σ H Q := h
theorem r_op (h : ta σ H fun x H1 => tb σ H1 fun y H2 => r x y H2 Q) : tOp r ta tb σ H Q := h
theorem r_I0 {g : Int → Int → V} {a b : Int} (h : Q (g a b) H) : rI0 g (.int a) (.int b) H Q := ⟨_, _, rfl, rfl, h⟩
theorem r_mod {g : Int → Int → V} {a b : Int} (c : 0 < b) (h : Q (g a b) H) : rI (fun _ j => 0 < j) g (.int a) (.int b) H Q := ⟨_, _, rfl, rfl, c, h⟩
theorem r_div {g : Int → Int → V} {a b : Int} (c : 0 < b) (c' : b < 1073741824) (h : Q (g a b) H) : rI CDiv g (.int a) (.int b) H Q := ⟨_, _, rfl, rfl, ⟨c, c'⟩, h⟩
theorem r_mulL {g : Int → Int → V} {a b : Int} (c : -(2 ^ 64) < a) (c' : a < 2 ^ 64) (h : Q (g a b) H) : rI CMul g (.int a) (.int b) H Q := ⟨_, _, rfl, rfl, .inl ⟨c, c'⟩, h⟩
theorem r_mulR {g : Int → Int → V} {a b : Int} (c : -(2 ^ 64) < b) (c' : b < 2 ^ 64) (h : Q (g a b) H) : rI CMul g (.int a) (.int b) H Q := ⟨_, _, rfl, rfl, .inr ⟨c, c'⟩, h⟩
theorem r_pow {g : Int → Int → V} {a b : Int} (c : 0 ≤ b) (c' : b ≤ 1000000) (c'' : a.natAbs < 2 ^ 64) (h : Q (g a b) H) : rI CPow g (.int a) (.int b) H Q := ⟨_, _, rfl, rfl, ⟨c, c', c''⟩, h⟩
theorem r_test (h : te σ H fun x H' => ∃ k, x = .bl k ∧ QB k H') : tTest te σ H QB := h
theorem r_b (h : te σ H fun x H' => ∃ k, x = .bl k ∧ QB k H') : tB te σ H QB := h
theorem r_k {P : Bool → Prop} {k : Bool} (h : P k) : ∃ k', V.bl k = .bl k' ∧ P k' := ⟨k, rfl, h⟩
theorem r_if {p A B : Prop} [Decidable p] (h1 : p → A) (h2 : ¬ p → B) : if decide p = true then A else B := by
  by_cases h : p
  · rw [if_pos (decide_eq_true h)]; exact h1 h
  · rw [if_neg (by simpa using h)]; exact h2 h
theorem r_ifb {b : Bool} {A B : Prop} (h1 : b = true → A) (h2 : b = false → B) : if b = true then A else B := by
  cases b
  · exact iteF (h2 rfl)
  · exact iteT (h1 rfl)
theorem r_cons (h : te σ H fun x H1 => as σ H1 fun xs H2 => QA (x :: xs) H2) : tCons te as σ H QA := h
theorem r_nil (h : QA [] H) : tNil σ H QA := h
theorem r_call {sp : Sp} {dvs : List V} {E : XK} (h : as σ H fun vs H1 => sp (vs ++ dvs) H1 Q E) : tCall sp dvs E as σ H Q := h
theorem r_cb {rr : List V → Hp → VK → Prop} (h : as σ H fun vs H1 => rr vs H1 Q) : tCB rr as σ H Q := h
theorem r_lst (h : as σ H fun xs H1 => xs.length ≤ sizeLine ∧ ∀ p, H1 p = none → Q (.ref p) (upd H1 p (.lst xs))) : tLst as σ H Q := h
theorem r_tup (h : as σ H fun xs H1 => xs.length ≤ sizeLine ∧ ∀ p, H1 p = none → Q (.ref p) (upd H1 p (.tup xs))) : tTup as σ H Q := h
theorem r_sub {to ti : TE} {ts : TSet} {v : V} {R : St → Hp → Prop} (h : to σ H fun o H1 => ti σ H1 fun i H2 => ts o i v H2 fun H3 => R σ H3) : gSub to ti ts v σ H R := h
theorem r_ixL {a : Addr} {xs : List V} {k : Int} {v : V} (e : H a = some (.lst xs)) (z : atI xs k = some v) (h : Q v H) : rIxLF (.ref a) (.int k) H Q := ⟨xs, lsAt_of e, k, rfl, v, z, h⟩
theorem r_ixT {a : Addr} {xs : List V} {k : Int} {v : V} (e : H a = some (.tup xs)) (z : atI xs k = some v) (h : Q v H) : rIxTF (.ref a) (.int k) H Q := ⟨xs, tpAt_of e, k, rfl, v, z, h⟩
theorem r_setL {a : Addr} {xs : List V} {k : Int} {j : Nat} {v : V} {R : Hp → Prop} (e : H a = some (.lst xs)) (z : ixN xs.length k = some j) (h : R (upd H a (.lst (xs.set j v)))) : rSetL (.ref a) (.int k) v H R := ⟨a, xs, k, j, rfl, rfl, e, z, h⟩
theorem r_andV (h : ta σ H fun x H1 => ∃ c, x = .bl c ∧ if c = true then tb σ H1 Q else Q (.bl false) H1) : tAndV ta tb σ H Q := h
theorem r_and (h : tA σ H fun c H1 => if c = true then tB' σ H1 QB else QB false H1) : tAnd tA tB' σ H QB := h
theorem r_or (h : tA σ H fun c H1 => if c = true then QB true H1 else tB' σ H1 QB) : tOr tA tB' σ H QB := h
theorem r_not (h : tA σ H fun c H1 => QB (!c) H1) : tNot tA σ H QB := h
theorem r_eq {x y : V} (s : scal x y = true) (h : Q (.bl (decide (x = y))) H) : rEq x y H Q := ⟨s, h⟩
theorem r_ne {x y : V} (s : scal x y = true) (h : Q (.bl (!decide (x = y))) H) : rNe x y H Q := ⟨s, h⟩
theorem r_eqI {a b : Int} (h : Q (.bl (decide (a = b))) H) : rEq (.int a) (.int b) H Q := ⟨rfl, by
  have : decide (V.int a = V.int b) = decide (a = b) := by simp
  rw [this]; exact h⟩
theorem r_neI {a b : Int} (h : Q (.bl (!decide (a = b))) H) : rNe (.int a) (.int b) H Q := ⟨rfl, by
  have : decide (V.int a = V.int b) = decide (a = b) := by simp
  rw [this]; exact h⟩
theorem r_un {rr : V → Hp → VK → Prop} (h : ta σ H fun x H1 => rr x H1 Q) : tUn rr ta σ H Q := h
theorem r_bm {K : PySem.W.Frag} {T : String} {rr : V → List V → Hp → VK → Prop} (h : ta σ H fun x H1 => tyV K T x H1 ∧ as σ H1 fun xs H2 => rr x xs H2 Q) : tBM K T rr ta as σ H Q := h
theorem r_yes (h : QB true H) : tYes σ H QB := h
end
def Sam1 (q : Addr) (H H' : Hp) : Prop := ∀ b o, H b = some o → b ≠ q → H' b = some o
theorem Sam1.trans {q : Addr} {H H1 H2 : Hp} (a : Sam1 q H H1) (b : Sam1 q H1 H2) : Sam1 q H H2 := fun c o h n => b c o (a c o h n) n
theorem Same.one {q : Addr} {H H' : Hp} (a : Same H H') : Sam1 q H H' := fun c o h _ => a c o h
theorem Sam1.upd (q : Addr) (H : Hp) (o : HO) : Sam1 q H (L2.upd H q o) := fun c u h n => by rw [upd_ne n]; exact h
theorem Same.new {H : Hp} {p : Addr} (h : H p = none) (o : HO) : Same H (upd H p o) := fun b u q => by rw [upd_ne (ne_of_none q h)]; exact q
theorem Same.late {H H1 : Hp} {p : Addr} (a : Same H H1) (h : H p = none) (o : HO) : Same H (upd H1 p o) := fun b u q => by rw [upd_ne (ne_of_none q h)]; exact a b u q
theorem Sam1.late {q : Addr} {H H1 : Hp} {p : Addr} (a : Sam1 q H H1) (h : H p = none) (o : HO) : Sam1 q H (L2.upd H1 p o) := fun b u e n => by rw [upd_ne (ne_of_none e h)]; exact a b u e n
theorem Sam1.free {q : Addr} {H H' : Hp} (e : Sam1 q H H') {l : Addr} (h : H' l = none) (n : l ≠ q) : H l = none := by
  cases z : H l with
  | none => rfl
  | some o => rw [e l o z n] at h; cases h
end L2
namespace L2
open PySem PySem.Spec PyProof.Rows
section
variable {t u : TS} {D : Ends} {σ : St} {H : Hp} {te ta tb tc : TE} {tt tA tB' : TT} {as : TA} {Q : VK} {QB : Bool → Hp → Prop} {QA : List V → Hp → Prop} {i : Nat} {r : R2} {K : PySem.W.Frag} {R : It → Hp → Prop} {g : TG} {vs : List Nat}
theorem r_for {wi : TI} (h : wi σ H fun J H1 => ∃ W : Nat → Nat → St → Hp → Prop, (∃ m, W 0 m σ H1) ∧ ∀ i m σ H, W i m σ H →
  (J.stop i H ∧ D.nx σ H) ∨ (J.go i H ∧ ∃ N : St → Hp → Prop, (∀ σ' H', N σ' H' → ∃ m', m' < m ∧ W (i + 1) m' σ' H') ∧ ∀ x H', J.yld i H x H' → g x σ H' fun σ2 H2 => t { D with nx := N, ct := N, bk := D.nx } σ2 H2)) : tFor wi g t D σ H := h
theorem r_lc {wi : TI} (h : wi σ H fun J H1 => ∀ D, H1 D = none → ∃ W : Nat → Nat → Hp → Prop, (∃ m, W 0 m (upd H1 D (.lst []))) ∧ ∀ i m H, W i m H →
  (J.stop i H ∧ Q (.ref D) H) ∨ (J.go i H ∧ ∃ Nx : Hp → Prop, (∀ H', Nx H' → ∃ m', m' < m ∧ W (i + 1) m' H') ∧ ∀ x H', J.yld i H x H' → g x (wipe σ vs) H' fun σ2 H2 => wipe σ2 vs = wipe σ vs ∧ tt σ2 H2 fun b H3 =>
    if b = true then te σ2 H3 fun y H4 => ∃ acc, H4 D = some (.lst acc) ∧ acc.length < sizeLine ∧ Nx (upd H4 D (.lst (acc ++ [y]))) else Nx H3)) : tLc wi g tt te vs σ H Q := h
theorem r_rng1 (h : as σ H fun vs H1 => ∃ j : Int, vs = [.int j] ∧ -(2 ^ 62) ≤ j ∧ j < 2 ^ 62 ∧ R (Itr 0 j.toNat) H1) : iRng1 as σ H R := h
theorem r_rng2 (h : as σ H fun vs H1 => ∃ i j : Int, vs = [.int i, .int j] ∧ (-(2 ^ 62) ≤ i ∧ i < 2 ^ 62 ∧ -(2 ^ 62) ≤ j ∧ j < 2 ^ 62) ∧ R (Itr i (j - i).toNat) H1) : iRng2 as σ H R := h
theorem r_ilist (h : te σ H fun x H1 => ∃ a, x = .ref a ∧ (∃ xs, SqL K H1 a xs) ∧ R (Itl K a) H1) : iList K te σ H R := h
theorem r_itup (h : te σ H fun x H1 => ∃ a, x = .ref a ∧ (∃ xs, SqT K H1 a xs) ∧ R (Itt K a) H1) : iTup K te σ H R := h
theorem r_enum (h : as σ H fun vs H1 => ∃ a xs, vs = [.ref a] ∧ SqL K H1 a xs ∧ R (Ite K a) H1) : iEnum K as σ H R := h
theorem r_sl {rr : V → Option Int → Option Int → Hp → VK → Prop} {tl th : TO} (h : te σ H fun x H1 => tl σ H1 fun l H2 => th σ H2 fun u H3 => rr x l u H3 Q) : tSl rr te tl th σ H Q := h
theorem r_nopart {QO : Option Int → Hp → Prop} (h : QO none H) : tNoPart σ H QO := h
theorem r_part {QO : Option Int → Hp → Prop} (h : te σ H fun x H1 => ∃ i, x = .int i ∧ QO (some i) H1) : tPart te σ H QO := h
theorem r_int {P : Int → Prop} {k : Int} (h : P k) : ∃ k', V.int k = .int k' ∧ P k' := ⟨k, rfl, h⟩
theorem r_inF {neg : Bool} {x : V} {a : Addr} {xs : List V} (e : sqAt H (.ref a) = some xs) (f : flatV x = true) (f' : xs.all flatV = true) (h : Q (.bl (if neg then !inV x xs else inV x xs)) H) : rInF neg x (.ref a) H Q := ⟨xs, e, f, f', h⟩
theorem r_slL {a : Addr} {xs : List V} {lo hi : Option Int} (e : H a = some (.lst xs)) (h : ∀ p, H p = none → Q (.ref p) (upd H p (.lst (cutV xs lo hi)))) : rSlLF (.ref a) lo hi H Q := ⟨xs, lsAt_of e, h⟩
theorem r_append {a : Addr} {xs : List V} {y : V} (e : H a = some (.lst xs)) (z : xs.length < sizeLine) (h : Q .non (upd H a (.lst (xs ++ [y])))) : rAppend (.ref a) [y] H Q := ⟨a, xs, y, rfl, rfl, e, z, h⟩
theorem r_gtup {n : Nat} {ts : TGs} {a : Addr} {xs : List V} {RS : St → Hp → Prop} (e : H a = some (.tup xs)) (l : xs.length = n) (h : ts xs σ H RS) : gTupF n ts (.ref a) σ H RS := ⟨xs, tpAt_of e, l, h⟩
theorem r_gcons {gt : TG} {gs : TGs} {v : V} {rest : List V} {RS : St → Hp → Prop} (h : gt v σ H fun σ' H' => gs rest σ' H' RS) : gCons gt gs (v :: rest) σ H RS := ⟨v, rest, rfl, h⟩
theorem r_gnil {RS : St → Hp → Prop} (h : RS σ H) : gNil [] σ H RS := ⟨rfl, h⟩
end
theorem upk {H : Hp} {b p : Addr} {o u : HO} (h : H b = some o) (n : H p = none) : upd H p u b = some o := (upd_ne (ne_of_none h n)).trans h
def TupsAt (H : Hp) (ps : List Addr) (bs : List (List Int)) : Prop := ps.length = bs.length ∧ ∀ (i : Nat) (p : Addr) (b : List Int), ps[i]? = some p → bs[i]? = some b → H p = some (.tup (b.map V.int))
theorem TupsAt.nil (H : Hp) : TupsAt H [] [] := ⟨rfl, fun i p b h => by simp at h⟩
theorem TupsAt.snoc {H : Hp} {ps : List Addr} {bs : List (List Int)} {p : Addr} {b : List Int} (h : TupsAt H ps bs) (e : H p = some (.tup (b.map V.int))) : TupsAt H (ps ++ [p]) (bs ++ [b]) := by
  obtain ⟨hl, hq⟩ := h
  refine ⟨by simp [hl], fun i x y h1 h2 => ?_⟩
  by_cases hi : i < ps.length
  · rw [List.getElem?_append_left hi] at h1
    rw [List.getElem?_append_left (by omega)] at h2
    exact hq i x y h1 h2
  · rw [List.getElem?_append_right (by omega)] at h1
    rw [List.getElem?_append_right (by omega)] at h2
    have e1 : i - ps.length = 0 := by
      have := (List.getElem?_eq_some_iff.mp h1).1
      simp at this; omega
    rw [e1] at h1
    rw [← hl, e1] at h2
    simp at h1 h2
    subst h1 h2
    exact e
theorem TupsAt.mono {H H' : Hp} {ps : List Addr} {bs : List (List Int)} (h : TupsAt H ps bs) (s : ∀ p o, p ∈ ps → H p = some o → H' p = some o) : TupsAt H' ps bs :=
  ⟨h.1, fun i p b h1 h2 => s p _ (List.mem_of_getElem? h1) (h.2 i p b h1 h2)⟩
theorem TupsAt.same {H H' : Hp} {ps : List Addr} {bs : List (List Int)} (h : TupsAt H ps bs) (s : Same H H') : TupsAt H' ps bs := h.mono fun p o _ e => s p o e
theorem TupsAt.get {H : Hp} {ps : List Addr} {bs : List (List Int)} (h : TupsAt H ps bs) {i : Nat} {p : Addr} (e : ps[i]? = some p) : ∃ b, bs[i]? = some b ∧ H p = some (.tup (b.map V.int)) := by
  have hi : i < bs.length := by rw [← h.1]; exact (List.getElem?_eq_some_iff.mp e).1
  exact ⟨bs[i], by simp [hi], h.2 i p _ e (by simp [hi])⟩
theorem TupsAt.sam1 {q : Addr} {H H' : Hp} {ps : List Addr} {bs : List (List Int)} (h : TupsAt H ps bs) (s : Sam1 q H H') (hq : ∀ xs, H q ≠ some (.tup xs)) : TupsAt H' ps bs :=
  ⟨h.1, fun i p b h1 h2 => s p _ (h.2 i p b h1 h2) (by rintro rfl; exact hq _ (h.2 i p b h1 h2))⟩
def Blks (H : Hp) (r : Addr) (bs : List (List Int)) : Prop := ∃ ps : List Addr, H r = some (.lst (ps.map V.ref)) ∧ TupsAt H ps bs
theorem Blks.same {H H' : Hp} {r : Addr} {bs : List (List Int)} (h : Blks H r bs) (s : Same H H') : Blks H' r bs := let ⟨ps, e, t⟩ := h; ⟨ps, s _ _ e, t.same s⟩
theorem inV_int (x : Int) : ∀ xs : List Int, inV (.int x) (xs.map V.int) = xs.contains x
  | [] => rfl
  | y :: ys => by
    have ih := inV_int x ys
    unfold inV at ih ⊢
    rw [List.map_cons, List.any_cons, ih, List.contains_cons]
    congr 1
    show eqV (V.int y) (V.int x) = (x == y)
    unfold eqV
    by_cases h : x = y
    · subst h; simp
    · show (y == x) = (x == y)
      have a : (y == x) = false := beq_eq_false_iff_ne.mpr fun z => h z.symm
      have b : (x == y) = false := beq_eq_false_iff_ne.mpr h
      rw [a, b]
theorem flat_ints (xs : List Int) : (xs.map V.int).all flatV = true := by
  rw [List.all_eq_true]
  intro v hv
  obtain ⟨i, _, rfl⟩ := List.mem_map.mp hv
  rfl
end L2
set_option Elab.async false
set_option linter.all false
set_option maxRecDepth 100000
namespace PySem
open Sem (wp)
open AutoSeq1 (wpAny_loadPart')
section
variable {prog : Program} {w : World} {A : Around} {E : Value → Shared → Prop} {s : Shared}
theorem my_collect_range {Q : List Value → Shared → Prop} {r : Addr} {a b c : Int} {t u v : Tok} {n : Nat} (hh : A.handled = none) (hr : IsRange s.heap r a b c t u v) (hsmall : Builtin.Range.small a b c = true)
    (hn : Builtin.Range.rangeSize a b c = n) (hlen : n ≤ 2 ^ 24)
    (hQ : ∀ h' tk (acc : Array Value), (∀ b o', s.heap.get? b = some o' → h'.get? b = some o') → ItemsOf (fun i v => ∃ t, v = .int (a + i * c) t) acc n → Q acc.toList { s with heap := h', toks := tk }) :
    wpAny (model prog w) A (collect (.ref r)) Q E s := by
  unfold collect
  refine wpAny_bind (wpAny_runValue (codeAny_builtin F.entry_proto_collect ?_))
  rw [Around.under_plainId F.plain_proto_collect _]
  show wpAny _ A.in1 (newList [] >>= fun l => again (.builtin "list.__iadd__" ⟨[l, .ref r], []⟩)) _ _ s
  refine wpAny_bind (wpAny_newObj_type ?_)
  refine wpAny_pure ⟨plainId_quiet F.plain_list_iadd _, codeAny_builtin F.entry_list_iadd ?_⟩
  rw [Around.under_plainId F.plain_list_iadd _]
  show wpAny _ A.in1 (Builtin.List.listExtendWith (.ref s.heap.objs.size) (.ref r) (.ref s.heap.objs.size)) _ _ _
  have hS : (s.heap.push { cls := .type "list", data := .seq ([] : List Value).toArray }).get? s.heap.objs.size = some { cls := .type "list", data := .seq #[] 0 } := Heap.get?_push_size _ rfl
  have fin' : ∀ s', (∃ h' tk acc' c', s' = ({ s with heap := h', toks := tk } : Shared) ∧ (∀ b o', s.heap.get? b = some o' → h'.get? b = some o') ∧ h'.get? s.heap.objs.size = some { cls := .type "list", dict := none, data := .seq acc' c', slots := #[] } ∧ ItemsOf (fun i v => ∃ t, v = .int (a + i * c) t) acc' n) →
      wpAny (model prog w) A (match Value.ref s.heap.objs.size with
      | Value.ref a => do
        match (← load a).data with
          | Data.seq xs _ => pure xs.toList
          | _ => unsupported "internal:collect"
      | _ => unsupported "internal:collect") Q E s' := by
    rintro _ ⟨h', tk, acc', c', rfl, hk, hS', hacc⟩
    show wpAny _ A (load s.heap.objs.size >>= _) _ _ _
    refine wpAny_bind (wpAny_load hS' ?_)
    exact wpAny_pure (hQ h' tk acc' hk hacc)
  refine wpAny_mono (wpAny_extend_range (A := A) (R := fun r s' => r = .ok (.ret (.ref s.heap.objs.size)) ∧ ∃ h' tk acc' c', s' = ({ s with heap := h', toks := tk } : Shared) ∧ (∀ b o', s.heap.get? b = some o' → h'.get? b = some o') ∧ h'.get? s.heap.objs.size = some { cls := .type "list", dict := none, data := .seq acc' c', slots := #[] } ∧ ItemsOf (fun i v => ∃ t, v = .int (a + i * c) t) acc' n)
    (s := { s with heap := s.heap.push { cls := .type "list", data := .seq ([] : List Value).toArray } }) hh (Heap.get?_push_of_some _ hr) hsmall hn hlen s.heap.objs.size _ 0 hS fun h' tk acc' c' hk hS' hacc => ⟨rfl, h', tk, acc', c', rfl, fun b o e => hk b o (Nat.ne_of_lt (Heap.lt_size e)) (Heap.get?_push_of_some _ e), hS', hacc⟩) (fun fin s' h => ?_) (fun e s' h => ?_)
  · cases fin with
    | done f =>
      obtain ⟨e, h⟩ := h
      cases e
      exact fin' s' h
    | again c' => exact ⟨h.1, codeAny_mono h.2 fun r s'' hr => by obtain ⟨rfl, hr⟩ := hr; exact fin' s'' hr⟩
  · exact absurd h.1 (by simp)
end
theorem my_tuple_new_range {r : Addr} {a b c : Int} {t u v : Tok} {n : Nat} (hsmall : Builtin.Range.small a b c = true) (hn : Builtin.Range.rangeSize a b c = n) (hlen : n ≤ 2 ^ 24) :
    Meets (Builtin.«tuple.__new__» ⟨[.type "tuple", .ref r], []⟩)
      (fun A R s => A.handled = none ∧ IsRange s.heap r a b c t u v ∧ ∀ (h' : Heap) tk (acc : Array Value), (∀ b o', s.heap.get? b = some o' → h'.get? b = some o') → ItemsOf (fun i v => ∃ t, v = .int (a + i * c) t) acc n → R (.ok (.ret (.ref h'.objs.size))) { s with heap := h'.push { cls := .type "tuple", data := .seq acc }, toks := tk }) :=
  .of_wp fun prog w A R s h => by
    obtain ⟨hp, g, d, tk, os⟩ := s; obtain ⟨hh, ht, h⟩ := h
    have hsub := sub_tuple_self
    have hinit := init_tuple_lookup
    have hmh := madeHere_tuple
    have hT : Shared.TypeIs ⟨hp, g, d, tk, os⟩ (.ref r) "range" := ⟨_, ht, rfl⟩
    wp_walk using wpAny_loadPart' ht, wpAny_typeOf hT, my_collect_range (A := A.in1) hh ht hsmall hn hlen
    intro h' tk' acc hk hacc
    have hz : acc.size ≤ sizeLine := by rw [hacc.1]; exact hlen
    show wpAny _ _ (Builtin.Tuple.tupleExact acc.toList.toArray >>= fun v => ret v) _ _ _
    unfold Builtin.Tuple.tupleExact
    refine wpAny_bind (wpAny_newObj_type ?_ (by show acc.toList.toArray.size ≤ sizeLine; simpa using hz))
    refine wpAny_pure ⟨_, rfl, ?_⟩
    have e : acc.toList.toArray = acc := by simp
    rw [e]
    exact h h' tk' acc hk hacc
end PySem
set_option Elab.async false
set_option linter.all false
set_option maxRecDepth 100000
namespace L2
open PySem PySem.Spec PyProof.Rows
section
variable {X : Cx}
theorem call_range1V : CallR X (.type "range") (fun xs H Q => ∃ n : Int, xs = [.int n] ∧ ∀ p, H p = none → Q (.ref p) (upd H p (.rng 0 n))) := by
  intro pins s σ H xs us Q I r h
  obtain ⟨n, rfl, q⟩ := h
  obtain ⟨u, rfl, t, rfl⟩ := vals1 r
  refine call_range_1 ?_
  exact ⟨.ref s.heap.objs.size, _, I.laid (fun b o e => Heap.get?_push_of_some _ e) (Nat.le_refl _) (show ObjOk X.prog X.w _ _ _ (.rng _ _) from ⟨_, _, _, Heap.get?_push_size _ rfl⟩), rfl, q _ (I.hok.fresh (Nat.le_refl _))⟩
def rngV (lo : Int) (n : Nat) : List Int := (List.range n).map fun (i : Nat) => lo + (i : Int)
theorem rngV_length (lo : Int) (n : Nat) : (rngV lo n).length = n := by unfold rngV; rw [List.length_map, List.length_range]
theorem rngV_vals {lo : Int} : ∀ {n : Nat} {us : List Value}, us.length = n → (∀ (j : Nat) v, us[j]? = some v → ∃ t, v = .int (lo + (j : Int)) t) → Vals ((rngV lo n).map V.int) us := by
  intro n us hl h
  have aux : ∀ (us : List Value) (k : Nat), (∀ (j : Nat) v, us[j]? = some v → ∃ t, v = .int (lo + ((k + j : Nat) : Int)) t) → Vals (((List.range' k us.length).map fun (i : Nat) => lo + (i : Int)).map V.int) us := by
    intro us
    induction us with
    | nil => intro k _; exact .nil
    | cons u us ih =>
      intro k h
      rw [List.length_cons, List.range'_succ, List.map_cons, List.map_cons]
      refine .cons ?_ (ih (k + 1) fun j v hj => ?_)
      · obtain ⟨t, e⟩ := h 0 u rfl
        exact ⟨t, e⟩
      · obtain ⟨t, e⟩ := h (j + 1) v (by simpa using hj)
        exact ⟨t, by rw [e]; congr 2; omega⟩
  have q := aux us 0 (fun j v hj => by rw [Nat.zero_add]; exact h j v hj)
  unfold rngV
  rw [List.range_eq_range', ← hl]
  exact q
theorem items_vals {lo : Int} {n : Nat} {acc : Array Value} (h : ItemsOf (fun (i : Nat) v => ∃ t, v = .int (lo + (i : Int) * 1) t) acc n) : Vals ((rngV lo n).map V.int) acc.toList := by
  refine rngV_vals (by rw [← h.1]; simp) fun j v hj => ?_
  obtain ⟨t, e⟩ := h.2 j v (by rw [← Array.getElem?_toList]; exact hj)
  exact ⟨t, by rw [e, Int.mul_one]⟩
theorem rsize {lo hi : Int} : Builtin.Range.rangeSize lo hi 1 = (((hi - lo).toNat : Nat) : Int) := by rw [rangeSize_one]; split <;> omega
theorem call_list_rng (hc : X.calm = true) : CallR X (.type "list") (fun xs H Q => ∃ p lo hi, xs = [.ref p] ∧ H p = some (.rng lo hi) ∧ (-(2 ^ 62) ≤ lo ∧ lo < 2 ^ 62 ∧ -(2 ^ 62) ≤ hi ∧ hi < 2 ^ 62) ∧ (hi - lo).toNat ≤ 16777216 ∧ ∀ l, H l = none → Q (.ref l) (upd H l (.lst ((rngV lo (hi - lo).toNat).map V.int)))) := by
  intro pins s σ H xs us Q I r h
  obtain ⟨p, lo, hi, rfl, hp, ⟨b1, b2, b3, b4⟩, hz, q⟩ := h
  obtain ⟨u, rfl, rx⟩ := vals1 r
  cases rx
  obtain ⟨t, u, v, e⟩ := I.hok p _ hp
  refine call_list_range (n := (hi - lo).toNat) (I.ok.hd hc) e (small_one b1 b2 b3 b4) rsize hz fun h' tk acc c' hk hS hacc => ?_
  have vv := items_vals hacc
  refine ⟨.ref s.heap.objs.size, _, I.laid (t' := tk) hk (Nat.le_refl _) (show ObjOk X.prog X.w _ h' _ (.lst _) from ⟨?_, acc.toList, c', vv, by simpa using hS⟩), rfl, q _ (I.hok.fresh (Nat.le_refl _))⟩
  rw [List.length_map, rngV_length]
  exact hz
theorem call_tuple_rng (hc : X.calm = true) : CallR X (.type "tuple") (fun xs H Q => ∃ p lo hi, xs = [.ref p] ∧ H p = some (.rng lo hi) ∧ (-(2 ^ 62) ≤ lo ∧ lo < 2 ^ 62 ∧ -(2 ^ 62) ≤ hi ∧ hi < 2 ^ 62) ∧ (hi - lo).toNat ≤ 16777216 ∧ ∀ l, H l = none → Q (.ref l) (upd H l (.tup ((rngV lo (hi - lo).toNat).map V.int)))) := by
  intro pins s σ H xs us Q I r h
  obtain ⟨p, lo, hi, rfl, hp, ⟨b1, b2, b3, b4⟩, hz, q⟩ := h
  obtain ⟨u, rfl, rx⟩ := vals1 r
  cases rx
  obtain ⟨t, u, v, e⟩ := I.hok p _ hp
  refine callType_new F.called_tuple (by decide) (F.typeCall_tuple_1 _) (F.newCall_tuple_1 _) (fun obj => F.args_object_init_2 obj _) F.entry_tuple_new
    (my_tuple_new_range (n := (hi - lo).toNat) (small_one b1 b2 b3 b4) rsize hz) ⟨I.ok.hd hc, e, fun h' tk acc hk hacc => ⟨⟨_, Heap.get?_push_size _ rfl, rfl⟩, ?_⟩⟩
  have vv := items_vals hacc
  have I1 : Inv X pins σ H { s with heap := h' } := I.kept (t' := s.toks) hk
  have I2 : Inv X pins σ (upd H h'.objs.size (.tup ((rngV lo (hi - lo).toNat).map V.int))) { s with heap := h'.push { cls := .type "tuple", data := .seq acc }, toks := tk } :=
    I1.laid (t' := tk) (fun b o e => Heap.get?_push_of_some _ e) (Nat.le_refl _) (show ObjOk X.prog X.w _ _ _ (.tup _) from ⟨by rw [List.length_map, rngV_length]; exact hz, acc.toList, vv, by simpa using IsTup.new _ _⟩)
  exact ⟨.ref h'.objs.size, _, I2, rfl, q _ (I1.hok.fresh (Nat.le_refl _))⟩
def rInsert : V → List V → Hp → VK → Prop := fun x vs H Q => ∃ l xs i y, x = .ref l ∧ vs = [.int i, y] ∧ H l = some (.lst xs) ∧ 0 ≤ i ∧ i < 2 ^ 63 ∧ xs.length < sizeLine ∧ Q .non (upd H l (.lst (xs.take i.toNat ++ y :: xs.drop i.toNat)))
theorem Vals.insert {xs : List V} {us : List Value} {y : V} {u : Value} (r : Vals xs us) (ry : RelV y u) (k : Nat) : Vals (xs.take k ++ y :: xs.drop k) (us.take k ++ u :: us.drop k) := (r.take k).append (.cons ry (r.drop k))
theorem mt_insert : MtM X "list.insert" rInsert := by
  intro pins s σ H x vs v us Q I rx rv h
  obtain ⟨l, xs, i, y, rfl, rfl, hH, h1, h2, hz, q⟩ := h
  cases rx
  obtain ⟨u, w, rfl, ⟨t, rfl⟩, ry⟩ := vals2 rv
  obtain ⟨z, its, n, r, hl, e⟩ := I.lstM hH
  have hfit : Builtin.List.listFitsIndex i = true := fitsIndex_both (by omega) h2
  refine call_meets F.slot_list_insert ⟨_, e, rfl⟩ F.entry_list_insert (F.args_list_insert_3 _ _ _)
    (AutoSeq1.list_insert_list_int_val_1 l its.toArray n i t w (by rw [hfit]; decide) (by rw [List.size_toArray]; omega)) ⟨e, ?_⟩
  refine ⟨.non, _, I.lset (its' := its.take i.toNat ++ w :: its.drop i.toNat) hH e ?_ (Vals.insert r ry i.toNat) ?_, rfl, q⟩
  · have hi : ¬ i < 0 := by omega
    simp only [hi, if_false]
    apply Array.ext'
    by_cases hk : i.toNat ≤ its.length
    · simp [Nat.min_eq_left hk]
      exact List.take_of_length_le (by rw [List.length_drop]; omega)
    · have hk' : its.length ≤ i.toNat := by omega
      simp [Nat.min_eq_right hk', List.take_of_length_le hk', List.drop_eq_nil_of_le hk']
  · rw [List.length_append, List.length_cons, List.length_take, List.length_drop]
    omega
end
end L2
namespace L2
open PySem PySem.Spec PyProof.Rows
end L2
namespace L2
open PySem PySem.Spec PyProof.Rows
def tRevT (ta : TA) : TE := fun σ H Q => ta σ H fun vs H1 => ∃ a xs, vs = [.ref a] ∧ H1 a = some (.lst xs) ∧ ∀ l, H1 l = none → Q (.ref l) (upd H1 l (.tup xs.reverse))
end L2
namespace L2
open PySem PySem.Spec PyProof.Rows
section
variable {H : Hp} {Q : VK} {σ : St}
def cInt : List V → Hp → VK → Prop := fun xs H Q => (∃ i, xs = [.int i] ∧ Q (.int i) H) ∨ ∃ k, xs = [.bl k] ∧ Q (.int (if k then 1 else 0)) H
def cLen : List V → Hp → VK → Prop := fun xs H Q => ∃ x, xs = [x] ∧ ∃ ys, sqAt H x = some ys ∧ Q (.int ys.length) H
def cLenK (K : PySem.W.Frag) : List V → Hp → VK → Prop := fun xs H Q => ∃ p ys, xs = [.ref p] ∧ (SqL K H p ys ∨ SqT K H p ys) ∧ Q (.int ys.length) H
def cList : List V → Hp → VK → Prop := fun xs H Q => ∃ x, xs = [x] ∧ ∃ ys, sqAt H x = some ys ∧ ∀ l, H l = none → Q (.ref l) (upd H l (.lst ys))
def cTuple : List V → Hp → VK → Prop := fun xs H Q => ∃ x, xs = [x] ∧ ∃ ys, lsAt H x = some ys ∧ ∀ l, H l = none → Q (.ref l) (upd H l (.tup ys))
def cMin : List V → Hp → VK → Prop := fun xs H Q => ∃ i j, xs = [.int i, .int j] ∧ Q (.int (if j < i then j else i)) H
def cMax : List V → Hp → VK → Prop := fun xs H Q => ∃ i j, xs = [.int i, .int j] ∧ Q (.int (if j > i then j else i)) H
def cRng1 : List V → Hp → VK → Prop := fun xs H Q => ∃ n : Int, xs = [.int n] ∧ ∀ p, H p = none → Q (.ref p) (upd H p (.rng 0 n))
def cRng2 : List V → Hp → VK → Prop := fun xs H Q => ∃ m n : Int, xs = [.int m, .int n] ∧ ∀ p, H p = none → Q (.ref p) (upd H p (.rng m n))
def cTupRng : List V → Hp → VK → Prop := fun xs H Q => ∃ p lo hi, xs = [.ref p] ∧ H p = some (.rng lo hi) ∧ (-(2 ^ 62) ≤ lo ∧ lo < 2 ^ 62 ∧ -(2 ^ 62) ≤ hi ∧ hi < 2 ^ 62) ∧ (hi - lo).toNat ≤ 16777216 ∧ ∀ l, H l = none → Q (.ref l) (upd H l (.tup ((rngV lo (hi - lo).toNat).map V.int)))
def cListRng : List V → Hp → VK → Prop := fun xs H Q => ∃ p lo hi, xs = [.ref p] ∧ H p = some (.rng lo hi) ∧ (-(2 ^ 62) ≤ lo ∧ lo < 2 ^ 62 ∧ -(2 ^ 62) ≤ hi ∧ hi < 2 ^ 62) ∧ (hi - lo).toNat ≤ 16777216 ∧ ∀ l, H l = none → Q (.ref l) (upd H l (.lst ((rngV lo (hi - lo).toNat).map V.int)))
def cIsi (K : PySem.W.Frag) (T : String) : List V → Hp → VK → Prop := fun xs H Q => ∃ x t b, xs = [x, .ty T] ∧ TyF x t ∧ PySem.W.kitOne K (.type t) (.type T) = some b ∧ Q (.bl b) H
def cAll : List V → Hp → VK → Prop := fun xs H Q => ∃ (x : V) (bs : List Bool), xs = [x] ∧ lsAt H x = some (bs.map V.bl) ∧ Q (.bl (bs.all id)) H
def cAny : List V → Hp → VK → Prop := fun xs H Q => ∃ (x : V) (bs : List Bool), xs = [x] ∧ lsAt H x = some (bs.map V.bl) ∧ Q (.bl (bs.any id)) H
def cSum : List V → Hp → VK → Prop := fun xs H Q => ∃ (x : V) (ns : List Int), xs = [x] ∧ lsAt H x = some (ns.map V.int) ∧ Q (.int ns.sum) H
variable {X : Cx}
theorem k_int : CallR X (.type "int") cInt := call_int1
theorem k_len : CallR X (.builtin "len") cLen := call_lenF
theorem k_lenK : CallR X (.builtin "len") (cLenK X.K) := call_len_seq
theorem k_list : CallR X (.type "list") cList := call_listF
theorem k_tuple : CallR X (.type "tuple") cTuple := call_tupleF
theorem k_min (hc : X.calm = true) : CallR X (.builtin "min") cMin := call_min2 hc
theorem k_rng1 : CallR X (.type "range") cRng1 := call_range1V
theorem k_tupleR (hc : X.calm = true) : CallR X (.type "tuple") cTupRng := call_tuple_rng hc
theorem k_listR (hc : X.calm = true) : CallR X (.type "list") cListRng := call_list_rng hc
theorem r_intB {k : Bool} (h : ∀ z : Int, z = (if k then 1 else 0) → 0 ≤ z → z ≤ 1 → Q (.int z) H) : cInt [V.bl k] H Q :=
  .inr ⟨k, rfl, h _ rfl (by cases k <;> decide) (by cases k <;> decide)⟩
theorem r_len {a : Addr} {ys : List V} (e : sqAt H (.ref a) = some ys) (h : Q (.int ys.length) H) : cLen [V.ref a] H Q := ⟨_, rfl, ys, e, h⟩
theorem r_list {a : Addr} {ys : List V} (e : sqAt H (.ref a) = some ys) (h : ∀ l, H l = none → Q (.ref l) (upd H l (.lst ys))) : cList [V.ref a] H Q := ⟨_, rfl, ys, e, h⟩
theorem r_tuple {a : Addr} {ys : List V} (e : H a = some (.lst ys)) (h : ∀ l, H l = none → Q (.ref l) (upd H l (.tup ys))) : cTuple [V.ref a] H Q := ⟨_, rfl, ys, lsAt_of e, h⟩
theorem r_min2 {a b : Int} (h : Q (.int (if b < a then b else a)) H) : cMin [V.int a, V.int b] H Q := ⟨a, b, rfl, h⟩
theorem r_rng1V {m : Int} (h : ∀ p, H p = none → Q (.ref p) (upd H p (.rng 0 m))) : cRng1 [V.int m] H Q := ⟨m, rfl, h⟩
theorem r_tupR {p : Addr} {lo hi : Int} (e : H p = some (.rng lo hi)) (b1 : -(2 ^ 62) ≤ lo) (b2 : lo < 2 ^ 62) (b3 : -(2 ^ 62) ≤ hi) (b4 : hi < 2 ^ 62) (z : (hi - lo).toNat ≤ 16777216) (h : ∀ l, H l = none → Q (.ref l) (upd H l (.tup ((rngV lo (hi - lo).toNat).map V.int)))) : cTupRng [V.ref p] H Q := ⟨p, lo, hi, rfl, e, ⟨b1, b2, b3, b4⟩, z, h⟩
theorem r_listR {p : Addr} {lo hi : Int} (e : H p = some (.rng lo hi)) (b1 : -(2 ^ 62) ≤ lo) (b2 : lo < 2 ^ 62) (b3 : -(2 ^ 62) ≤ hi) (b4 : hi < 2 ^ 62) (z : (hi - lo).toNat ≤ 16777216) (h : ∀ l, H l = none → Q (.ref l) (upd H l (.lst ((rngV lo (hi - lo).toNat).map V.int)))) : cListRng [V.ref p] H Q := ⟨p, lo, hi, rfl, e, ⟨b1, b2, b3, b4⟩, z, h⟩
theorem r_insert {l : Addr} {xs : List V} {i : Int} {y : V} (e : H l = some (.lst xs)) (h1 : 0 ≤ i) (h2 : i < 2 ^ 63) (z : xs.length < sizeLine) (h : Q .non (upd H l (.lst (xs.take i.toNat ++ y :: xs.drop i.toNat)))) : rInsert (.ref l) [.int i, y] H Q := ⟨l, xs, i, y, rfl, rfl, e, h1, h2, z, h⟩
end
end L2
namespace L2
open PySem PySem.Spec PyProof.Rows
theorem atI_ints {ns : List Int} {r : Int} (h0 : 0 ≤ r) (h1 : r < (ns.length : Int)) : ∃ v, atI (ns.map V.int) r = some (.int v) ∧ v ∈ ns := by
  have hk : r.toNat < ns.length := by omega
  exact ⟨ns[r.toNat], at_of (j := r.toNat) (by omega) (by rw [List.getElem?_map, List.getElem?_eq_getElem hk] <;> rfl), List.getElem_mem hk⟩
end L2
set_option Elab.async false
set_option linter.all false
set_option maxRecDepth 100000
namespace L2
open PySem PySem.Spec PyProof.Rows
section
variable {K : PySem.W.Frag} {H : Hp} {Q : VK}
theorem dp_ints : ∀ ns : List Int, DpAll K H (ns.map V.int) (ns.map PyData.int)
  | [] => .nil
  | n :: ns => .cons (.int n) (dp_ints ns)
theorem lay_ints : ∀ ns : List Int, PyData.canLayAll0 (ns.map PyData.int) = true
  | [] => rfl
  | n :: ns => by
    show (PyData.canLay0 (.int n) && PyData.canLayAll0 (ns.map PyData.int)) = true
    rw [lay_ints ns]; rfl
theorem dep_ints : ∀ ns : List Int, PyData.depthAll (ns.map PyData.int) = 0
  | [] => rfl
  | n :: ns => by
    show max (PyData.depth (.int n)) (PyData.depthAll (ns.map PyData.int)) = 0
    rw [dep_ints ns]; rfl
theorem sh_listI (ns : List Int) : SeqAt.shaped (.list (ns.map PyData.int)) = true := by
  unfold SeqAt.shaped
  rw [Bool.and_eq_true]
  refine ⟨lay_ints ns, decide_eq_true ?_⟩
  show PyData.depthAll (ns.map PyData.int) + 1 ≤ 64
  rw [dep_ints]; decide
theorem eqvA_ints : ∀ ns ms : List Int, PyData.eqvAll (ns.map PyData.int) (ms.map PyData.int) = decide (ns = ms)
  | [], [] => rfl
  | [], _ :: _ => rfl
  | _ :: _, [] => rfl
  | n :: ns, m :: ms => by
    show (n == m && PyData.eqvAll (ns.map PyData.int) (ms.map PyData.int)) = _
    rw [eqvA_ints ns ms]
    by_cases h : n = m
    · subst h; simp
    · simp [h]
def dB (bs : List (List Int)) : List PyData := bs.map fun b => .tuple (b.map PyData.int)
theorem eqvA_blks : ∀ bs cs : List (List Int), PyData.eqvAll (dB bs) (dB cs) = decide (bs = cs)
  | [], [] => rfl
  | [], _ :: _ => rfl
  | _ :: _, [] => rfl
  | b :: bs, c :: cs => by
    show (PyData.eqvAll (b.map PyData.int) (c.map PyData.int) && PyData.eqvAll (dB bs) (dB cs)) = _
    rw [eqvA_blks bs cs, eqvA_ints]
    by_cases h : b = c
    · subst h; simp
    · simp [h]
theorem lay_blks : ∀ bs : List (List Int), PyData.canLayAll0 (dB bs) = true
  | [] => rfl
  | b :: bs => by
    show (PyData.canLayAll0 (b.map PyData.int) && PyData.canLayAll0 (dB bs)) = true
    rw [lay_blks bs, lay_ints]; rfl
theorem dep_blks : ∀ bs : List (List Int), PyData.depthAll (dB bs) ≤ 1
  | [] => Nat.zero_le _
  | b :: bs => by
    show max (PyData.depthAll (b.map PyData.int) + 1) (PyData.depthAll (dB bs)) ≤ 1
    rw [dep_ints]
    exact Nat.max_le.mpr ⟨Nat.le_refl _, dep_blks bs⟩
theorem dp_tups : ∀ {ps : List Addr} {bs : List (List Int)}, TupsAt H ps bs → DpAll K H (ps.map V.ref) (dB bs)
  | [], [], _ => .nil
  | [], _ :: _, h => by have := h.1; simp at this
  | _ :: _, [], h => by have := h.1; simp at this
  | p :: ps, b :: bs, h => by
    refine .cons (.tup (SqT.of (h.2 0 p b rfl rfl)) (dp_ints b)) (dp_tups (ps := ps) (bs := bs) ⟨by have := h.1; simpa using this, fun i x y h1 h2 => h.2 (i + 1) x y (by simpa using h1) (by simpa using h2)⟩)
theorem dp_blks {r : Addr} {bs : List (List Int)} (h : Blks H r bs) : Dp K H (.ref r) (.list (dB bs)) := let ⟨_, e, t⟩ := h; .lst (SqL.of e) (dp_tups t)
theorem r_eqInts {a b : Addr} {ns ms : List Int} (ha : H a = some (.lst (ns.map V.int))) (hb : H b = some (.lst (ms.map V.int))) (h : Q (.bl (decide (ns = ms))) H) : rEqD K (.ref a) (.ref b) H Q :=
  ⟨_, _, .lst (SqL.of ha) (dp_ints ns), .lst (SqL.of hb) (dp_ints ms), sh_listI _, sh_listI _, by show Q (.bl (PyData.eqvAll _ _)) H; rw [eqvA_ints]; exact h⟩
theorem r_neInts {a b : Addr} {ns ms : List Int} (ha : H a = some (.lst (ns.map V.int))) (hb : H b = some (.lst (ms.map V.int))) (h : Q (.bl (!decide (ns = ms))) H) : rNeD K (.ref a) (.ref b) H Q :=
  ⟨_, _, .lst (SqL.of ha) (dp_ints ns), .lst (SqL.of hb) (dp_ints ms), sh_listI _, sh_listI _, by show Q (.bl (!PyData.eqvAll _ _)) H; rw [eqvA_ints]; exact h⟩
end
theorem nth_ints {ts : List Int} {i : Nat} {y : V} (h : (ts.map V.int)[i]? = some y) : ∃ z, y = .int z ∧ ts[i]? = some z := by
  rw [List.getElem?_map] at h
  cases e : ts[i]? with
  | none => rw [e] at h; cases h
  | some z => rw [e] at h; cases h; exact ⟨z, rfl, rfl⟩
theorem nth_refs {ps : List Addr} {i : Nat} {y : V} (h : (ps.map V.ref)[i]? = some y) : ∃ p, y = .ref p ∧ ps[i]? = some p := by
  rw [List.getElem?_map] at h
  cases e : ps[i]? with
  | none => rw [e] at h; cases h
  | some z => rw [e] at h; cases h; exact ⟨z, rfl, rfl⟩
theorem take_snoc {α : Type} {l : List α} {i : Nat} {x : α} (h : l[i]? = some x) : l.take (i + 1) = l.take i ++ [x] := by
  rw [List.take_add_one, h]; rfl
def cnt (bs : List (List Int)) (ts : List Int) : Int := ((bs.filter fun b => ts.all fun t => b.contains t).length : Nat)
end L2
namespace L2
theorem r_nf {A B : Prop} (h : A) : if (!false) = true then A else B := iteT h
theorem r_nt {A B : Prop} (h : B) : if (!true) = true then A else B := iteF h
theorem r_ifn {p A B : Prop} [Decidable p] (h1 : ¬ p → A) (h2 : p → B) : if (!decide p) = true then A else B := by
  by_cases h : p
  · rw [decide_eq_true h]; exact iteF (h2 h)
  · rw [decide_eq_false h]; exact iteT (h1 h)
end L2
namespace L2
end L2
namespace L2
open PySem
theorem Same.sam1 {q : Addr} {H H1 H2 : Hp} (a : Same H H1) (n : H q = none) (b : Sam1 q H1 H2) : Same H H2 := fun c o h => b c o (a c o h) (ne_of_none h n)
theorem mem_rngV {n : Nat} {x : Int} (h0 : 0 ≤ x) (h1 : x < (n : Int)) : x ∈ rngV 0 n := by
  unfold rngV
  exact List.mem_map.mpr ⟨x.toNat, List.mem_range.mpr (by omega), by omega⟩
end L2
namespace L2
open PySem
theorem TupsAt.late {H : Hp} {ps : List Addr} {bs : List (List Int)} {l : Addr} {xs : List V} (h : TupsAt H ps bs) (e : H l = some (.lst xs)) (o : HO) : TupsAt (upd H l o) ps bs := by
  refine ⟨h.1, fun i p b h1 h2 => ?_⟩
  have q := h.2 i p b h1 h2
  rw [upd_ne (ne_of q e (by intro z; cases z))]
  exact q
end L2
set_option Elab.async false
set_option linter.all false
set_option maxRecDepth 100000
namespace PyProof.Rows
open PySem PySem.Spec Builtin Builtin.Str Builtin.Int Builtin.Float
section
variable {prog : Program} {w : World} {A : Around} {E : Value → Shared → Prop} {s : Shared}
end
end PyProof.Rows
set_option Elab.async false
set_option linter.all false
set_option maxRecDepth 100000
namespace PySem.StrLaws
open Builtin Builtin.Str
end PySem.StrLaws
namespace L2
open PySem PySem.Spec PyProof.Rows
def pop (n : Nat) : Nat := if h : n = 0 then 0 else n % 2 + pop (n / 2)
termination_by n
decreasing_by omega
theorem pop_zero : pop 0 = 0 := by rw [pop]; simp
theorem pop_eq (n : Nat) : pop n = n % 2 + pop (n / 2) := by
  by_cases h : n = 0
  · subst h; rw [show (0 : Nat) / 2 = 0 from rfl, pop_zero]
  · rw [pop]; simp [h]
end L2
namespace L2
open PySem PySem.Spec PyProof.Rows
section
variable {X : Cx}
def tFb (tv : TE) : TE := fun σ H Q => tv σ H fun x H1 => ∃ n : Nat, x = .int (n : Int) ∧ n < 2 ^ 3000 ∧ Q (.str ⟨((Nat.toDigits 2 n).map Char.toNat).toArray⟩) H1
def mCount : V → List V → Hp → VK → Prop := fun x xs H Q => ∃ a b, x = .str a ∧ xs = [.str b] ∧ Q (.int (Txt.count a b)) H
end
theorem for_enum {K : PySem.W.Frag} {a : Addr} {xs : List V} {g : TG} {tb : TS} {D : Ends} {σ : St} {H : Hp} (Pv : Nat → St → Hp → Prop) (h0 : Pv 0 σ H) (hl : ∀ i σ H, i ≤ xs.length → Pv i σ H → H a = some (.lst xs))
    (hs : ∀ i x σ H T, xs[i]? = some x → Pv i σ H → H T = none → g (.ref T) σ (upd H T (.tup [.int (i : Nat), x])) fun σ2 H2 => tb { D with nx := Pv (i + 1), ct := Pv (i + 1), bk := D.nx } σ2 H2) (hd : ∀ σ H, Pv xs.length σ H → D.nx σ H) :
    ∃ W : Nat → Nat → St → Hp → Prop, (∃ m, W 0 m σ H) ∧ ∀ i m σ H, W i m σ H →
      ((Ite K a).stop i H ∧ D.nx σ H) ∨ ((Ite K a).go i H ∧ ∃ N : St → Hp → Prop, (∀ σ' H', N σ' H' → ∃ m', m' < m ∧ W (i + 1) m' σ' H') ∧ ∀ x H', (Ite K a).yld i H x H' → g x σ H' fun σ2 H2 => tb { D with nx := N, ct := N, bk := D.nx } σ2 H2) := by
  refine ⟨fun i m σ H => m = xs.length - i ∧ i ≤ xs.length ∧ Pv i σ H, ⟨xs.length, by simp, Nat.zero_le _, h0⟩, ?_⟩
  rintro i m σ H ⟨rfl, hi, p⟩
  have q : SqL K H a xs := SqL.of (hl i σ H hi p)
  by_cases hlt : i < xs.length
  · refine .inr ⟨⟨xs, xs[i], q, by simp [hlt]⟩, Pv (i + 1), fun σ' H' p' => ⟨xs.length - (i + 1), by omega, rfl, hlt, p'⟩, fun x H' y => ?_⟩
    obtain ⟨T, x', rfl, hT, rfl, y⟩ := y
    exact hs i x' σ _ T (y xs q) p hT
  · have e : i = xs.length := by omega
    subst e
    exact .inl ⟨⟨xs, q, Nat.le_refl _⟩, hd σ H p⟩
section
variable {t u : TS} {D : Ends} {σ : St} {H : Hp} {te ta tb tc : TE} {Q : VK} {QB : Bool → Hp → Prop}
theorem r_cat {l b : Addr} {xs zs : List V} (e : H l = some (.lst xs)) (e' : H b = some (.lst zs)) (z : xs.length + zs.length ≤ sizeLine) (h : ∀ p, H p = none → Q (.ref p) (upd H p (.lst (xs ++ zs)))) : rCat (.ref l) (.ref b) H Q := ⟨l, b, xs, zs, rfl, rfl, e, e', z, h⟩
end
def mkR : List (List Int) → Int → Nat
  | [], _ => 0
  | b :: r, t => 2 * mkR r t + (if b.contains t then 1 else 0)
def mk (bs : List (List Int)) (t : Int) : Nat := mkR bs t
theorem and_two (a b : Nat) (x y : Bool) : (2 * a + (if x then 1 else 0)) &&& (2 * b + (if y then 1 else 0)) = 2 * (a &&& b) + (if x && y then 1 else 0) := by
  have e := @Nat.and_div_two (2 * a + (if x then 1 else 0)) (2 * b + (if y then 1 else 0))
  have o := @Nat.and_mod_two_eq_one (2 * a + (if x then 1 else 0)) (2 * b + (if y then 1 else 0))
  have e1 : (2 * a + (if x then 1 else 0)) / 2 = a := by split <;> omega
  have e2 : (2 * b + (if y then 1 else 0)) / 2 = b := by split <;> omega
  rw [e1, e2] at e
  cases x <;> cases y <;> simp only [Bool.and_true, Bool.and_false, Bool.true_and, Bool.false_and, if_true, if_false, Bool.false_eq_true] at e o ⊢ <;> omega
theorem pop_two (a : Nat) (x : Bool) : pop (2 * a + (if x then 1 else 0)) = pop a + (if x then 1 else 0) := by
  rw [pop_eq]
  cases x
  · have e1 : (2 * a + 0) % 2 = 0 := by omega
    have e2 : (2 * a + 0) / 2 = a := by omega
    show (2 * a + 0) % 2 + pop ((2 * a + 0) / 2) = _
    rw [e1, e2]; simp
  · have e1 : (2 * a + 1) % 2 = 1 := by omega
    have e2 : (2 * a + 1) / 2 = a := by omega
    show (2 * a + 1) % 2 + pop ((2 * a + 1) / 2) = _
    rw [e1, e2]; simp; omega
def meet (bs : List (List Int)) (t u : Int) : Nat := (bs.filter fun b => b.contains t && b.contains u).length
end L2
namespace L2
open PySem PySem.Spec PyProof.Rows
def rIsN : R2 := fun x y H Q => y = .non ∧ Q (.bl (decide (x = .non))) H
def rNotN : R2 := fun x y H Q => y = .non ∧ Q (.bl (!decide (x = .non))) H
theorem op_isNF {X : Cx} : OpR X (compareOp .Is) rIsN := op_isN
def tTru (K : PySem.W.Frag) (ta : TE) : TT := fun σ H Q => ta σ H fun x H' => ∃ k, TruV K x H' k ∧ Q k H'
theorem pt_tru {X : Cx} {a : Expr} {ta : TE} (ha : PE X a ta) (he : ∀ whole, isTrue a X.env whole = (do let v ← whole; standAt a.pos; holding [v] (truthy v))) : PT X a (tTru X.K ta) := pt_truth ha he
section
variable {H : Hp} {Q : VK} {QB : Bool → Hp → Prop} {σ : St} {ta : TE} {K : PySem.W.Frag}
theorem r_isNr {a : Addr} (h : Q (.bl false) H) : rIsN (.ref a) .non H Q := ⟨rfl, by rw [decide_eq_false (by intro z; cases z)]; exact h⟩
theorem r_isNn (h : Q (.bl true) H) : rIsN .non .non H Q := ⟨rfl, by rw [decide_eq_true rfl]; exact h⟩
theorem r_tru (h : ta σ H fun x H' => ∃ k, TruV K x H' k ∧ QB k H') : tTru K ta σ H QB := h
theorem r_truL {a : Addr} {xs : List V} {P : Bool → Prop} (e : H a = some (.lst xs)) (h : P (!xs.isEmpty)) : ∃ k, TruV K (.ref a) H k ∧ P k := ⟨_, .inl ⟨xs, SqL.of e, rfl⟩, h⟩
end
end L2
set_option Elab.async false
set_option linter.all false
set_option maxRecDepth 100000
namespace PySem
open Sem (wp)
section
variable {prog : Program} {w : World} {A : Around} {E : Value → Shared → Prop} {s : Shared} {l : Addr} {xs : Array (Int × Tok)}
theorem my_max_tuple {Q : Value → Shared → Prop} (hh : A.handled = none) (hl : s.heap.IsTuple l (intItems xs)) (hne : 0 < xs.size)
    (h : ∀ v h' tk, (intItems xs)[argBest (fun i j => decide (numAt xs i > numAt xs j)) (xs.size - 1)]? = some v → (∀ b o, s.heap.get? b = some o → h'.get? b = some o) → Q v { s with heap := h', toks := tk }) :
    wpAny (model prog w) A (call (.builtin "max") [.ref l]) Q E s := by
  have hlt : l < s.heap.objs.size := by obtain ⟨_, e, _⟩ := hl; exact Heap.lt_size e
  refine call_max_walk (wpAny_pyIter_tuple hl ?_)
  refine ⟨_, [_, l], [_], _, _, _, _, rfl, Walks.tuple (A := A.in1) hh _ l (Nat.ne_of_lt hlt) (intItems xs), ⟨⟨_, Heap.get?_push_size _ rfl, rfl, rfl⟩, hl.push _⟩, fun b hb => ?_, by simpa [intItems] using hne, CmpOf.ints_gt (numAt xs) (fun _ _ => intItems_at), fun v h' tk hP hk => ?_⟩
  · show b < (s.heap.push _).objs.size
    rw [Heap.size_push]
    rcases List.mem_cons.mp hb with rfl | hb
    · exact Nat.lt_succ_self _
    · rcases List.mem_cons.mp hb with rfl | hb
      · exact Nat.lt_succ_of_lt hlt
      · cases hb
  · refine h v h' tk (by simpa [intItems] using hP) fun b o e => hk b o (fun hm => ?_) (Heap.get?_push_of_some _ e)
    rcases List.mem_cons.mp hm with e1 | hm
    · exact absurd (e1 ▸ Heap.lt_size e) (Nat.lt_irrefl _)
    · cases hm
end
end PySem
namespace L2
open PySem PySem.Spec PyProof.Rows
section
variable {prog : Program} {w : World} {A : Around} {E : Value → Shared → Prop} {s : Shared} {l : Addr} {its : List Value} {ns : List Int} {Q : Value → Shared → Prop}
theorem max_rawT (hh : A.handled = none) (hl : s.heap.IsTuple l its.toArray) (hi : IntsAre its ns) (hne : 0 < ns.length)
    (h : ∀ h' tk M t', (∀ b o, s.heap.get? b = some o → h'.get? b = some o) → M ∈ ns → (∀ a, a ∈ ns → a ≤ M) → Q (.int M t') { s with heap := h', toks := tk }) : wpAny (model prog w) A (call (.builtin "max") [.ref l]) Q E s := by
  obtain ⟨xs, e⟩ := hi.allInts.items
  have hn : numsOf (intItems xs).toList = ns := by rw [← e]; exact hi.numsOf
  rw [nums_intItems] at hn
  subst hn
  rw [e] at hl
  have hsz : 0 < xs.size := by simpa using hne
  refine PySem.my_max_tuple hh hl hsz fun v h' tk hv hk => ?_
  obtain ⟨t, rfl⟩ := intItems_at hv
  obtain ⟨h1, h2⟩ := argBest_gt (numAt xs) (xs.size - 1)
  refine h h' tk _ t hk ?_ fun a ha => ?_
  · rw [numAt_eq]; exact PySem.getD_mem (by rw [List.length_map, Array.length_toList]; omega)
  · obtain ⟨j, hj, rfl⟩ := mem_getD ha
    rw [List.length_map, Array.length_toList] at hj
    rw [← numAt_eq]; exact h2 j (by omega)
end
section
variable {X : Cx}
def cMaxT : List V → Hp → VK → Prop := fun vs H Q => ∃ (a : Addr) (ns : List Int), vs = [V.ref a] ∧ H a = some (.tup (ns.map V.int)) ∧ 0 < ns.length ∧ ∀ m, m ∈ ns → (∀ y, y ∈ ns → y ≤ m) → Q (.int m) H
theorem k_maxT (hc : X.calm = true) : CallR X (.builtin "max") cMaxT := by
  intro pins s σ H vs us Q I r h
  obtain ⟨a, ns, rfl, hs, hne, q⟩ := h
  obtain ⟨its, rv, hl, _⟩ := I.tuple (SqT.of hs)
  rw [Vals.ref1 r]
  exact max_rawT (I.ok.hd hc) hl rv.ints hne fun h' tk m t' hk h1 h2 => ⟨.int _, H, I.kept hk, ⟨_, rfl⟩, q m h1 h2⟩
def rCatTF : R2 := fun x y H Q => ∃ a b xs ys, x = .ref a ∧ y = .ref b ∧ H a = some (.tup xs) ∧ H b = some (.tup ys) ∧ xs.length + ys.length ≤ sizeLine ∧ ∀ p H', Same H H' → H' p = some (.tup (xs ++ ys)) → Q (.ref p) H'
theorem op_catTF : OpR X (binaryOp .Add) rCatTF := by
  intro pins s σ H x y v u Q I rx ry h
  obtain ⟨a, b, xs, ys, rfl, rfl, ha, hb, hz, q⟩ := h
  by_cases hx : xs = []
  · subst hx
    cases rx
    cases ry
    obtain ⟨its, r1, p1, _⟩ := I.tuple (SqT.of ha)
    obtain ⟨its2, r2, p2, _⟩ := I.tuple (SqT.of hb)
    cases r1
    have q' := q b H (Same.refl _) (by rw [List.nil_append]; exact hb)
    obtain ⟨m, F⟩ := I.fr
    exact add_tuples (vs := []) (ws := its2) (news := []) (Q := EP X pins σ Q) F (fun p hp => absurd hp (by simp)) p1 p2 (fun _ => ⟨.ref b, H, I, rfl, q'⟩) (fun z => absurd rfl z) (fun z => absurd rfl z) (by rw [← r2.length]; exact hz)
  · refine op_catT pins s σ H _ _ v u Q I rx ry ⟨a, b, xs, ys, rfl, rfl, SqT.of ha, SqT.of hb, hx, hz, fun e => ?_, fun _ p hp => ?_⟩
    · subst e
      exact q a H (Same.refl _) (by rw [List.append_nil]; exact ha)
    · exact q p _ (Same.new hp _) upd_same
end
end L2
namespace L2
open PySem PySem.Spec PyProof.Rows
theorem perm_lift {α β : Type} {f : α → β} {l m : List β} (h : l.Perm m) : ∀ ps : List α, m = ps.map f → ∃ qs : List α, qs.Perm ps ∧ l = qs.map f := by
  induction h with
  | nil =>
    intro ps e
    cases ps with
    | nil => exact ⟨[], .refl _, rfl⟩
    | cons a r => cases e
  | cons x _ ih =>
    intro ps e
    cases ps with
    | nil => cases e
    | cons a r =>
      rw [List.map_cons] at e
      injection e with e1 e2
      obtain ⟨qs, hq, el⟩ := ih r e2
      exact ⟨a :: qs, hq.cons a, by rw [List.map_cons, ← el, e1]⟩
  | swap x y l =>
    intro ps e
    cases ps with
    | nil => cases e
    | cons a r =>
      cases r with
      | nil => cases e
      | cons b r =>
        rw [List.map_cons, List.map_cons] at e
        injection e with e1 e2
        injection e2 with e2 e3
        exact ⟨b :: a :: r, .swap a b r, by rw [List.map_cons, List.map_cons, ← e1, ← e2, ← e3]⟩
  | trans _ _ ih1 ih2 =>
    intro ps e
    obtain ⟨qs, hq, el⟩ := ih2 ps e
    obtain ⟨rs, hr, el2⟩ := ih1 qs el
    exact ⟨rs, hr.trans hq, el2⟩
def intOf : V → Int
  | .int i => i
  | _ => 0
def intsAt (H : Hp) (p : Addr) : List Int := match H p with
  | some (.tup xs) => xs.map intOf
  | _ => []
theorem intsAt_of {H : Hp} {p : Addr} {b : List Int} (h : H p = some (.tup (b.map V.int))) : intsAt H p = b := by
  unfold intsAt
  rw [h]
  show (b.map V.int).map intOf = b
  rw [List.map_map]
  have : (intOf ∘ V.int) = id := rfl
  rw [this, List.map_id]
theorem TupsAt.eq {H : Hp} {ps : List Addr} {bs : List (List Int)} (h : TupsAt H ps bs) : bs = ps.map (intsAt H) := by
  apply List.ext_getElem?
  intro i
  rw [List.getElem?_map]
  cases e : ps[i]? with
  | none =>
    have : ps.length ≤ i := List.getElem?_eq_none_iff.mp e
    rw [List.getElem?_eq_none (by rw [← h.1]; exact this)]
    rfl
  | some p =>
    obtain ⟨b, e1, e2⟩ := h.get e
    rw [e1]
    show some b = some (intsAt H p)
    rw [intsAt_of e2]
theorem TupsAt.mem {H : Hp} {ps : List Addr} {bs : List (List Int)} (h : TupsAt H ps bs) {p : Addr} (hp : p ∈ ps) : ∃ b ∈ bs, H p = some (.tup (b.map V.int)) := by
  obtain ⟨i, hi⟩ := List.mem_iff_getElem?.mp hp
  obtain ⟨b, e1, e2⟩ := h.get hi
  exact ⟨b, List.mem_of_getElem? e1, e2⟩
theorem TupsAt.of_all {H : Hp} {ps : List Addr} (h : ∀ p ∈ ps, ∃ b : List Int, H p = some (.tup (b.map V.int))) : TupsAt H ps (ps.map (intsAt H)) := by
  refine ⟨by rw [List.length_map], fun i p b h1 h2 => ?_⟩
  rw [List.getElem?_map, h1] at h2
  have e : intsAt H p = b := Option.some.inj h2
  obtain ⟨b', e'⟩ := h p (List.mem_of_getElem? h1)
  rw [← e, intsAt_of e']
  exact e'
theorem tupItems_ints : ∀ {b : List Int} {us : List Value} (k : Nat), Vals (b.map V.int) us → tupItems (fun _ => false) k us = some (b.map Sum.inl)
  | [], _, k, r => by cases r; rfl
  | z :: b, _, k, r => by
    cases r with
    | cons r0 r =>
      obtain ⟨t, rfl⟩ := r0
      show (if false = true then none else (tupItems (fun _ => false) (k + 1) _).map (Sum.inl z :: ·)) = _
      rw [if_neg Bool.false_ne_true, tupItems_ints (k + 1) r]
      rfl
theorem refs_vals : ∀ {ps : List Addr} {us : List Value}, Vals (ps.map V.ref) us → us = ps.map Value.ref
  | [], _, r => by cases r; rfl
  | p :: ps, _, r => by
    cases r with
    | cons r0 r =>
      cases r0
      rw [List.map_cons, refs_vals r]
theorem vals_refs : ∀ ps : List Addr, Vals (ps.map V.ref) (ps.map Value.ref)
  | [] => .nil
  | p :: ps => .cons rfl (vals_refs ps)
section
variable {X : Cx}
def cSortT : List V → Hp → VK → Prop := fun vs H Q => ∃ (a : Addr) (ps : List Addr) (bs : List (List Int)), vs = [V.ref a] ∧ H a = some (.lst (ps.map V.ref)) ∧ TupsAt H ps bs ∧ (∀ b ∈ bs, b ≠ []) ∧
  ∀ (ps' : List Addr) (bs' : List (List Int)) (p : Addr), bs'.Perm bs → TupsAt H ps' bs' → H p = none → Q (.ref p) (upd H p (.lst (ps'.map V.ref)))
theorem k_sortT : CallR X (.builtin "sorted") cSortT := by
  intro pins s σ H vs us Q I r h
  obtain ⟨a, ps, bs, rfl, ha, tu, hne, q⟩ := h
  obtain ⟨z, its, n, rv, hl, e⟩ := I.lstM ha
  rw [Vals.ref1 r]
  have ei := refs_vals rv
  subst ei
  have obj : ∀ p ∈ ps, ∃ (b : List Int) (us : List Value) (o : Obj) (k : Nat), b ≠ [] ∧ Vals (b.map V.int) us ∧ s.heap.get? p = some o ∧ o.cls = .type "tuple" ∧ o.data = .seq us.toArray k := by
    intro p hp
    obtain ⟨b, hb, eb⟩ := tu.mem hp
    obtain ⟨_, us, rb, o, ho, hc, k, hd⟩ := (show ObjOk X.prog X.w H s.heap p (.tup (b.map V.int)) from I.hok p _ eb)
    exact ⟨b, us, o, k, hne b hb, rb, ho, hc, hd⟩
  have tups : ∀ qs : List Addr, (∀ p ∈ qs, p ∈ ps) → ∃ fs, TupsOf s.heap (fun _ => false) (qs.map Value.ref) fs := by
    intro qs
    induction qs with
    | nil => intro _; exact ⟨[], .nil⟩
    | cons p qs ih =>
      intro hq
      obtain ⟨fs, hf⟩ := ih fun x hx => hq x (List.mem_cons_of_mem _ hx)
      obtain ⟨b, us, o, k, hb, rb, ho, hc, hd⟩ := obj p (hq p List.mem_cons_self)
      cases b with
      | nil => exact absurd rfl hb
      | cons x b =>
        cases rb with
        | cons r0 rb =>
          obtain ⟨t, rfl⟩ := r0
          exact ⟨_ :: fs, .cons ⟨p, o, _, k, rfl, ho, hc, hd, rfl, fun _ => ⟨x, t, rfl⟩, fun z => absurd z (by simp)⟩ hf⟩
  obtain ⟨fs, ht⟩ := tups ps fun _ h => h
  refine PyProof.Rows.G.sorted_tups (shape := fun _ => false) ⟨_, e, rfl, n, rfl⟩ ht (fun v hv => ?_) (by rw [← hl]; exact z) fun st' hp hs _ => ?_
  · obtain ⟨p, hp, rfl⟩ := List.mem_map.mp hv
    obtain ⟨b, us, o, k, _, rb, ho, hc, hd⟩ := obj p hp
    refine ⟨b.map Sum.inl, ?_⟩
    unfold PyProof.Rows.G.tupKeyC
    have e1 : PyProof.Rows.G.isTupObj s.heap (.ref p) = true := by simp [PyProof.Rows.G.isTupObj, ho, hc]
    rw [if_pos e1]
    simp only [tupKey, ho, hd]
    exact tupItems_ints 0 rb
  · have hpl : ((arrOf st').map (·.2)).toList.Perm (ps.map Value.ref) := by
      have e1 := Array.perm_iff_toList_perm.mp hp
      rw [pairsOf_toList] at e1
      have e2 := e1.map (·.2)
      rw [List.map_snd_zip (Nat.le_refl _)] at e2
      rw [Array.toList_map]
      exact e2
    obtain ⟨qs, hq, el⟩ := perm_lift hpl ps rfl
    obtain ⟨ep, he'⟩ := PyProof.Rows.sortedAll_at s.heap (ps.map Value.ref) ((arrOf st').map (·.2))
    have tq : TupsAt H qs (qs.map (intsAt H)) := TupsAt.of_all fun p hp => by
      obtain ⟨b, _, eb⟩ := tu.mem (hq.mem_iff.mp hp)
      exact ⟨b, eb⟩
    have hlen : (qs.map V.ref).length ≤ sizeLine := by rw [List.length_map, hq.length_eq]; rw [List.length_map] at z; exact z
    refine ⟨.ref _, upd H (s.heap.objs.size + 1) (.lst (qs.map V.ref)), I.laid (t' := s.toks) (fun _ _ => PyProof.Rows.sortedAll_old) (Nat.le_succ _) ⟨hlen, qs.map Value.ref, ep, vals_refs qs, ?_⟩, rfl, q qs _ _ ?_ tq (I.hok.fresh (Nat.le_succ _))⟩
    · rw [he', ← el]
    · rw [tu.eq]
      exact hq.map _
def cSortI : List V → Hp → VK → Prop := fun vs H Q => ∃ (a : Addr) (ns : List Int), vs = [V.ref a] ∧ H a = some (.lst (ns.map V.int)) ∧ ns.length < 64 ∧
  ∀ (ns' : List Int) (p : Addr), ns'.Perm ns → ns'.Pairwise (· ≤ ·) → H p = none → Q (.ref p) (upd H p (.lst (ns'.map V.int)))
theorem k_sortI : CallR X (.builtin "sorted") cSortI := cr_sorted.imp fun vs H Q h => by
  obtain ⟨a, ns, rfl, ha, hz, q⟩ := h
  exact ⟨a, ns, rfl, SqL.of ha, hz, q⟩
end
section
variable {H : Hp} {Q : VK}
theorem r_maxT {a : Addr} {ns : List Int} (e : H a = some (.tup (ns.map V.int))) (z : 0 < ns.length) (h : ∀ m, m ∈ ns → (∀ y, y ∈ ns → y ≤ m) → Q (.int m) H) : cMaxT [V.ref a] H Q := ⟨a, ns, rfl, e, z, h⟩
theorem r_catTF {a b : Addr} {xs ys : List V} (e : H a = some (.tup xs)) (e' : H b = some (.tup ys)) (z : xs.length + ys.length ≤ sizeLine) (h : ∀ p H', Same H H' → H' p = some (.tup (xs ++ ys)) → Q (.ref p) H') : rCatTF (.ref a) (.ref b) H Q := ⟨a, b, xs, ys, rfl, rfl, e, e', z, h⟩
theorem r_sortI {a : Addr} {ns : List Int} (e : H a = some (.lst (ns.map V.int))) (z : ns.length < 64) (h : ∀ (ns' : List Int) (p : Addr), ns'.Perm ns → ns'.Pairwise (· ≤ ·) → H p = none → Q (.ref p) (upd H p (.lst (ns'.map V.int)))) : cSortI [V.ref a] H Q := ⟨a, ns, rfl, e, z, h⟩
theorem r_extend {l b : Addr} {xs zs : List V} (e : H l = some (.lst xs)) (e' : H b = some (.lst zs)) (z : xs.length + zs.length ≤ sizeLine) (h : Q .non (upd H l (.lst (xs ++ zs)))) : rExtend (.ref l) [.ref b] H Q := ⟨l, b, xs, zs, rfl, rfl, e, e', z, h⟩
end
end L2
set_option Elab.async false
set_option linter.all false
set_option maxRecDepth 100000
namespace L2
open PySem PySem.Spec PyProof.Rows
mutual
inductive DF (H : Hp) : V → PyData → Prop
  | int (i : Int) : DF H (.int i) (.int i)
  | lst {a : Addr} {xs : List V} {ds : List PyData} : H a = some (.lst xs) → DFs H xs ds → DF H (.ref a) (.list ds)
  | tup {a : Addr} {xs : List V} {ds : List PyData} : H a = some (.tup xs) → DFs H xs ds → DF H (.ref a) (.tuple ds)
inductive DFs (H : Hp) : List V → List PyData → Prop
  | nil : DFs H [] []
  | cons {v : V} {vs : List V} {d : PyData} {ds : List PyData} : DF H v d → DFs H vs ds → DFs H (v :: vs) (d :: ds)
end
mutual
theorem DF.same {H H' : Hp} (s : Same H H') : ∀ {v : V} {d : PyData}, DF H v d → DF H' v d
  | _, _, .int i => .int i
  | _, _, .lst e h => .lst (s _ _ e) (DFs.same s h)
  | _, _, .tup e h => .tup (s _ _ e) (DFs.same s h)
theorem DFs.same {H H' : Hp} (s : Same H H') : ∀ {vs : List V} {ds : List PyData}, DFs H vs ds → DFs H' vs ds
  | _, _, .nil => .nil
  | _, _, .cons h t => .cons (DF.same s h) (DFs.same s t)
end
theorem DFs.length {H : Hp} : ∀ {vs : List V} {ds : List PyData}, DFs H vs ds → vs.length = ds.length
  | _, _, .nil => rfl
  | _, _, .cons _ t => by rw [List.length_cons, List.length_cons, DFs.length t]
theorem DFs.append {H : Hp} {vs' : List V} {ds' : List PyData} (h' : DFs H vs' ds') : ∀ {vs : List V} {ds : List PyData}, DFs H vs ds → DFs H (vs ++ vs') (ds ++ ds')
  | _, _, .nil => h'
  | _, _, .cons h t => .cons h (DFs.append h' t)
theorem DFs.get {H : Hp} : ∀ {vs : List V} {ds : List PyData} {i : Nat} {d : PyData}, DFs H vs ds → ds[i]? = some d → ∃ v, vs[i]? = some v ∧ DF H v d
  | _, _, i, _, .nil, e => by simp at e
  | _, _, 0, _, .cons h _, e => by simp at e; subst e; exact ⟨_, rfl, h⟩
  | _, _, i + 1, _, .cons _ t, e => by
    obtain ⟨v, h1, h2⟩ := DFs.get (i := i) t (by simpa using e)
    exact ⟨v, by simpa using h1, h2⟩
theorem DFs.ints {H : Hp} : ∀ {b : List Int} {vs : List V}, DFs H vs (b.map PyData.int) → vs = b.map V.int
  | [], _, h => by cases h; rfl
  | x :: b, _, h => by
    cases h with
    | cons h t =>
      cases h
      rw [DFs.ints t]; rfl
theorem DFs.tups {H : Hp} : ∀ {bs : List (List Int)} {vs : List V}, DFs H vs (dB bs) → ∃ ps : List Addr, vs = ps.map V.ref ∧ TupsAt H ps bs
  | [], _, h => by cases h; exact ⟨[], rfl, .nil _⟩
  | b :: bs, _, h => by
    cases h with
    | cons h t =>
      obtain ⟨ps, e, tu⟩ := DFs.tups t
      cases h with
      | tup e1 h1 =>
        rename_i a xs
        rw [DFs.ints h1] at e1
        refine ⟨a :: ps, by rw [e]; rfl, ⟨by simp [tu.1], fun i p c h2 h3 => ?_⟩⟩
        cases i with
        | zero =>
          simp at h2 h3
          subst h2 h3
          exact e1
        | succ i => exact tu.2 i p c (by simpa using h2) (by simpa using h3)
theorem DF.blks {H : Hp} {v : V} {bs : List (List Int)} (h : DF H v (.list (dB bs))) : ∃ a, v = .ref a ∧ Blks H a bs := by
  cases h with
  | lst e h =>
    obtain ⟨ps, e1, tu⟩ := DFs.tups h
    rw [e1] at e
    exact ⟨_, rfl, ps, e, tu⟩
def dRow (r : Int × List (List Int)) : PyData := .tuple [.int r.1, .list (dB r.2)]
theorem DF.row {H : Hp} {v : V} {r : Int × List (List Int)} (h : DF H v (dRow r)) : ∃ p a, v = .ref p ∧ H p = some (.tup [.int r.1, .ref a]) ∧ Blks H a r.2 := by
  cases h with
  | tup e h =>
    cases h with
    | cons h1 t =>
      cases h1
      cases t with
      | cons h2 t =>
        cases t
        obtain ⟨a, rfl, hb⟩ := DF.blks h2
        exact ⟨_, a, rfl, e, hb⟩
section
variable {X : Cx}
def isStar : Expr → Bool
  | .Starred _ _ => true
  | _ => false
theorem star_cons {e : Expr} {es : List Expr} {env : Env} (h : isStar e = false) : starEach (e :: es) env = (false, eval e env) :: starEach es env := by
  cases e <;> first | rfl | cases h
def tLit (d : PyData) : TE := fun _ H Q => ∀ v H', Same H H' → DF H' v d → Q v H'
def tLits (ds : List PyData) : TA := fun _ H Q => ∀ vs H', Same H H' → DFs H' vs ds → Q vs H'
theorem lit_int {i : Int} {j : Nat} {pos : Pos} : PE X (.Constant (.int i) j pos) (tLit (.int i)) := fun pins s σ H Q I h => pe_int pins s σ H Q I (h _ _ (Same.refl _) (.int i))
theorem lits_nil : PA X [] (tLits []) := fun pos pins s σ H Q I h => pa_nil pos pins s σ H Q I (h _ _ (Same.refl _) .nil)
theorem lits_cons {e : Expr} {es : List Expr} {d : PyData} {ds : List PyData} (he : PE X e (tLit d)) (hs : PA X es (tLits ds)) (hst : isStar e = false := by rfl) : PA X (e :: es) (tLits (d :: ds)) := by
  intro pos pins s σ H Q I h
  refine pa_cons he hs (star_cons hst) pos pins s σ H Q I fun v H1 s1 h1 => ?_
  exact fun vs H2 s2 h2 => h (v :: vs) H2 (s1.trans s2) (.cons (h1.same s2) h2)
theorem lit_lst {es : List Expr} {pos : Pos} {ds : List PyData} (h : PA X es (tLits ds)) (z : ds.length ≤ sizeLine) : PE X (.List es pos) (tLit (.list ds)) := by
  intro pins s σ H Q I q
  refine pe_lst h pins s σ H Q I fun vs H1 s1 h1 => ⟨by rw [h1.length]; exact z, fun p hp => ?_⟩
  exact q _ _ (s1.trans (Same.new hp _)) (.lst upd_same (h1.same (Same.new hp _)))
theorem lit_tup {es : List Expr} {x1 : Nat} {pos : Pos} {ds : List PyData} (h : PA X es (tLits ds)) (z : ds.length ≤ sizeLine) : PE X (.Tuple es x1 pos) (tLit (.tuple ds)) := by
  intro pins s σ H Q I q
  refine pe_tup h pins s σ H Q I fun vs H1 s1 h1 => ⟨by rw [h1.length]; exact z, fun p hp => ?_⟩
  exact q _ _ (s1.trans (Same.new hp _)) (.tup upd_same (h1.same (Same.new hp _)))
end
section
variable {H : Hp} {Q : VK} {σ : St}
theorem r_lit {d : PyData} (h : ∀ v H', Same H H' → DF H' v d → Q v H') : tLit d σ H Q := h
theorem r_U {g : Int → V} {i : Int} (h : Q (g i) H) : rU g (.int i) H Q := ⟨i, rfl, h⟩
end
def mx (row : List Int) : Int := row.foldl max (-1)
def extF (m : Int) (row : List Int) : List (List Int) := (rngV (mx row + 1) (m - (mx row + 1)).toNat).map fun t => row ++ [t]
def fewF (m : Int) : Nat → List (List Int)
  | 0 => [[]]
  | k + 1 => (fewF m k).flatMap (extF m)
theorem fmax_le (l : List Int) : ∀ a : Int, a ≤ l.foldl max a ∧ (∀ x ∈ l, x ≤ l.foldl max a) ∧ (l.foldl max a = a ∨ l.foldl max a ∈ l) := by
  induction l with
  | nil => intro a; exact ⟨Int.le_refl _, by simp, .inl rfl⟩
  | cons y l ih =>
    intro a
    obtain ⟨h1, h2, h3⟩ := ih (max a y)
    refine ⟨Int.le_trans (Int.le_max_left _ _) h1, fun x hx => ?_, ?_⟩
    · rcases List.mem_cons.mp hx with rfl | hx
      · exact Int.le_trans (Int.le_max_right _ _) h1
      · exact h2 x hx
    · rcases h3 with h3 | h3
      · by_cases c : a ≤ y
        · right
          show l.foldl max (max a y) ∈ y :: l
          rw [h3, Int.max_eq_right c]; exact List.mem_cons_self
        · left
          show l.foldl max (max a y) = a
          rw [h3, Int.max_eq_left (by omega)]
      · right; exact List.mem_cons_of_mem _ h3
theorem mx_is {row : List Int} {z : Int} (h1 : z ∈ (-1 :: row)) (h2 : ∀ y ∈ (-1 :: row), y ≤ z) : mx row = z := by
  obtain ⟨a1, a2, a3⟩ := fmax_le row (-1)
  have b1 : mx row ≤ z := by
    rcases a3 with a3 | a3
    · show row.foldl max (-1) ≤ z
      rw [a3]; exact h2 _ List.mem_cons_self
    · exact h2 _ (List.mem_cons_of_mem _ a3)
  have b2 : z ≤ mx row := by
    rcases List.mem_cons.mp h1 with rfl | h1
    · exact a1
    · exact a2 _ h1
  omega
theorem mx_ge (row : List Int) : -1 ≤ mx row := (fmax_le row (-1)).1
theorem mem_rngV_iff {lo : Int} {n : Nat} {x : Int} : x ∈ rngV lo n ↔ lo ≤ x ∧ x < lo + n := by
  unfold rngV
  rw [List.mem_map]
  constructor
  · rintro ⟨i, hi, rfl⟩
    have := List.mem_range.mp hi
    omega
  · rintro ⟨h1, h2⟩
    exact ⟨(x - lo).toNat, List.mem_range.mpr (by omega), by omega⟩
theorem fewF_ok (m : Int) : ∀ (k : Nat) (b : List Int), b ∈ fewF m k → b.length = k ∧ b.Pairwise (· < ·) ∧ ∀ x ∈ b, 0 ≤ x ∧ x < m
  | 0, b, h => by
    have : b = [] := by simpa [fewF] using h
    subst this
    exact ⟨rfl, .nil, by simp⟩
  | k + 1, b, h => by
    obtain ⟨row, hr, hb⟩ := List.mem_flatMap.mp h
    obtain ⟨t, ht, rfl⟩ := List.mem_map.mp hb
    obtain ⟨h1, h2, h3⟩ := fewF_ok m k row hr
    obtain ⟨t1, t2⟩ := mem_rngV_iff.mp ht
    have hg := mx_ge row
    have hm := (fmax_le row (-1)).2.1
    refine ⟨by simp [h1], List.pairwise_append.mpr ⟨h2, List.pairwise_singleton _ _, fun x hx y hy => ?_⟩, fun x hx => ?_⟩
    · have := List.mem_singleton.mp hy
      have : x ≤ mx row := hm x hx
      omega
    · rcases List.mem_append.mp hx with hx | hx
      · exact h3 x hx
      · have := List.mem_singleton.mp hx
        omega
theorem rngV_succ (lo : Int) (n : Nat) : rngV lo (n + 1) = rngV lo n ++ [lo + (n : Int)] := by
  unfold rngV
  rw [List.range_succ, List.map_append]; rfl
end L2
namespace L2
open PySem PySem.Spec PyProof.Rows
def cIsiR (K : PySem.W.Frag) (T : String) : List V → Hp → VK → Prop := fun xs H Q => ∃ x t b, xs = [x, .ty T] ∧ TyOf K H x (.type t) ∧ PySem.W.kitOne K (.type t) (.type T) = some b ∧ Q (.bl b) H
end L2
namespace L2
open PySem PySem.Spec PyProof.Rows
theorem TupsAt.append {H : Hp} {ps qs : List Addr} {bs cs : List (List Int)} (h : TupsAt H ps bs) (h' : TupsAt H qs cs) : TupsAt H (ps ++ qs) (bs ++ cs) := by
  refine ⟨by rw [List.length_append, List.length_append, h.1, h'.1], fun i p b h1 h2 => ?_⟩
  by_cases hi : i < ps.length
  · rw [List.getElem?_append_left hi] at h1
    rw [List.getElem?_append_left (by rw [← h.1]; exact hi)] at h2
    exact h.2 i p b h1 h2
  · rw [List.getElem?_append_right (by omega)] at h1
    rw [List.getElem?_append_right (by rw [← h.1]; omega), ← h.1] at h2
    exact h'.2 _ p b h1 h2
theorem flat_take_le {α β : Type} (f : α → List β) (l : List α) (n : Nat) : ((l.take n).flatMap f).length ≤ (l.flatMap f).length := by
  have e : l.flatMap f = (l.take n).flatMap f ++ (l.drop n).flatMap f := by
    rw [← List.flatMap_append, List.take_append_drop]
  rw [e, List.length_append]
  omega
theorem flat_snoc {α β : Type} (f : α → List β) (l : List α) (x : α) : (l ++ [x]).flatMap f = l.flatMap f ++ f x := by
  rw [List.flatMap_append]
  simp
end L2
namespace L2
open PySem PySem.Spec PyProof.Rows
def tCut (t : TS) : TS := fun D σ H => ∃ Post : St → Hp → Prop, t { D with nx := Post } σ H ∧ ∀ σ' H', Post σ' H' → D.nx σ' H'
theorem ps_cut {X : Cx} {st : Stmt} {t : TS} (h : PS X st t) : PS X st (tCut t) := by
  intro pins s σ H D I q
  obtain ⟨Post, q, hp⟩ := q
  refine thn (h pins s σ H _ I q) fun f s' z => ?_
  cases f with
  | next =>
    obtain ⟨σ', H', I', p⟩ := z
    exact ⟨σ', H', I', hp _ _ p⟩
  | brk => exact z
  | cont => exact z
  | ret u => exact z
theorem r_cut {t : TS} {D : Ends} {σ : St} {H : Hp} (Post : St → Hp → Prop) (h : t { D with nx := Post } σ H) (hp : ∀ σ' H', Post σ' H' → D.nx σ' H') : tCut t D σ H := ⟨Post, h, hp⟩
end L2
namespace L2
open PySem PySem.Spec PyProof.Rows
section
variable {X : Cx} {tg l e : Expr} {tl : TE} {ta : TA}
theorem pi_tupK (K : PySem.W.Frag) (hK : X.K = K) (hl : PE X l tl) : PI X tg l (iTup K tl) := by subst hK; exact pi_tup hl
end
end L2
namespace L2
open PySem PySem.Spec PyProof.Rows
structure QE (X : Cx) (e : Expr) (d : PyData) : Prop where
  h : PE X e (tLit d)
structure QA (X : Cx) (es : List Expr) (ds : List PyData) : Prop where
  h : PA X es (tLits ds)
section
variable {X : Cx}
theorem q_int {i : Int} {j : Nat} {pos : Pos} : QE X (.Constant (.int i) j pos) (.int i) := ⟨lit_int⟩
theorem q_nil : QA X [] [] := ⟨lits_nil⟩
theorem q_cons {e : Expr} {es : List Expr} {d : PyData} {ds : List PyData} (he : QE X e d) (hs : QA X es ds) (hst : isStar e = false := by rfl) : QA X (e :: es) (d :: ds) := ⟨lits_cons he.h hs.h hst⟩
theorem q_lst {es : List Expr} {pos : Pos} {ds : List PyData} (h : QA X es ds) (z : ds.length ≤ sizeLine := by decide) : QE X (.List es pos) (.list ds) := ⟨lit_lst h.h z⟩
theorem q_tup {es : List Expr} {x1 : Nat} {pos : Pos} {ds : List PyData} (h : QA X es ds) (z : ds.length ≤ sizeLine := by decide) : QE X (.Tuple es x1 pos) (.tuple ds) := ⟨lit_tup h.h z⟩
end
end L2
set_option Elab.async false
set_option linter.all false
set_option maxRecDepth 100000
namespace L2
open PySem PySem.Spec PyProof.Rows
theorem len_below (t : Int) : ∀ b : List Int, (b.filter fun x => decide (x < t + 1)).length = (b.filter fun x => decide (x < t)).length + b.count t
  | [] => rfl
  | x :: b => by
    have ih := len_below t b
    rw [List.filter_cons, List.filter_cons, List.count_cons]
    by_cases h1 : x < t
    · have h2 : x < t + 1 := by omega
      have h3 : (x == t) = false := by simp; omega
      simp [h1, h2, h3, ih]; omega
    · by_cases h2 : x = t
      · subst h2
        have h3 : x < x + 1 := by omega
        rw [if_pos (by simpa using h3), if_neg (by simp), List.length_cons, ih]
        simp; omega
      · have h3 : ¬ x < t + 1 := by omega
        have h4 : (x == t) = false := by simp [h2]
        simp [h1, h3, h4, ih]
theorem count_nodup (x : Int) : ∀ {b : List Int}, b.Nodup → b.count x = if b.contains x then 1 else 0
  | [], _ => rfl
  | y :: b, h => by
    obtain ⟨h1, h2⟩ := List.nodup_cons.mp h
    rw [List.count_cons, count_nodup x h2, List.contains_cons]
    by_cases e : x = y
    · subst e
      have : b.contains x = false := by simpa using h1
      simp [this]
      exact h1
    · have e' : (y == x) = false := by simp; exact fun z => e z.symm
      have e'' : (x == y) = false := by simp [e]
      simp [e', e'']
theorem in_range_len {b : List Int} (nd : b.Nodup) : ∀ n : Nat, (∀ x ∈ b, 0 ≤ x) → ((rngV 0 n).filter fun x => b.contains x).length = (b.filter fun x => decide (x < (n : Int))).length
  | 0, h0 => by
    have e : b.filter (fun x => decide (x < ((0 : Nat) : Int))) = [] := by
      rw [List.filter_eq_nil_iff]
      intro x hx
      have := h0 x hx
      simp; omega
    rw [e]; rfl
  | n + 1, h0 => by
    rw [rngV_succ, List.filter_append, List.length_append, in_range_len nd n h0, Int.natCast_add]
    have e : (b.filter fun x => decide (x < (n : Int) + ((1 : Nat) : Int))).length = (b.filter fun x => decide (x < (n : Int))).length + b.count (n : Int) := len_below (n : Int) b
    rw [e, count_nodup _ nd]
    congr 1
    have z : (0 : Int) + (n : Int) = (n : Int) := by omega
    rw [z, List.filter_cons]
    split <;> rename_i h <;> simp
def compl (n : Nat) (b : List Int) : List Int := (rngV 0 n).filter fun x => !b.contains x
theorem rngV_lt (lo : Int) : ∀ n : Nat, (rngV lo n).Pairwise (· < ·)
  | 0 => .nil
  | n + 1 => by
    rw [rngV_succ]
    refine List.pairwise_append.mpr ⟨rngV_lt lo n, List.pairwise_singleton _ _, fun x hx y hy => ?_⟩
    have := (mem_rngV_iff.mp hx).2
    have := List.mem_singleton.mp hy
    omega
theorem filter_both {α : Type} (p : α → Bool) : ∀ l : List α, (l.filter fun x => !p x).length + (l.filter p).length = l.length
  | [] => rfl
  | x :: l => by
    have ih := filter_both p l
    rw [List.filter_cons, List.filter_cons]
    cases p x <;> simp <;> omega
theorem strict_nodup {b : List Int} (h : b.Pairwise (· < ·)) : b.Nodup := h.imp fun h => by omega
theorem compl_len {n : Nat} {b : List Int} (h : b.Pairwise (· < ·)) (hr : ∀ x ∈ b, 0 ≤ x ∧ x < (n : Int)) : (compl n b).length + b.length = n := by
  have e1 := filter_both (fun x => b.contains x) (rngV 0 n)
  rw [rngV_length, in_range_len (strict_nodup h) n fun x hx => (hr x hx).1] at e1
  have e2 : b.filter (fun x => decide (x < (n : Int))) = b := List.filter_eq_self.mpr fun x hx => by simpa using (hr x hx).2
  rw [e2] at e1
  exact e1
theorem compl_blk (n : Nat) (b : List Int) : (compl n b).Pairwise (· < ·) ∧ ∀ x ∈ compl n b, 0 ≤ x ∧ x < (n : Int) := by
  refine ⟨(rngV_lt 0 n).filter _, fun x hx => ?_⟩
  have := mem_rngV_iff.mp (List.mem_filter.mp hx).1
  omega
def atZ (o : List Int) (t : Int) : Int := o.getD t.toNat 0
theorem atZ_inj {o : List Int} (nd : o.Nodup) {x y : Int} (hx : 0 ≤ x) (hx' : x < (o.length : Int)) (hy : 0 ≤ y) (hy' : y < (o.length : Int)) (h : atZ o x = atZ o y) : x = y := by
  unfold atZ at h
  have h1 : x.toNat < o.length := by omega
  have h2 : y.toNat < o.length := by omega
  rw [List.getD_eq_getElem?_getD, List.getD_eq_getElem?_getD, List.getElem?_eq_getElem h1, List.getElem?_eq_getElem h2] at h
  have e : x.toNat = y.toNat := (List.getElem_inj nd).mp h
  omega
theorem nodup_atZ {o : List Int} (nd : o.Nodup) : ∀ {b : List Int}, b.Nodup → (∀ x ∈ b, 0 ≤ x ∧ x < (o.length : Int)) → (b.map (atZ o)).Nodup
  | [], _, _ => List.nodup_nil
  | x :: b, h, hr => by
    obtain ⟨h1, h2⟩ := List.nodup_cons.mp h
    rw [List.map_cons]
    refine List.nodup_cons.mpr ⟨fun hm => ?_, nodup_atZ nd h2 fun y hy => hr y (List.mem_cons_of_mem _ hy)⟩
    obtain ⟨y, hy, e⟩ := List.mem_map.mp hm
    have hx := hr x List.mem_cons_self
    have hy' := hr y (List.mem_cons_of_mem _ hy)
    have := atZ_inj nd hy'.1 hy'.2 hx.1 hx.2 e
    subst this
    exact h1 hy
theorem atZ_mem {o : List Int} {x : Int} (hx : 0 ≤ x) (hx' : x < (o.length : Int)) : atZ o x ∈ o := by
  unfold atZ
  have h1 : x.toNat < o.length := by omega
  rw [List.getD_eq_getElem?_getD, List.getElem?_eq_getElem h1]
  exact List.getElem_mem h1
theorem atI_atZ {o : List Int} {x : Int} (hx : 0 ≤ x) (hx' : x < (o.length : Int)) : atI (o.map V.int) x = some (.int (atZ o x)) := by
  have h1 : x.toNat < o.length := by omega
  refine at_of (j := x.toNat) (by omega) ?_
  rw [List.getElem?_map, List.getElem?_eq_getElem h1]
  unfold atZ
  rw [List.getD_eq_getElem?_getD, List.getElem?_eq_getElem h1]
  rfl
end L2
set_option Elab.async false
set_option linter.all false
set_option maxRecDepth 100000
open PySem
namespace L2
theorem cut_pre {xs : List V} {i : Nat} (h : i ≤ xs.length) : cutV xs none (some (i : Int)) = xs.take i := by
  unfold cutV
  rw [HT.sIx_none, HT.sIx_nat, List.drop_zero, Nat.sub_zero, Nat.min_eq_left h]
theorem cut_suf (xs : List V) (i : Nat) : cutV xs (some (i : Int)) none = xs.drop i := by
  unfold cutV
  rw [HT.sIx_none, HT.sIx_nat]
  by_cases h : i ≤ xs.length
  · rw [Nat.min_eq_left h]
    exact List.take_of_length_le (by rw [List.length_drop]; exact Nat.le_refl _)
  · rw [Nat.min_eq_right (by omega), List.drop_of_length_le (Nat.le_refl _), List.drop_of_length_le (i := i) (by omega), List.take_nil]
theorem cut_tail (xs : List V) : cutV xs (some (1 : Int)) none = xs.drop 1 := cut_suf xs 1
def RefsAt (H : Hp) (xs : List V) (bs : List (List Int)) : Prop := ∃ ps : List Addr, xs = ps.map V.ref ∧ TupsAt H ps bs
theorem RefsAt.blks {H : Hp} {r : Addr} {xs : List V} {bs : List (List Int)} (h : RefsAt H xs bs) (e : H r = some (.lst xs)) : Blks H r bs := by
  obtain ⟨ps, rfl, t⟩ := h
  exact ⟨ps, e, t⟩
theorem RefsAt.append {H : Hp} {xs ys : List V} {bs cs : List (List Int)} (h : RefsAt H xs bs) (h' : RefsAt H ys cs) : RefsAt H (xs ++ ys) (bs ++ cs) := by
  obtain ⟨ps, rfl, t⟩ := h
  obtain ⟨qs, rfl, u⟩ := h'
  exact ⟨ps ++ qs, by rw [List.map_append], t.append u⟩
theorem RefsAt.len {H : Hp} {xs : List V} {bs : List (List Int)} (h : RefsAt H xs bs) : xs.length = bs.length := by
  obtain ⟨ps, rfl, t⟩ := h
  rw [List.length_map, t.1]
theorem RefsAt.one {H : Hp} {p : Addr} {b : List Int} (h : H p = some (.tup (b.map V.int))) : RefsAt H [.ref p] [b] := ⟨[p], rfl, (TupsAt.nil H).snoc h⟩
theorem RefsAt.nil (H : Hp) : RefsAt H [] [] := ⟨[], rfl, TupsAt.nil H⟩
section
variable {K : PySem.W.Frag} {H : Hp} {Q : VK}
end
end L2
set_option Elab.async false
set_option linter.all false
set_option maxRecDepth 100000
open PySem
namespace L2
theorem hu1 {n : Nat} (h : n + 64 < cLine) : n + 1 < cLine := by omega
section
variable {K : PySem.W.Frag} {H : Hp} {Q : VK} {σ : St} {td ty tx tv : TE} {D : Ends}
abbrev kk2 (x y : Int) : List Key := [.inl x, .inl y]
def Tells (kvs : List (List Key × V)) (f : Int → Int → Int) : Prop := ∀ x y : Int, (valV kvs (kk2 x y)).getD (.int 0) = .int (f x y)
theorem sh_plan (m : Int) (bs : List (List Int)) : SeqAt.shaped (.tuple [.int m, .list (dB bs)]) = true := by
  unfold SeqAt.shaped
  rw [Bool.and_eq_true]
  refine ⟨?_, decide_eq_true ?_⟩
  · show (true && (PyData.canLayAll0 (dB bs) && true)) = true
    rw [lay_blks]; rfl
  · show max 0 (max (PyData.depthAll (dB bs) + 1) 0) + 1 ≤ 64
    have := dep_blks bs
    omega
end
end L2
set_option Elab.async false
set_option linter.all false
set_option maxRecDepth 100000
namespace PySem
section
variable {prog : Program} {w : World} {A : Around} {E : Value → Shared → Prop} {s : Shared}
end
end PySem
namespace L2
open PySem PySem.Spec PyProof.Rows
def IteT (K : PySem.W.Frag) (a : Addr) : It :=
  ⟨fun i H => ∃ (xs : List V) (x : V), SqT K H a xs ∧ xs[i]? = some x, fun i H v H' => ∃ T x, v = .ref T ∧ H T = none ∧ H' = upd H T (.tup [.int (i : Nat), x]) ∧ ∀ xs, SqT K H a xs → xs[i]? = some x, fun i H => ∃ xs : List V, SqT K H a xs ∧ xs.length ≤ i⟩
def iEnumT (K : PySem.W.Frag) (ta : TA) : TI := fun σ H R => ta σ H fun vs H1 => ∃ a xs, vs = [.ref a] ∧ SqT K H1 a xs ∧ R (IteT K a) H1
end L2
set_option Elab.async false
set_option linter.all false
set_option maxRecDepth 100000
open PySem
namespace L2
section
variable {K : PySem.W.Frag} {H : Hp} {Q : VK} {σ : St} {td ty tx tv : TE} {D : Ends} {as : TA} {R : It → Hp → Prop}
def kDGet (x y : V) (H : Hp) (Q : VK) : Prop := ∃ a v, x = .ref a ∧ DGet H a y (some v) ∧ Q v H
def kDPut (x y v : V) (H : Hp) (R : Hp → Prop) : Prop := ∃ a H4, x = .ref a ∧ DPut H a y v H4 ∧ R H4
theorem r_dget (h : td σ H fun x H1 => ty σ H1 fun y H2 => kDGet x y H2 Q) : tDGet td ty σ H Q := h
def cAbs : List V → Hp → VK → Prop := fun xs H Q => ∃ i, xs = [.int i] ∧ Q (.int (if i < 0 then -i else i)) H
abbrev potK (g s t : Int) : List (Key × V) := [(.inr "great", .int g), (.inr "seed", .int s), (.inr "turn", .int t)]
abbrev potO (g s t : Int) : HO := .dK (potK g s t)
end
end L2
set_option Elab.async false
set_option linter.all false
set_option maxRecDepth 100000
open PySem
namespace L2
def cntL (m : Nat) (ks : List Int) : List Int := (List.range m).map fun (d : Nat) => ((ks.count (d : Int) : Nat) : Int)
def hitB (m : Int) (b : List Int) : List Int := b.flatMap fun x => (b.filter fun y => !decide (x = y)).map fun y => (x - y) % m
def gapZ (m z : Int) (c : List Int) : List Int := c.flatMap fun y => [z - y, m - z + y]
def gapB (m : Int) (b : List Int) (j : Nat) : List Int := (List.range j).flatMap fun h => gapZ m (b.getD h 0) (b.take h)
theorem flat_split {α β : Type} (f g : α → List β) : ∀ c : List α, (c.flatMap fun x => f x ++ g x).Perm (c.flatMap f ++ c.flatMap g)
  | [] => by simp
  | x :: c => by
    have ih := flat_split f g c
    simp only [List.flatMap_cons]
    have h1 : (f x ++ g x ++ c.flatMap fun x => f x ++ g x).Perm (f x ++ g x ++ (c.flatMap f ++ c.flatMap g)) := ih.append_left _
    refine h1.trans ?_
    rw [List.append_assoc, List.append_assoc]
    refine List.Perm.append_left _ ?_
    rw [← List.append_assoc, ← List.append_assoc]
    exact List.Perm.append_right _ List.perm_append_comm
theorem flat_congr {α β : Type} {f g : α → List β} : ∀ {c : List α}, (∀ x ∈ c, f x = g x) → c.flatMap f = c.flatMap g
  | [], _ => rfl
  | x :: c, h => by
    rw [List.flatMap_cons, List.flatMap_cons, h x List.mem_cons_self, flat_congr fun y hy => h y (List.mem_cons_of_mem _ hy)]
theorem flat_one {α β : Type} (f : α → β) (c : List α) : (c.flatMap fun x => [f x]) = c.map f := by
  induction c with
  | nil => rfl
  | cons x c ih => rw [List.flatMap_cons, ih]; rfl
theorem hit_snoc {m z : Int} {c : List Int} (hz : z < m) (hc : ∀ y ∈ c, 0 ≤ y ∧ y < z) : (hitB m (c ++ [z])).Perm (hitB m c ++ gapZ m z c) := by
  unfold hitB
  rw [List.flatMap_append]
  have e1 : (c.flatMap fun x => ((c ++ [z]).filter fun y => !decide (x = y)).map fun y => (x - y) % m) = c.flatMap fun x => ((c.filter fun y => !decide (x = y)).map fun y => (x - y) % m) ++ [m - z + x] := by
    apply flat_congr
    intro x hx
    have h := hc x hx
    rw [List.filter_append, List.map_append]
    have : decide (x = z) = false := decide_eq_false (by omega)
    have e : (x - z) % m = m - z + x := by
      have : (x - z) % m = (x - z + m) % m := by simp
      rw [this, Int.emod_eq_of_lt (by omega) (by omega)]; omega
    simp [this, e]
  have e2 : ([z].flatMap fun x => ((c ++ [z]).filter fun y => !decide (x = y)).map fun y => (x - y) % m) = c.map fun y => z - y := by
    rw [List.flatMap_cons, List.flatMap_nil, List.append_nil, List.filter_append]
    have f1 : (c.filter fun y => !decide (z = y)) = c := by
      apply List.filter_eq_self.mpr
      intro y hy
      have := hc y hy
      have : decide (z = y) = false := decide_eq_false (by omega)
      rw [this]; rfl
    rw [f1]
    simp
    intro y hy
    have := hc y hy
    rw [Int.emod_eq_of_lt (by omega) (by omega)]
  rw [e1, e2]
  have h1 := flat_split (fun x => (c.filter fun y => !decide (x = y)).map fun y => (x - y) % m) (fun x => [m - z + x]) c
  rw [flat_one] at h1
  have h2 : (gapZ m z c).Perm (c.map (fun y => z - y) ++ c.map fun y => m - z + y) := by
    have h := flat_split (fun y => [z - y]) (fun y => [m - z + y]) c
    rw [flat_one, flat_one] at h
    exact h
  refine (h1.append_right _).trans ?_
  rw [List.append_assoc]
  exact (List.perm_append_comm.trans h2.symm).append_left _
theorem gap_hit {m : Int} {b : List Int} (hs : b.Pairwise (· < ·)) (hr : ∀ x ∈ b, 0 ≤ x ∧ x < m) : ∀ j, j ≤ b.length → (gapB m b j).Perm (hitB m (b.take j))
  | 0, _ => by unfold gapB hitB; simp
  | j + 1, hj => by
    have ih := gap_hit hs hr j (by omega)
    have hz : b[j]? = some b[j] := by simp
    have e : gapB m b (j + 1) = gapB m b j ++ gapZ m b[j] (b.take j) := by
      unfold gapB
      rw [List.range_succ, List.flatMap_append]
      simp [List.getD, hz]
    rw [e, take_snoc hz]
    refine (ih.append_right _).trans (hit_snoc (hr _ (List.getElem_mem _)).2 ?_).symm
    intro y hy
    obtain ⟨i, hi⟩ := List.mem_iff_getElem?.mp hy
    obtain ⟨h1, h2⟩ := List.getElem?_eq_some_iff.mp hi
    rw [List.length_take] at h1
    rw [List.getElem_take] at h2
    have := List.pairwise_iff_getElem.mp hs i j (by omega) (by omega) (by omega)
    have := hr b[i] (List.getElem_mem _)
    rw [← h2]
    omega
end L2
set_option Elab.async false
set_option linter.all false
set_option maxRecDepth 100000
namespace L2
open PySem PySem.Spec PyProof.Rows
def leB (b c : List Int) : Prop := (listOrd itemOrd).kle (b.map Sum.inl) (c.map Sum.inl)
theorem sort_unique {α : Type} {R : α → α → Prop} (anti : ∀ a b, R a b → R b a → a = b) : ∀ {l m : List α}, l.Perm m → l.Pairwise R → m.Pairwise R → l = m
  | [], m, h, _, _ => by rw [List.nil_perm.mp h]
  | x :: l, m, h, hl, hm => by
    cases m with
    | nil => exact absurd h.length_eq (by simp)
    | cons y m =>
      have e : x = y := by
        by_cases e : x = y
        · exact e
        · have h1 : x ∈ m := by
            have := h.mem_iff.mp (List.mem_cons_self (a := x) (l := l))
            rcases List.mem_cons.mp this with z | z
            · exact absurd z e
            · exact z
          have h2 : y ∈ l := by
            have := h.mem_iff.mpr (List.mem_cons_self (a := y) (l := m))
            rcases List.mem_cons.mp this with z | z
            · exact absurd z.symm e
            · exact z
          exact anti x y (List.rel_of_pairwise_cons hl h2) (List.rel_of_pairwise_cons hm h1)
      subst e
      rw [sort_unique anti (List.Perm.cons_inv h) hl.of_cons hm.of_cons]
section
variable {X : Cx}
def cSortT2 : List V → Hp → VK → Prop := fun vs H Q => ∃ (a : Addr) (ps : List Addr) (bs : List (List Int)), vs = [V.ref a] ∧ H a = some (.lst (ps.map V.ref)) ∧ TupsAt H ps bs ∧ (∀ b ∈ bs, b ≠ []) ∧
  ∀ (ps' : List Addr) (bs' : List (List Int)) (p : Addr), bs'.Perm bs → bs'.Pairwise leB → TupsAt H ps' bs' → H p = none → Q (.ref p) (upd H p (.lst (ps'.map V.ref)))
theorem k_sortT2 : CallR X (.builtin "sorted") cSortT2 := by
  intro pins s σ H vs us Q I r h
  obtain ⟨a, ps, bs, rfl, ha, tu, hne, q⟩ := h
  obtain ⟨z, its, n, rv, hl, e⟩ := I.lstM ha
  rw [Vals.ref1 r]
  have ei := refs_vals rv
  subst ei
  have obj : ∀ p ∈ ps, ∃ (b : List Int) (us : List Value) (o : Obj) (k : Nat), b ≠ [] ∧ H p = some (.tup (b.map V.int)) ∧ Vals (b.map V.int) us ∧ s.heap.get? p = some o ∧ o.cls = .type "tuple" ∧ o.data = .seq us.toArray k := by
    intro p hp
    obtain ⟨b, hb, eb⟩ := tu.mem hp
    obtain ⟨_, us, rb, o, ho, hc, k, hd⟩ := (show ObjOk X.prog X.w H s.heap p (.tup (b.map V.int)) from I.hok p _ eb)
    exact ⟨b, us, o, k, hne b hb, eb, rb, ho, hc, hd⟩
  have tups : ∀ qs : List Addr, (∀ p ∈ qs, p ∈ ps) → ∃ fs, TupsOf s.heap (fun _ => false) (qs.map Value.ref) fs := by
    intro qs
    induction qs with
    | nil => intro _; exact ⟨[], .nil⟩
    | cons p qs ih =>
      intro hq
      obtain ⟨fs, hf⟩ := ih fun x hx => hq x (List.mem_cons_of_mem _ hx)
      obtain ⟨b, us, o, k, hb, _, rb, ho, hc, hd⟩ := obj p (hq p List.mem_cons_self)
      cases b with
      | nil => exact absurd rfl hb
      | cons x b =>
        cases rb with
        | cons r0 rb =>
          obtain ⟨t, rfl⟩ := r0
          exact ⟨_ :: fs, .cons ⟨p, o, _, k, rfl, ho, hc, hd, rfl, fun _ => ⟨x, t, rfl⟩, fun z => absurd z (by simp)⟩ hf⟩
  obtain ⟨fs, ht⟩ := tups ps fun _ h => h
  have key : ∀ p ∈ ps, PyProof.Rows.G.tupKeyC s.heap (fun _ => false) (.ref p) = some ((intsAt H p).map Sum.inl) := by
    intro p hp
    obtain ⟨b, us, o, k, _, eb, rb, ho, hc, hd⟩ := obj p hp
    rw [intsAt_of eb]
    unfold PyProof.Rows.G.tupKeyC
    have e1 : PyProof.Rows.G.isTupObj s.heap (.ref p) = true := by simp [PyProof.Rows.G.isTupObj, ho, hc]
    rw [if_pos e1]
    simp only [tupKey, ho, hd]
    exact tupItems_ints 0 rb
  refine PyProof.Rows.G.sorted_tups (shape := fun _ => false) ⟨_, e, rfl, n, rfl⟩ ht (fun v hv => ?_) (by rw [← hl]; exact z) fun st' hp hs _ => ?_
  · obtain ⟨p, hp, rfl⟩ := List.mem_map.mp hv
    exact ⟨_, key p hp⟩
  · have e1 := Array.perm_iff_toList_perm.mp hp
    rw [pairsOf_toList] at e1
    have hpl : ((arrOf st').map (·.2)).toList.Perm (ps.map Value.ref) := by
      have e2 := e1.map (·.2)
      rw [List.map_snd_zip (Nat.le_refl _)] at e2
      rw [Array.toList_map]
      exact e2
    obtain ⟨qs, hq, el⟩ := perm_lift hpl ps rfl
    obtain ⟨ep, he'⟩ := PyProof.Rows.sortedAll_at s.heap (ps.map Value.ref) ((arrOf st').map (·.2))
    have tq : TupsAt H qs (qs.map (intsAt H)) := TupsAt.of_all fun p hp => by
      obtain ⟨b, _, eb⟩ := tu.mem (hq.mem_iff.mp hp)
      exact ⟨b, eb⟩
    have hlen : (qs.map V.ref).length ≤ sizeLine := by rw [List.length_map, hq.length_eq]; rw [List.length_map] at z; exact z
    have kat : ∀ (i : Nat) (p : Addr), qs[i]? = some p → KK (PyProof.Rows.G.tupKindC s.heap (fun _ => false)) (arrOf st') i = (intsAt H p).map Sum.inl := by
      intro i p hi
      have h2 : ((arrOf st').toList.map (·.2))[i]? = some (.ref p) := by
        rw [← Array.toList_map, el, List.getElem?_map, hi]; rfl
      rw [List.getElem?_map] at h2
      cases h3 : (arrOf st').toList[i]? with
      | none => rw [h3] at h2; cases h2
      | some pr =>
        rw [h3] at h2
        have h4 : pr.2 = .ref p := Option.some.inj h2
        have hm : pr ∈ (ps.map Value.ref).zip (ps.map Value.ref) := e1.mem_iff.mp (List.mem_of_getElem? h3)
        have h5 := (mem_zip_self hm).1
        have h6 : (arrOf st')[i]? = some pr := by rw [← Array.getElem?_toList]; exact h3
        unfold KK
        rw [h6]
        show (PyProof.Rows.G.tupKeyC s.heap (fun _ => false) pr.1).getD [] = _
        rw [h5, h4, key p (hq.mem_iff.mp (List.mem_of_getElem? hi))]
        rfl
    have srt : (qs.map (intsAt H)).Pairwise leB := by
      rw [List.pairwise_iff_getElem]
      intro i j hi hj hij
      rw [List.length_map] at hi hj
      have hsz : (pairsOf (ps.map Value.ref)).size = qs.length := by
        rw [← Array.length_toList, pairsOf_toList, List.length_zip, List.length_map, hq.length_eq, Nat.min_self]
      have h7 := hs i j (Nat.le_of_lt hij) (by rw [hsz]; exact hj)
      rw [kat i qs[i] (by simp [hi]), kat j qs[j] (by simp [hj])] at h7
      rw [List.getElem_map, List.getElem_map]
      exact h7
    refine ⟨.ref _, upd H (s.heap.objs.size + 1) (.lst (qs.map V.ref)), I.laid (t' := s.toks) (fun _ _ => PyProof.Rows.sortedAll_old) (Nat.le_succ _) ⟨hlen, qs.map Value.ref, ep, vals_refs qs, ?_⟩, rfl, q qs _ _ ?_ srt tq (I.hok.fresh (Nat.le_succ _))⟩
    · rw [he', ← el]
    · rw [tu.eq]
      exact hq.map _
end
section
variable {H : Hp} {Q : VK}
end
end L2
set_option Elab.async false
set_option linter.all false
set_option maxRecDepth 100000
namespace L2
open PySem PySem.Spec PyProof.Rows
section
variable {H : Hp} {Q : VK} {o : HO}
theorem nw (h : ∀ p H', H p = none → Same H H' → H' p = some o → Q (.ref p) H') : ∀ p, H p = none → Q (.ref p) (upd H p o) := fun p hp => h p _ hp (Same.new hp _) upd_same
end
structure Elt {α : Type} (R : Addr → Hp → V → α → Prop) : Prop where
  same : ∀ {D : Addr} {H H' : Hp} {v : V} {a : α}, Same H H' → R D H v a → R D H' v a
  late : ∀ {D : Addr} {H : Hp} {v : V} {a : α} (o : HO), R D H v a → R D (upd H D o) v a
def RInt (_ : Addr) (_ : Hp) (v : V) (i : Int) : Prop := v = .int i
def RBl (_ : Addr) (_ : Hp) (v : V) (b : Bool) : Prop := v = .bl b
def RTup (D : Addr) (H : Hp) (v : V) (b : List Int) : Prop := ∃ p, v = .ref p ∧ p ≠ D ∧ H p = some (.tup (b.map V.int))
def RLst (D : Addr) (H : Hp) (v : V) (b : List Int) : Prop := ∃ p, v = .ref p ∧ p ≠ D ∧ H p = some (.lst (b.map V.int))
theorem eInt : Elt RInt := ⟨fun _ h => h, fun _ h => h⟩
theorem eTup : Elt RTup := ⟨fun s ⟨p, e, n, h⟩ => ⟨p, e, n, s _ _ h⟩, fun o ⟨p, e, n, h⟩ => ⟨p, e, n, by rw [upd_ne n]; exact h⟩⟩
theorem Pd.imp {α β : Type} {r r' : α → β → Prop} (h : ∀ a b, r a b → r' a b) : ∀ {xs : List α} {ys : List β}, Paired r xs ys → Paired r' xs ys
  | _, _, .nil => .nil
  | _, _, .cons a t => .cons (h _ _ a) (Pd.imp h t)
theorem Pd.app {α β : Type} {r : α → β → Prop} {xs' : List α} {ys' : List β} (h : Paired r xs' ys') : ∀ {xs : List α} {ys : List β}, Paired r xs ys → Paired r (xs ++ xs') (ys ++ ys')
  | _, _, .nil => h
  | _, _, .cons a t => .cons a (Pd.app h t)
theorem Pd.snoc {α β : Type} {r : α → β → Prop} {x : α} {y : β} (a : r x y) {xs : List α} {ys : List β} (h : Paired r xs ys) : Paired r (xs ++ [x]) (ys ++ [y]) := Pd.app (.cons a .nil) h
theorem Pd.len {α β : Type} {r : α → β → Prop} : ∀ {xs : List α} {ys : List β}, Paired r xs ys → xs.length = ys.length
  | _, _, .nil => rfl
  | _, _, .cons _ t => by rw [List.length_cons, List.length_cons, Pd.len t]
theorem Pd.get {α β : Type} {r : α → β → Prop} : ∀ {xs : List α} {ys : List β} {i : Nat} {x : α}, Paired r xs ys → xs[i]? = some x → ∃ y, ys[i]? = some y ∧ r x y
  | _, _, i, _, .nil, e => by simp at e
  | _, _, 0, _, .cons h _, e => by simp at e; subst e; exact ⟨_, rfl, h⟩
  | _, _, i + 1, _, .cons _ t, e => by
    obtain ⟨v, h1, h2⟩ := Pd.get (i := i) t (by simpa using e)
    exact ⟨v, by simpa using h1, h2⟩
theorem Pd.get' {α β : Type} {r : α → β → Prop} : ∀ {xs : List α} {ys : List β} {i : Nat} {y : β}, Paired r xs ys → ys[i]? = some y → ∃ x, xs[i]? = some x ∧ r x y
  | _, _, i, _, .nil, e => by simp at e
  | _, _, 0, _, .cons h _, e => by simp at e; subst e; exact ⟨_, rfl, h⟩
  | _, _, i + 1, _, .cons _ t, e => by
    obtain ⟨v, h1, h2⟩ := Pd.get' (i := i) t (by simpa using e)
    exact ⟨v, by simpa using h1, h2⟩
theorem Pd.ints {D : Addr} {H : Hp} : ∀ {ws : List V} {ns : List Int}, Paired (RInt D H) ws ns → ws = ns.map V.int
  | _, _, .nil => rfl
  | _, _, .cons a t => by rw [List.map_cons, ← Pd.ints t, show _ = _ from a]
theorem Pd.tups {D : Addr} {H : Hp} : ∀ {ws : List V} {bs : List (List Int)}, Paired (RTup D H) ws bs → RefsAt H ws bs
  | _, _, .nil => .nil H
  | _, _, .cons a t => by
    obtain ⟨p, rfl, _, h⟩ := a
    exact (RefsAt.one h).append (Pd.tups t)
theorem Pd.blks {D : Addr} {H : Hp} {ws : List V} {bs : List (List Int)} (h : Paired (RTup D H) ws bs) (e : H D = some (.lst ws)) : Blks H D bs := (Pd.tups h).blks e
section
variable {α : Type} {R : Addr → Hp → V → α → Prop} {K : PySem.W.Frag} {g : TG} {tt : TT} {te : TE} {vs : List Nat} {σ : St} {H1 : Hp} {D : Addr} {Qd : Hp → Prop}
theorem flat_len {β : Type} {F : β → List α} (h : ∀ x, (F x).length ≤ 1) : ∀ l : List β, (l.flatMap F).length ≤ l.length
  | [] => by simp
  | x :: l => by
    rw [List.flatMap_cons, List.length_append, List.length_cons]
    have := h x
    have := flat_len h l
    omega
theorem lcm_range (hD : H1 D = none) (E : Elt R) {lo : Int} {n : Nat} (F : Int → List α) (hF : ∀ x, (F x).length ≤ 1) (hn : n < 16777216)
    (hs : ∀ (i : Nat) (H : Hp) (Qe : VK) (Qn : Hp → Prop), i < n → Same H1 H → (∃ acc, H D = some (.lst acc)) → (∀ y H4 a, Same H H4 → F (lo + i) = [a] → R D H4 y a → Qe y H4) → (∀ H3, Same H H3 → F (lo + i) = [] → Qn H3) →
      g (.int (lo + i)) (wipe σ vs) H fun σ2 H2 => wipe σ2 vs = wipe σ vs ∧ tt σ2 H2 fun b H3 => if b = true then te σ2 H3 Qe else Qn H3)
    (hd : ∀ (H : Hp) (ws : List V), Same H1 H → H D = some (.lst ws) → Paired (R D H) ws ((rngV lo n).flatMap F) → Qd H) :
    ∃ W : Nat → Nat → Hp → Prop, (∃ m, W 0 m (upd H1 D (.lst []))) ∧ ∀ i m H, W i m H →
      ((Itr lo n).stop i H ∧ Qd H) ∨ ((Itr lo n).go i H ∧ ∃ Nx : Hp → Prop, (∀ H', Nx H' → ∃ m', m' < m ∧ W (i + 1) m' H') ∧ ∀ x H', (Itr lo n).yld i H x H' → g x (wipe σ vs) H' fun σ2 H2 => wipe σ2 vs = wipe σ vs ∧ tt σ2 H2 fun b H3 =>
        if b = true then te σ2 H3 fun y H4 => ∃ acc, H4 D = some (.lst acc) ∧ acc.length < sizeLine ∧ Nx (upd H4 D (.lst (acc ++ [y]))) else Nx H3) := by
  refine lc_range (fun i H => ∃ ws, H D = some (.lst ws) ∧ Same H1 H ∧ Paired (R D H) ws ((rngV lo i).flatMap F)) ⟨[], upd_same, Same.new hD _, .nil⟩ ?_ ?_
  · rintro i H hi ⟨ws, e, sm, pr⟩
    have hl : ws.length < 16777216 := by
      have h1 := Pd.len pr
      have h2 := flat_len hF (rngV lo i)
      rw [rngV_length] at h2
      omega
    refine hs i H _ _ hi sm ⟨ws, e⟩ (fun y H4 a s4 ef r => ?_) (fun H3 s3 ef => ?_)
    · refine ⟨ws, s4 _ _ e, hl, ws ++ [y], upd_same, (sm.trans s4).late hD _, ?_⟩
      rw [rngV_succ, flat_snoc, ef]
      exact Pd.snoc (E.late _ r) (Pd.imp (fun _ _ h => E.late _ (E.same s4 h)) pr)
    · refine ⟨ws, s3 _ _ e, sm.trans s3, ?_⟩
      rw [rngV_succ, flat_snoc, ef, List.append_nil]
      exact Pd.imp (fun _ _ h => E.same s3 h) pr
  · rintro H ⟨ws, e, sm, pr⟩
    exact hd H ws sm e pr
theorem lcm_list (hD : H1 D = none) (E : Elt R) {a : Addr} {β : Type} {f : β → V} {l : List β} (F : β → List α) (hF : ∀ x, (F x).length ≤ 1) (hn : l.length < 16777216) (hl : ∀ H, Same H1 H → SqL K H a (l.map f))
    (hs : ∀ (i : Nat) (x : β) (H : Hp) (Qe : VK) (Qn : Hp → Prop), l[i]? = some x → Same H1 H → (∃ acc, H D = some (.lst acc)) → (∀ y H4 a, Same H H4 → F x = [a] → R D H4 y a → Qe y H4) → (∀ H3, Same H H3 → F x = [] → Qn H3) →
      g (f x) (wipe σ vs) H fun σ2 H2 => wipe σ2 vs = wipe σ vs ∧ tt σ2 H2 fun b H3 => if b = true then te σ2 H3 Qe else Qn H3)
    (hd : ∀ (H : Hp) (ws : List V), Same H1 H → H D = some (.lst ws) → Paired (R D H) ws (l.flatMap F) → Qd H) :
    ∃ W : Nat → Nat → Hp → Prop, (∃ m, W 0 m (upd H1 D (.lst []))) ∧ ∀ i m H, W i m H →
      ((Itl K a).stop i H ∧ Qd H) ∨ ((Itl K a).go i H ∧ ∃ Nx : Hp → Prop, (∀ H', Nx H' → ∃ m', m' < m ∧ W (i + 1) m' H') ∧ ∀ x H', (Itl K a).yld i H x H' → g x (wipe σ vs) H' fun σ2 H2 => wipe σ2 vs = wipe σ vs ∧ tt σ2 H2 fun b H3 =>
        if b = true then te σ2 H3 fun y H4 => ∃ acc, H4 D = some (.lst acc) ∧ acc.length < sizeLine ∧ Nx (upd H4 D (.lst (acc ++ [y]))) else Nx H3) := by
  refine lc_list (xs := l.map f) (fun i H => ∃ ws, H D = some (.lst ws) ∧ Same H1 H ∧ Paired (R D H) ws ((l.take i).flatMap F)) ⟨[], upd_same, Same.new hD _, .nil⟩ ?_ ?_ ?_
  · rintro i H _ ⟨_, _, sm, _⟩
    exact hl H sm
  · rintro i x H hx ⟨ws, e, sm, pr⟩
    rw [List.getElem?_map] at hx
    obtain ⟨z, hz⟩ : ∃ z, l[i]? = some z := by
      cases h : l[i]? with
      | none => rw [h] at hx; cases hx
      | some z => exact ⟨z, rfl⟩
    rw [hz] at hx
    have ex : f z = x := Option.some.inj hx
    subst ex
    have hw : ws.length < 16777216 := by
      have h1 := Pd.len pr
      have h2 := flat_len hF (l.take i)
      rw [List.length_take] at h2
      omega
    refine hs i z H _ _ hz sm ⟨ws, e⟩ (fun y H4 a s4 ef r => ?_) (fun H3 s3 ef => ?_)
    · refine ⟨ws, s4 _ _ e, hw, ws ++ [y], upd_same, (sm.trans s4).late hD _, ?_⟩
      rw [take_snoc hz, flat_snoc, ef]
      exact Pd.snoc (E.late _ r) (Pd.imp (fun _ _ h => E.late _ (E.same s4 h)) pr)
    · refine ⟨ws, s3 _ _ e, sm.trans s3, ?_⟩
      rw [take_snoc hz, flat_snoc, ef, List.append_nil]
      exact Pd.imp (fun _ _ h => E.same s3 h) pr
  · rintro H ⟨ws, e, sm, pr⟩
    rw [List.length_map, List.take_length] at pr
    exact hd H ws sm e pr
theorem lcm_tup (hD : H1 D = none) (E : Elt R) {a : Addr} {β : Type} {f : β → V} {l : List β} (F : β → List α) (hF : ∀ x, (F x).length ≤ 1) (hn : l.length < 16777216) (hl : ∀ H, Same H1 H → SqT K H a (l.map f))
    (hs : ∀ (i : Nat) (x : β) (H : Hp) (Qe : VK) (Qn : Hp → Prop), l[i]? = some x → Same H1 H → (∃ acc, H D = some (.lst acc)) → (∀ y H4 a, Same H H4 → F x = [a] → R D H4 y a → Qe y H4) → (∀ H3, Same H H3 → F x = [] → Qn H3) →
      g (f x) (wipe σ vs) H fun σ2 H2 => wipe σ2 vs = wipe σ vs ∧ tt σ2 H2 fun b H3 => if b = true then te σ2 H3 Qe else Qn H3)
    (hd : ∀ (H : Hp) (ws : List V), Same H1 H → H D = some (.lst ws) → Paired (R D H) ws (l.flatMap F) → Qd H) :
    ∃ W : Nat → Nat → Hp → Prop, (∃ m, W 0 m (upd H1 D (.lst []))) ∧ ∀ i m H, W i m H →
      ((Itt K a).stop i H ∧ Qd H) ∨ ((Itt K a).go i H ∧ ∃ Nx : Hp → Prop, (∀ H', Nx H' → ∃ m', m' < m ∧ W (i + 1) m' H') ∧ ∀ x H', (Itt K a).yld i H x H' → g x (wipe σ vs) H' fun σ2 H2 => wipe σ2 vs = wipe σ vs ∧ tt σ2 H2 fun b H3 =>
        if b = true then te σ2 H3 fun y H4 => ∃ acc, H4 D = some (.lst acc) ∧ acc.length < sizeLine ∧ Nx (upd H4 D (.lst (acc ++ [y]))) else Nx H3) := by
  refine lc_tup (xs := l.map f) (fun i H => ∃ ws, H D = some (.lst ws) ∧ Same H1 H ∧ Paired (R D H) ws ((l.take i).flatMap F)) ⟨[], upd_same, Same.new hD _, .nil⟩ ?_ ?_ ?_
  · rintro i H _ ⟨_, _, sm, _⟩
    exact hl H sm
  · rintro i x H hx ⟨ws, e, sm, pr⟩
    rw [List.getElem?_map] at hx
    obtain ⟨z, hz⟩ : ∃ z, l[i]? = some z := by
      cases h : l[i]? with
      | none => rw [h] at hx; cases hx
      | some z => exact ⟨z, rfl⟩
    rw [hz] at hx
    have ex : f z = x := Option.some.inj hx
    subst ex
    have hw : ws.length < 16777216 := by
      have h1 := Pd.len pr
      have h2 := flat_len hF (l.take i)
      rw [List.length_take] at h2
      omega
    refine hs i z H _ _ hz sm ⟨ws, e⟩ (fun y H4 a s4 ef r => ?_) (fun H3 s3 ef => ?_)
    · refine ⟨ws, s4 _ _ e, hw, ws ++ [y], upd_same, (sm.trans s4).late hD _, ?_⟩
      rw [take_snoc hz, flat_snoc, ef]
      exact Pd.snoc (E.late _ r) (Pd.imp (fun _ _ h => E.late _ (E.same s4 h)) pr)
    · refine ⟨ws, s3 _ _ e, sm.trans s3, ?_⟩
      rw [take_snoc hz, flat_snoc, ef, List.append_nil]
      exact Pd.imp (fun _ _ h => E.same s3 h) pr
  · rintro H ⟨ws, e, sm, pr⟩
    rw [List.length_map, List.take_length] at pr
    exact hd H ws sm e pr
end
theorem flat_ifs {α β : Type} (p : α → Bool) (f : α → β) : ∀ l : List α, l.flatMap (fun x => if p x = true then [f x] else []) = (l.filter p).map f
  | [] => rfl
  | x :: l => by
    rw [List.flatMap_cons, flat_ifs p f l, List.filter_cons]
    cases p x <;> simp
theorem flat_ones {α β : Type} (f : α → β) (l : List α) : l.flatMap (fun x => [f x]) = l.map f := flat_one f l
theorem len_one {α : Type} (x : α) : [x].length ≤ 1 := Nat.le_refl _
theorem len_if {α : Type} (c : Bool) (x : α) : (if c = true then [x] else []).length ≤ 1 := by cases c <;> simp
def isort (l : List Int) : List Int := l.mergeSort (fun a b => decide (a ≤ b))
theorem isort_perm (l : List Int) : (isort l).Perm l := List.mergeSort_perm _ _
theorem isort_le (l : List Int) : (isort l).Pairwise (· ≤ ·) := by
  have := List.pairwise_mergeSort (le := fun a b : Int => decide (a ≤ b)) (fun a b c h1 h2 => by simp at *; omega) (fun a b => by simp; omega) l
  exact this.imp fun h => by simpa using h
theorem isort_is {l ns : List Int} (hp : ns.Perm l) (hs : ns.Pairwise (· ≤ ·)) : ns = isort l :=
  sort_unique (R := fun a b : Int => a ≤ b) (fun a b h1 h2 => by omega) (hp.trans (isort_perm l).symm) hs (isort_le l)
section
variable {H : Hp} {Q : VK}
theorem r_isort {a : Addr} {ns : List Int} (e : H a = some (.lst (ns.map V.int))) (z : ns.length < 64) (h : ∀ p H', H p = none → Same H H' → H' p = some (.lst ((isort ns).map V.int)) → Q (.ref p) H') : cSortI [V.ref a] H Q :=
  r_sortI e z fun ns' p hp hs hn => by
    have := isort_is hp hs
    subst this
    exact h p _ hn (Same.new hn _) upd_same
end
def cLenT : List V → Hp → VK → Prop := fun xs H Q => ∃ a kvs, xs = [V.ref a] ∧ H a = some (.dT kvs) ∧ Q (.int kvs.length) H
section
variable {H : Hp} {Q : VK} {σ : St} {td ty tx tv : TE} {D : Ends}
theorem r_din (h : ty σ H fun y H1 => td σ H1 fun x H2 => ∃ a o, x = .ref a ∧ DGet H2 a y o ∧ Q (.bl o.isSome) H2) : tDIn ty td σ H Q := h
end
def tChain4 (r1 r2 r3 r4 : R2) (ta tb tc td te : TE) : TE := fun σ H Q => ta σ H fun x H1 => tb σ H1 fun y H2 => r1 x y H2 fun z H3 => ∃ k, z = .bl k ∧
  (if k = true then tc σ H3 fun y2 H4 => r2 y y2 H4 fun z H5 => ∃ k, z = .bl k ∧
    (if k = true then td σ H5 fun y3 H6 => r3 y2 y3 H6 fun z H7 => ∃ k, z = .bl k ∧
      (if k = true then te σ H7 fun y4 H8 => r4 y3 y4 H8 Q else Q (.bl false) H7) else Q (.bl false) H5) else Q (.bl false) H3)
end L2
namespace L2
open PySem PySem.Spec PyProof.Rows
def CInt (mg : Str → Option Value) (x : Str) (i : Int) : Prop := ∃ t, mg x = some (.int i t)
end L2
namespace L2
open PySem PySem.Spec PyProof.Rows
section
variable {α : Type} {R : Addr → Hp → V → α → Prop} {K : PySem.W.Frag} {g : TG} {tt : TT} {te : TE} {vs : List Nat} {σ : St} {H1 : Hp} {D : Addr} {Qd : Hp → Prop}
theorem zip_fst {α β γ : Type} (f : α → γ) : ∀ {l : List α} {m : List β}, l.length = m.length → (l.zip m).map (fun x => f x.1) = l.map f
  | [], [], _ => rfl
  | [], _ :: _, h => by simp at h
  | _ :: _, [], h => by simp at h
  | x :: l, y :: m, h => by
    rw [List.zip_cons_cons, List.map_cons, List.map_cons, zip_fst f (by simpa using h)]
theorem zip_snd {α β γ : Type} (f : β → List γ) : ∀ {l : List α} {m : List β}, l.length = m.length → (l.zip m).flatMap (fun x => f x.2) = m.flatMap f
  | [], [], _ => rfl
  | [], _ :: _, h => by simp at h
  | _ :: _, [], h => by simp at h
  | x :: l, y :: m, h => by
    rw [List.zip_cons_cons, List.flatMap_cons, List.flatMap_cons, zip_snd f (by simpa using h)]
theorem lcm_blks (hD : H1 D = none) (E : Elt R) {a : Addr} {bs : List (List Int)} (F : List Int → List α) (hF : ∀ x, (F x).length ≤ 1) (hn : bs.length < 16777216) (hB : Blks H1 a bs)
    (hs : ∀ (i : Nat) (b : List Int) (p : Addr) (H : Hp) (Qe : VK) (Qn : Hp → Prop), bs[i]? = some b → H p = some (.tup (b.map V.int)) → Same H1 H → (∃ acc, H D = some (.lst acc)) → (∀ y H4 a, Same H H4 → F b = [a] → R D H4 y a → Qe y H4) → (∀ H3, Same H H3 → F b = [] → Qn H3) →
      g (.ref p) (wipe σ vs) H fun σ2 H2 => wipe σ2 vs = wipe σ vs ∧ tt σ2 H2 fun b H3 => if b = true then te σ2 H3 Qe else Qn H3)
    (hd : ∀ (H : Hp) (ws : List V), Same H1 H → H D = some (.lst ws) → Paired (R D H) ws (bs.flatMap F) → Qd H) :
    ∃ W : Nat → Nat → Hp → Prop, (∃ m, W 0 m (upd H1 D (.lst []))) ∧ ∀ i m H, W i m H →
      ((Itl K a).stop i H ∧ Qd H) ∨ ((Itl K a).go i H ∧ ∃ Nx : Hp → Prop, (∀ H', Nx H' → ∃ m', m' < m ∧ W (i + 1) m' H') ∧ ∀ x H', (Itl K a).yld i H x H' → g x (wipe σ vs) H' fun σ2 H2 => wipe σ2 vs = wipe σ vs ∧ tt σ2 H2 fun b H3 =>
        if b = true then te σ2 H3 fun y H4 => ∃ acc, H4 D = some (.lst acc) ∧ acc.length < sizeLine ∧ Nx (upd H4 D (.lst (acc ++ [y]))) else Nx H3) := by
  obtain ⟨ps, ha, tu⟩ := hB
  refine lcm_list hD E (f := fun x : Addr × List Int => V.ref x.1) (l := ps.zip bs) (fun x => F x.2) (fun x => hF x.2) (by rw [List.length_zip]; omega) (fun H s => SqL.of (by rw [zip_fst V.ref tu.1]; exact s _ _ ha)) (fun i x H Qe Qn hx s hacc ke kn => ?_) (fun H ws s e pr => ?_)
  · obtain ⟨p, b⟩ := x
    obtain ⟨h1, h2⟩ := List.getElem?_zip_eq_some.mp hx
    exact hs i b p H Qe Qn h2 (s _ _ (tu.2 i p b h1 h2)) s hacc ke kn
  · rw [zip_snd F tu.1] at pr
    exact hd H ws s e pr
end
end L2
namespace L2
open PySem PySem.Spec PyProof.Rows
end L2
set_option Elab.async false
set_option linter.all false
set_option maxRecDepth 100000
namespace L2
open PySem PySem.Spec PyProof.Rows
structure QS (X : Cx) (st : Stmt) (t : TS) : Prop where
  h : PS X st t
structure QSs (X : Cx) (sts : List Stmt) (t : TS) : Prop where
  h : PSs X sts t
def valOf : Stmt → Expr
  | .Assign _ v _ => v
  | _ => .Constant .none 0 ⟨0, 0, 0, 0⟩
def rightOf : Expr → Expr
  | .BinOp _ _ b _ => b
  | e => e
theorem asg_of {X : Cx} {i : Nat} {x : Str} {e : Expr} {te : TE} {pos pos' : Pos} (h1 : X.N.Nodup) (h2 : X.N[i]? = some x) (h3 : Loc X.env.scope x) (hf : X.fn x = true) (he : PE X e te) (hs : swapsWith e (some (.Name x pos')) pos.line X.env = pure false) : PS X (.Assign [.Name x pos'] e pos) (tAsg te (gName i)) := ps_set h1 h2 h3 he hs (Or.inl hf)
section
variable {K : PySem.W.Frag} {H : Hp} {Q : VK}
end
end L2
set_option Elab.async false
set_option linter.all false
set_option maxRecDepth 100000
namespace L2
open PySem PySem.Spec PyProof.Rows
section
variable {X : Cx}
def cAnyI : List V → Hp → VK → Prop := fun vs H Q => ∃ (a : Addr) (ns : List Int), vs = [V.ref a] ∧ H a = some (.lst (ns.map V.int)) ∧ Q (.bl (ns.any fun n => n != 0)) H
def CTup (K : PySem.W.Frag) (mg : Str → Option Value) (x : Str) (ns : List Int) : Prop := ∃ a, mg x = some (.ref a) ∧ ∀ H : Hp, SqT K H a (ns.map V.int)
def tNotC (ns : List Int) (ta : TE) : TE := fun σ H Q => ta σ H fun v H1 => ∃ i, v = .int i ∧ Q (.bl (!ns.contains i)) H1
structure HasM (P : Program) (w : World) (K : PySem.W.Frag) (mg : Str → Option Value) (base : Heap) (k : Nat) (C : Addr) (m : Str) (ps : List Str) (sp : Sp) : Prop where
  ex : ∃ f fd, FnOk P w K mg base CX0 k f fd ps sp ∧ Binds K fd ps [] ∧ Meth K C m f
structure HasI (P : Program) (w : World) (K : PySem.W.Frag) (mg : Str → Option Value) (base : Heap) (k : Nat) (C : Addr) (x : Str) (ps : List Str) (sp : Sp) : Prop where
  ex : ∃ f fd, FnOk P w K mg base CX0 k f fd ps sp ∧ Binds K fd ps [] ∧ Mk K C f
  at_ : mg x = some (.ref C)
structure FunM (K : PySem.W.Frag) (C : Addr) (m q : Str) (st : Stmt) (ps : List Str) : Prop where
  ex : ∃ f fd, Fun K m q st f fd ∧ Binds K fd ps [] ∧ Meth K C m f
structure ClsI (K : PySem.W.Frag) (C : Addr) : Prop where
  cl : Cls K C
  ha : PySem.W.findIn K (.ref C) "__class__" = some (some (.builtin "object.__class__"))
  hn : PySem.W.specialIn K (.builtin "object.__class__") "__get__" = some (some (.builtin "getset_descriptor.__get__"))
  htk : PySem.W.takesIn K (.builtin "object.__class__") = some true
  hm : PySem.W.mroIn K C (.type "object") = some true
  one : PySem.W.kitOne K (.ref C) (.ref C) = some true
def cIsiC (C : Addr) : List V → Hp → VK → Prop := fun xs H Q => ∃ a dx fs, xs = [.ref a, .ref C] ∧ H a = some (.ins C dx fs) ∧ Q (.bl true) H
def tRev (ta : TE) : TE := fun σ H Q => ta σ H fun x H1 => ∃ a xs, x = .ref a ∧ H1 a = some (.lst xs) ∧ ∀ p, H1 p = none → Q (.ref p) (upd H1 p (.lst xs.reverse))
end
end L2
set_option Elab.async false
set_option linter.all false
set_option maxRecDepth 100000
namespace L2
open PySem PySem.Spec PyProof.Rows
section
variable {X : Cx}
def rNotInD (K : PySem.W.Frag) : R2 := fun x y H Q => ∃ d ds, Dp K H x d ∧ Dp K H y (.list ds) ∧ SeqAt.shaped d = true ∧ SeqAt.shaped (.list ds) = true ∧ Q (.bl (!ds.any fun y => PyData.eqv y d)) H
end
def RL (H : Hp) (v : V) (b : List Int) : Prop := ∃ p, v = .ref p ∧ H p = some (.lst (b.map V.int))
def LLs (H : Hp) (a : Addr) (bs : List (List Int)) : Prop := ∃ ws, H a = some (.lst ws) ∧ Paired (RL H) ws bs
def dL (bs : List (List Int)) : List PyData := bs.map fun b => PyData.list (b.map PyData.int)
section
variable {K : PySem.W.Frag} {H : Hp}
end
end L2
set_option Elab.async false
set_option linter.all false
set_option maxRecDepth 100000
namespace L2
open PySem PySem.Spec PyProof.Rows
structure Fly (P : Program) (w : World) (l : List Env) (H H' : Hp) (s s' : Shared) (x C : Addr) : Prop where
  os : s'.os = s.os
  bare : AllBare s'.gens
  un : Un (frs l) [] H H' s.heap s'.heap
  hok : HOk P w H' s'.heap
  air : ∃ (B : Heap) (a0 : Value), Heap.FlyingW B l x (.ref C) a0 s'.heap ∧ (∀ b o, s.heap.get? b = some o → H b = none → b ∉ frs l → B.get? b = some o) ∧
    (∀ b o, s.heap.get? b = some o → b ∉ frs l → ∃ o', B.get? b = some o') ∧ ∀ b u, H' b = some u → ∃ o, B.get? b = some o
abbrev CX1 (P : Program) (w : World) : CXT := fun l H s E e s' => ∃ x C H', e = Value.ref x ∧ Fly P w l H H' s s' x C ∧ E (.ref C) none H'
theorem hok_stay {P : Program} {w : World} {H : Hp} {h h' B : Heap} (ok : HOk P w H h) (hB : B.StaysIn h) (hB' : B.StaysIn h') (hT : ∀ b u, H b = some u → ∃ o, B.get? b = some o) : HOk P w H h' := fun b u e => by
  have k : ∀ c v z, H c = some z → h.get? c = some v → h'.get? c = some v := fun c v z hz hv => by
    obtain ⟨o, ho⟩ := hT c z hz
    have e1 := hB c o ho
    rw [hv] at e1
    cases e1
    exact hB' c _ ho
  refine (ok b u e).stay (fun c v hc q => ?_) (fun _ q => q) fun _ _ q => q
  rcases hc with rfl | hc
  · exact k _ _ _ e q
  · exact k _ _ _ hc q
section
variable {X : Cx} {pins : List (Addr × Obj)} {σ : St} {H : Hp} {s : Shared}
theorem fly_out {h : Heap} {B : Heap} {x C : Addr} {a0 : Value} (I : Inv X pins σ H s) (hst : X.stack = X.env :: X.outer) (hex : X.ex = []) (hF : Heap.FlyingW B X.outer x (.ref C) a0 h)
    (hB : ∀ b o, X.s_0.heap.get? b = some o → X.H_0 b = none → b ∉ frs X.outer → B.get? b = some o) (hB2 : ∀ b o, X.s_0.heap.get? b = some o → b ∉ frs X.outer → ∃ o', B.get? b = some o')
    (hT : ∀ b u, H b = some u → ∃ o, B.get? b = some o) (hS : B.StaysIn s.heap) (hU : s.heap.UpToSlots h) : Fly X.prog X.w X.outer X.H_0 H X.s_0 { s with heap := h } x C := by
  have nx : ∀ b : Addr, b ∉ X.ex := fun b z => by rw [hex] at z; cases z
  have sl : ∀ b o, X.s_0.heap.get? b = some o → b ∈ frs X.outer → ∃ sl, h.get? b = some { o with slots := sl } := fun b o e hb => by
    obtain ⟨s1, e1⟩ := I.base.slot b o e (I.ok.frf b hb) hb (nx b)
    obtain ⟨_, o2, e2, nf⟩ := I.funs.mem hb
    rw [e1] at e2
    cases e2
    obtain ⟨s2, e3⟩ := hU b _ e1 nf
    exact ⟨s2, e3⟩
  refine ⟨I.os, I.bare, ⟨fun b o e n hb _ => hF.1 b o (hB b o e n hb), fun b o e _ hb _ => sl b o e hb, fun b o e n _ => I.base.free b o e n (nx b), fun b o e _ => ?_, I.base.tups, I.base.frzs, I.base.tbls⟩, hok_stay I.hok hS hF.1 hT, B, a0, hF, hB, hB2, hT⟩
  by_cases hb : b ∈ frs X.outer
  · obtain ⟨s1, e1⟩ := sl b o e hb
    exact ⟨_, e1⟩
  · obtain ⟨o', e1⟩ := hB2 b o e hb
    exact ⟨o', hF.1 b o' e1⟩
theorem stk_frs (I : Inv X pins σ H s) (hst : X.stack = X.env :: X.outer) {b : Addr} {o : Obj} (e : X.s_0.heap.get? b = some o) (hb : b ∉ frs X.outer) : b ∉ frs X.stack := fun z => by
  rcases List.mem_cons.mp (I.stkSub b z) with q | q
  · exact absurd (Nat.lt_of_lt_of_le (Heap.lt_size e) I.ok.above) (by rw [q]; exact Nat.lt_irrefl _)
  · exact hb q
theorem leave_made {h' : Heap} {x C : Addr} {vs : List Value} {Q : Unit → Shared → Prop} {E : Value → Shared → Prop} (I : Inv X pins σ H s) (hst : X.stack = X.env :: X.outer) (hfr : X.env.frame = some X.env.locals) (hex : X.ex = []) (hx : Heap.MadeExcOf s.heap h' x (.ref C) vs)
    (hQ : ∀ h, Fly X.prog X.w X.outer X.H_0 H X.s_0 { s with heap := h } x C → Q () { s with heap := h }) : wpAny (model X.prog X.w) X.A (leaving X.env (.ref x)) Q E { s with heap := h' } := by
  have fr := I.ok.frames
  have ff := I.stack
  rw [hst] at fr ff
  have hin : ∀ env ∈ (X.env :: X.outer), ∀ a, env.frame = some a → a ∈ frs (X.env :: X.outer) := fun env he a ha => List.mem_filterMap.mpr ⟨env, he, ha⟩
  have hid : ∀ b o, s.heap.get? b = some o → b ∉ frs (X.env :: X.outer) → (PySem.W.hideAll s.heap (frs (X.env :: X.outer))).get? b = some o := fun b o e hb => PySem.W.hideAll_get _ e hb
  refine wpAny_leaves_madeW (base := PySem.W.hideAll s.heap (frs (X.env :: X.outer))) (h := s.heap) fr hfr (fun b o q => PySem.W.of_hideAll _ q) (PySem.W.funFrames_hide ff hin) hx fun h t hF _ _ hU => hQ h ?_
  refine fly_out I hst hex hF (fun b o e n hb => ?_) (fun b o e hb => ?_) (fun b u e => ?_) (fun b o q => PySem.W.of_hideAll _ q) ((Heap.UpToSlots.of_keeps hx.keeps).trans hU)
  · refine hid b o (I.base.keep b o e n hb (by rw [hex]; simp)) ?_
    rw [← hst]
    exact stk_frs I hst e hb
  · obtain ⟨o', e1⟩ := I.base.there b o e (by rw [hex]; simp)
    refine ⟨o', hid b o' e1 ?_⟩
    rw [← hst]
    exact stk_frs I hst e hb
  · have hl := I.hok.lt e
    obtain ⟨o, ho⟩ : ∃ o, s.heap.get? b = some o := by
      have := I.hok b u e
      cases u with
      | lst xs => obtain ⟨_, _, _, _, e⟩ := this; exact ⟨_, e⟩
      | tup xs => obtain ⟨_, _, _, o, e, _⟩ := this; exact ⟨_, e⟩
      | dK kvs => obtain ⟨_, _, _, _, o, _, _, e, _⟩ := this; exact ⟨_, e⟩
      | dT kvs => obtain ⟨_, _, _, _, o, _, _, e, _⟩ := this; exact ⟨_, e⟩
      | set S n => obtain ⟨o, _, _, _, e, _⟩ := this; exact ⟨_, e⟩
      | ins C dx fs => obtain ⟨_, _, _, e, _⟩ := this; exact ⟨_, e⟩
      | own y => exact this
      | xd fs => obtain ⟨_, ⟨_, _, _, e, _⟩, _⟩ := this; exact ⟨_, e⟩
      | rng lo hi => obtain ⟨_, _, _, e⟩ := this; exact ⟨_, e⟩
      | frz ob u => exact ⟨_, this.1⟩
      | tbl ps => exact ⟨_, this⟩
      | met f y => exact ⟨_, this⟩
      | ext φ => exact this.2.1
    refine ⟨o, hid b o ho fun z => ?_⟩
    rw [← hst] at z
    rw [I.stkFree b z] at e
    cases e
theorem Fly.inv {x C : Addr} {H' : Hp} {s' : Shared} (F : Fly X.prog X.w X.stack H H' s s' x C) (I : Inv X pins σ H s) : Inv X pins σ H' s' := by
  obtain ⟨h', g', d', t', o'⟩ := s'
  obtain rfl : o' = s.os := F.os
  exact I.call (g' := g') (t' := t') (d' := d') (ch := []) F.un F.hok F.bare (fun b z => nomatch z)
theorem leave_on {x C : Addr} {H' : Hp} {s' : Shared} {Q : Unit → Shared → Prop} {E : Value → Shared → Prop} (I : Inv X pins σ H s) (hst : X.stack = X.env :: X.outer) (hfr : X.env.frame = some X.env.locals) (hex : X.ex = []) (F : Fly X.prog X.w X.stack H H' s s' x C)
    (hQ : ∀ h, Fly X.prog X.w X.outer X.H_0 H' X.s_0 { s' with heap := h } x C → Q () { s' with heap := h }) : wpAny (model X.prog X.w) X.A (leaving X.env (.ref x)) Q E s' := by
  have fr := I.ok.frames
  have I' := F.inv I
  obtain ⟨B, a0, hf, hB, hB2, hT⟩ := F.air
  rw [hst] at fr hf
  refine wpAny_leaves_onW fr hfr hf fun h hF hU => hQ h ?_
  refine fly_out I' hst hex hF (fun b o e n hb => ?_) (fun b o e hb => ?_) hT hf.1 hU
  · exact hB b o (I.base.keep b o e n hb (by rw [hex]; simp)) (I.base.free b o e n (by rw [hex]; simp)) (stk_frs I hst e hb)
  · obtain ⟨o', e1⟩ := I.base.there b o e (by rw [hex]; simp)
    exact hB2 b o' e1 (stk_frs I hst e hb)
end
structure Raises (X : Cx) (E : XK) : Prop where
  made : ∀ (pins : List (Addr × Obj)) (σ : St) (H : Hp) (s : Shared) (h' : Heap) (x C : Addr) (vs : List Value), Inv X pins σ H s → Heap.MadeExcOf s.heap h' x (.ref C) vs → E (.ref C) none H → X.xe (.ref x) { s with heap := h' }
  pass : Passes (CX1 X.prog X.w) X E
theorem raises {P : Program} {w : World} {K : PySem.W.Frag} {mg : Str → Option Value} {base : Heap} {N : List Str} {qual : Str} {scope : Scope} {f : Addr} {cd : Value} {A : Around} {outer : List Env} {s0 : Shared} {H0 : Hp} {E : XK} :
    Raises (cxOf (CX1 P w) P w K mg base N qual scope f cd A outer s0 H0 E) E where
  made := fun pins σ H s h' x C vs I hx q => leave_made (X := cxOf (CX1 P w) P w K mg base N qual scope f cd A outer s0 H0 E) I rfl rfl rfl hx fun h F => ⟨x, C, H, rfl, F, q⟩
  pass := fun pins σ H s e s' I ⟨x, C, H', he, F, q⟩ => by
    subst he
    exact leave_on (X := cxOf (CX1 P w) P w K mg base N qual scope f cd A outer s0 H0 E) I rfl rfl rfl F fun h F2 => ⟨x, C, H', rfl, F2, q⟩
end L2
set_option Elab.async false
set_option linter.all false
set_option maxRecDepth 100000
namespace L2
open PySem PySem.Spec PyProof.Rows
structure HasX (P : Program) (w : World) (K : PySem.W.Frag) (mg : Str → Option Value) (base : Heap) (k : Nat) (x : Str) (ps : List Str) (sp : Sp) : Prop where
  ex : ∃ f fd, FnOk P w K mg base (CX1 P w) k f fd ps sp ∧ Binds K fd ps [] ∧ PySem.W.keepIn K (.ref f) = true ∧ mg x = some (.ref f) ∧ ∃ o, K.lookup f = some o ∧ o.data = .func fd
structure HasMX (P : Program) (w : World) (K : PySem.W.Frag) (mg : Str → Option Value) (base : Heap) (k : Nat) (C : Addr) (m : Str) (ps : List Str) (sp : Sp) : Prop where
  ex : ∃ f fd, FnOk P w K mg base (CX1 P w) k f fd ps sp ∧ Binds K fd ps [] ∧ Meth K C m f
section
variable {P : Program} {w : World} {K : PySem.W.Frag} {mg : Str → Option Value} {base : Heap}
theorem fn_okX {x qual : Str} {st : Stmt} {f : Addr} {fd : FuncData} {N ps : List Str} {k : Nat} {sp : Sp} (F : Fun K x qual st f fd) (S : FnScope N ps (defScope st)) (len : ∀ vs H Q E, sp vs H Q E → vs.length = ps.length)
    (hb : ∀ (cdv : Value) (A : Around) (outer : List Env) (s : Shared) (H : Hp) (vs : List V) (Q : VK) (E : XK), Room k (A.deeper (envOfC qual (defScope st) s.heap.objs.size f cdv)) → sp vs H Q E →
      ∃ t, PSs (cxOf (CX1 P w) P w K mg base N qual (defScope st) f cdv A outer s H E) (defBody st) t ∧ t { nx := fun _ H' => Q .non H', rt := Q } (start N vs) H) : FnOk P w K mg base (CX1 P w) (k + 1) f fd ps sp := by
  obtain ⟨oc, od, kV, doc, pm, an, cdv, ct, osl, rfl, lk, hcd⟩ := F.ex
  exact fn_of lk hcd S len fun A outer s H vs Q E hr hsp => hb cdv A outer s H vs Q E hr hsp
theorem FunAt.hasX {x : Str} {st : Stmt} {N ps : List Str} {k : Nat} {sp : Sp} (F : FunAt K mg x st ps) (S : FnScope N ps (defScope st)) (len : ∀ vs H Q E, sp vs H Q E → vs.length = ps.length)
    (hb : ∀ (f : Addr) (cdv : Value) (A : Around) (outer : List Env) (s : Shared) (H : Hp) (vs : List V) (Q : VK) (E : XK), Room k (A.deeper (envOfC x (defScope st) s.heap.objs.size f cdv)) → sp vs H Q E →
      ∃ t, PSs (cxOf (CX1 P w) P w K mg base N x (defScope st) f cdv A outer s H E) (defBody st) t ∧ t { nx := fun _ H' => Q .non H', rt := Q } (start N vs) H) : HasX P w K mg base (k + 1) x ps sp := by
  obtain ⟨f, fd, F, b, m⟩ := F.ex
  refine ⟨f, fd, fn_okX F S len (fun cdv A outer s H vs Q E hr h => hb f cdv A outer s H vs Q E hr h), b, F.kp, m, ?_⟩
  obtain ⟨_, _, _, _, _, _, _, _, _, _, lk, _⟩ := F.ex
  exact ⟨_, lk, rfl⟩
end
section
variable {X : Cx}
theorem pcallX {E : XK} {k k' : Nat} {x : Str} {ps : List Str} {sp : Sp} {p pos : Pos} {e : Expr} {es : List Expr} {t : TA} (rs : Raises X E) (h : HasX X.prog X.w X.K X.mg X.base k x ps sp) (hr : Room k' X.A) (hk : k ≤ k') (hg : Gl X x)
    (ha : PA X (e :: es) t) (hdb : (x == ("__debug__" : Str)) = false := by decide) (he : starEach (e :: es) X.env = (false, eval e X.env) :: starEach es X.env := by rfl) (hpl : (backTo pos (starEach es X.env)).any (·.1) = false := by rfl) :
    PE X (.Call (.Name x p) (e :: es) [] pos) (tCall sp [] E t) := by
  intro pins s σ H Q I q
  obtain ⟨f, fd, F, b, kp, m, _⟩ := h.ex
  exact pe_call F (hr.mono hk) hg m kp b .nil rs.pass ha hdb he hpl pins s σ H Q I q
abbrev veB : List Value := [.type "ValueError", .type "Exception", .type "BaseException", .type "object"]
structure XCls (K : PySem.W.Frag) (mg : Str → Option Value) (x : Str) (C : Addr) : Prop where
  at_ : mg x = some (.ref C)
  exc : PySem.W.excIn K C veB "ValueError.__new__" = true
theorem XCls.own {K : PySem.W.Frag} {mg : Str → Option Value} {x : Str} {C : Addr} (c : XCls K mg x C) {h : Heap} (X : K.In h) : OwnCls x C veB "ValueError.__new__" mg h := by
  have q := c.exc
  constructor
  · exact c.at_
  unfold PySem.W.excIn at q
  split at q
  next dd cd sl ho =>
    split at q
    next C' bm k0 k1 k2 k3 n k5 hm hs =>
      simp only [Bool.and_eq_true] at q
      simp only [beq_iff_eq, Bool.not_eq_true'] at q
      obtain ⟨⟨⟨⟨⟨rfl, rfl⟩, hd⟩, ht⟩, ho1⟩, ho2⟩ := q
      cases cd with | mk nm bs mro ns qn hd' sn sub ab col del =>
      have e1 : mro = Value.ref C' :: bm := hm
      have e2 : del = false := hd
      rw [e1, e2] at ho
      have e3 : sl = #[k0, k1, k2, k3, some (.builtin "ValueError.__new__"), k5] := by cases sl with | mk l => exact congrArg Array.mk hs
      rw [e3] at ho
      exact ⟨bm, ns, nm, qn, bs, hd', sn, sub, ab, col, dd, k0, k1, k2, k3, k5, _, X _ _ ho, .of_isNs (PySem.W.isNs_of_in X ho1), PySem.W.nsMap_none_of_in X ho1 ho2, PySem.W.tail_of_in X ht⟩
    next => cases q
  next => cases q
def tRaise (C : Addr) (E : XK) (t : TA) : TS := fun _ σ H => t σ H fun vs H1 => vs.length ≤ sizeLine ∧ E (.ref C) none H1
theorem ps_raise {E : XK} {x : Str} {C : Addr} {np cpos pos : Pos} {e : Expr} {es : List Expr} {t : TA} (rs : Raises X E) (hc : X.calm = true) (c : XCls X.K X.mg x C) (hg : Gl X x) (ha : PA X (e :: es) t)
    (hdb : (x == ("__debug__" : Str)) = false := by decide) (he : starEach (e :: es) X.env = (false, eval e X.env) :: starEach es X.env := by rfl) (hpl : (backTo cpos (starEach es X.env)).any (·.1) = false := by rfl) :
    PS X (.Raise (some (.Call (.Name x np) (e :: es) [] cpos)) none pos) (tRaise C E t) := by
  intro pins s σ H D I h
  obtain ⟨bm, N, nm, q, bs, hd, sn, sub, ab, col, dd, k0, k1, k2, k3, k5, mN, hC, hN, hni, T⟩ := (c.own I.ok.mod.kin).obj
  have pl : (backTo cpos (starEach (e :: es) X.env)).any (·.1) = false := by
    rw [he]
    show (false || (backTo cpos (starEach es X.env)).any (·.1)) = false
    rw [hpl]
    rfl
  refine wpAny_Raise_call_subT (k0 := k0) (k1 := k1) (k2 := k2) (k3 := k3) (k5 := k5) (dd := dd) (col := col) (ab := ab) (sub := sub) (sn := sn) (hdct := hd) (bm := bm) (bs := bs) (N := N) (q := q) (nm := nm) PySem.F.excBase_ValueError
    (mN := mN) (T.hasType PySem.F.excBase_ValueError.hasBase) (I.ok.hd hc) pl hni (ld_glob I hg c.at_ ⟨rfl, ?_⟩ hdb)
  have hA := ha cpos pins s σ H _ I h
  rw [he] at hA ⊢
  refine Calls.evalArgs_plain (wpAny_mono hA (fun us s2 h2 => ?_) fun _ _ y => y)
  obtain ⟨vs, H2, I2, rv, hl, hE⟩ := h2
  exact ⟨rfl, by rw [← rv.length]; exact hl, I2.bk _ _ hC, hN.keeps I2.bk, T.keeps I2.bk, fun h' e hm => rs.made pins σ H2 s2 h' e C us I2 hm hE⟩
end
end L2
set_option Elab.async false
set_option linter.all false
set_option maxRecDepth 100000
namespace L2
open PySem PySem.Spec PyProof.Rows
def xcO (x C : Addr) (h : Heap) : Prop := ∃ o, h.get? x = some o ∧ o.cls = .ref C ∧ PySem.W.notCls o = true
section
variable {X : Cx} {pins : List (Addr × Obj)} {σ : St} {H : Hp} {s : Shared}
theorem Fly.ne {P : Program} {w : World} {l : List Env} {H H' : Hp} {s s' : Shared} {x C : Addr} (F : Fly P w l H H' s s' x C) {b : Addr} {o : Obj} (e : s.heap.get? b = some o) : b ≠ x := by
  intro z
  subst z
  obtain ⟨B, a0, hf, hB, hB2, hT⟩ := F.air
  by_cases hb : b ∈ frs l
  · obtain ⟨_, o1, e1, nf⟩ := hf.2.2.1.mem hb
    obtain ⟨oe, vs, e2, _, ed, _⟩ := hf.first
    rw [e1] at e2
    cases e2
    exact nf vs ed
  · obtain ⟨o', e1⟩ := hB2 b o e hb
    rw [hf.2.1] at e1
    cases e1
theorem Fly.new {P : Program} {w : World} {l : List Env} {H H' : Hp} {s s' : Shared} {x C : Addr} (F : Fly P w l H H' s s' x C) : H' x = none := by
  obtain ⟨B, a0, hf, hB, hB2, hT⟩ := F.air
  cases e : H' x with
  | none => rfl
  | some u =>
    obtain ⟨o, e1⟩ := hT x u e
    rw [hf.2.1] at e1
    cases e1
theorem Fly.held {x C : Addr} {H' : Hp} {s' : Shared} (F : Fly X.prog X.w X.stack H H' s s' x C) (I : Inv X pins σ H s) : Inv X pins σ (upd H' x (.ext (xcO x C))) s' := by
  have hn := F.new
  have ne : ∀ b u, H' b = some u → b ≠ x := fun b u e => ne_of_none e hn
  have un : Un (frs X.stack) [] H (upd H' x (.ext (xcO x C))) s.heap s'.heap :=
    ⟨F.un.keep, F.un.slot, fun b o e n hx => by rw [upd_ne (F.ne e)]; exact F.un.free b o e n hx, F.un.there, fun b xs e => by have q := F.un.tups b xs e; rw [upd_ne (ne b _ q)]; exact q,
      fun b o u e => by have q := F.un.frzs b o u e; rw [upd_ne (ne b _ q)]; exact q, fun b ps e => by obtain ⟨m, q⟩ := F.un.tbls b ps e; exact ⟨m, by rw [upd_ne (ne b _ q)]; exact q⟩⟩
  have ok : HOk X.prog X.w (upd H' x (.ext (xcO x C))) s'.heap := fun b u e => by
    by_cases hb : b = x
    · subst hb
      rw [upd_same] at e
      cases e
      obtain ⟨B, a0, hf, _⟩ := F.air
      obtain ⟨oe, vs, e1, ec, ed, _⟩ := hf.first
      refine ⟨⟨oe, e1, ec, by unfold PySem.W.notCls; rw [ed]⟩, ⟨oe, e1⟩, fun h1 h2 p k => ?_⟩
      obtain ⟨o, q1, q2⟩ := p
      exact ⟨o, k o q1, q2⟩
    · rw [upd_ne hb] at e
      exact (F.hok b u e).stay (fun _ _ _ q => q) (fun c q => by rw [upd_ne (ne c _ q)]; exact q) fun c xs q => by rw [upd_ne (ne c _ q)]; exact q
  obtain ⟨h', g', d', t', o'⟩ := s'
  obtain rfl : o' = s.os := F.os
  exact I.call (g' := g') (t' := t') (d' := d') (ch := []) un ok F.bare (fun b z => nomatch z)
theorem Fly.move {P : Program} {w : World} {l : List Env} {H H' : Hp} {s s' : Shared} {x C : Addr} (F : Fly P w l H H' s s' x C) : ∃ (B : Heap) (a0 : Value), Heap.FlyingW B l x (.ref C) a0 s'.heap ∧
    ∀ h, Heap.FlyingW B l x (.ref C) a0 h → s'.heap.UpToSlots h → Fly P w l H H' s { s' with heap := h } x C := by
  obtain ⟨B, a0, hf, hB, hB2, hT⟩ := F.air
  refine ⟨B, a0, hf, fun h hF hU => ?_⟩
  have sl : ∀ b o, s.heap.get? b = some o → H b = none → b ∈ frs l → ∃ sl, h.get? b = some { o with slots := sl } := fun b o e n hb => by
    obtain ⟨s1, e1⟩ := F.un.slot b o e n hb (by simp)
    obtain ⟨_, o2, e2, nf⟩ := hf.2.2.1.mem hb
    rw [e1] at e2
    cases e2
    obtain ⟨s2, e3⟩ := hU b _ e1 nf
    exact ⟨s2, e3⟩
  refine ⟨F.os, F.bare, ⟨fun b o e n hb _ => hF.1 b o (hB b o e n hb), fun b o e n hb _ => sl b o e n hb, F.un.free, fun b o e _ => ?_, F.un.tups, F.un.frzs, F.un.tbls⟩, hok_stay F.hok hf.1 hF.1 hT, B, a0, hF, hB, hB2, hT⟩
  by_cases hb : b ∈ frs l
  · obtain ⟨o1, e1⟩ := F.un.there b o e (by simp)
    obtain ⟨_, o2, e2, nf⟩ := hf.2.2.1.mem hb
    obtain ⟨s2, e3⟩ := hU b _ e2 nf
    exact ⟨_, e3⟩
  · obtain ⟨o', e1⟩ := hB2 b o e hb
    exact ⟨o', hF.1 b o' e1⟩
theorem name_goes {M : Model} {A : Around} {E : Value → Shared → Prop} {i : Nat} {n : Str} {pos : Pos} {Q : Unit → Shared → Prop} (I : Inv X pins σ H s) (hN : X.N.Nodup) (hi : X.N[i]? = some n) (hl : X.env.scope.names.lookup n = some .local)
    (h : ∀ s', Inv X pins (σ.set i none) H s' → Q () s') : wpAny M A (do bindName X.env n .none; unbindBehindTheSuite X.env n pos) Q E s := by
  obtain ⟨m, hn, hm⟩ := id I.loc
  have hiσ : i < σ.length := by rw [I.len]; exact (List.getElem?_eq_some_iff.mp hi).1
  refine wpAny_nameGoes_keeps hl hn (by rw [I.ok.kind]; rfl) fun h' v hn' hs => h _ ?_
  have far : ∀ b o, X.s_0.heap.get? b = some o → b ≠ X.env.locals := fun b o e => Nat.ne_of_lt (Nat.lt_of_lt_of_le (Heap.lt_size e) I.ok.above)
  refine ⟨I.ok, I.os, I.bare, ⟨fun b o e z hb hx => ?_, fun b o e z hb hx => ?_, I.base.free, fun b o e hx => ?_, I.base.tups, I.base.frzs, I.base.tbls⟩, ⟨_, hn', fun j y v' e1 e2 e3 => ?_⟩, fun y c e => ?_, I.free, I.freeC, fun p hp => ?_, fun b ob e => ?_, by simpa using I.len⟩
  · exact (hs.2 b (far b o e)).trans (I.base.keep b o e z hb hx)
  · obtain ⟨sl, e1⟩ := I.base.slot b o e z hb hx
    exact ⟨sl, (hs.2 b (far b o e)).trans e1⟩
  · obtain ⟨o', e1⟩ := I.base.there b o e hx
    exact ⟨o', (hs.2 b (far b o e)).trans e1⟩
  · have hj : j ≠ i := fun z => by
      rw [z, List.getElem?_set_self hiσ] at e2
      cases e2
    rw [List.getElem?_set_ne (Ne.symm hj)] at e2
    obtain ⟨u', r', q⟩ := hm j y v' e1 e2 e3
    refine ⟨u', r', ?_⟩
    rcases q with ⟨k, e⟩ | ⟨k, c, e, z⟩
    · have : y ≠ n := fun e => hj (nodup_ix hN e1 (e ▸ hi))
      exact .inl ⟨k, by simp [this, e]⟩
    · exact .inr ⟨k, c, e, z.sameBut hs (I.cne y c e)⟩
  · obtain ⟨w', z⟩ := I.cell y c e
    exact ⟨w', z.sameBut hs (I.cne y c e)⟩
  · obtain ⟨e, n, ne, nf, d⟩ := I.pin p hp
    exact ⟨(hs.2 p.1 ne).trans e, n, ne, nf, d⟩
  · refine (I.hok b ob e).stay (fun c w' hc q => (hs.2 c ?_).trans q) (fun _ q => q) fun _ _ q => q
    intro z
    rw [z] at hc
    rcases hc with hc | hc
    · rw [← hc, I.free] at e; cases e
    · rw [I.free] at hc; cases hc
end
end L2
set_option Elab.async false
set_option linter.all false
set_option maxRecDepth 100000
namespace L2
open PySem PySem.Spec PyProof.Rows
structure XTop (K : PySem.W.Frag) (mg : Str → Option Value) (y : Str) (D : Addr) : Prop where
  at_ : mg y = some (.ref D)
  ty : PySem.W.typeIn K (.ref D) = some (.type "type")
  cls : (PySem.W.clsIn K D).isSome = true
  exc : PySem.W.mroIn K D (.type "BaseException") = some true
theorem xo_type {M : Model} {h : Heap} {x C : Addr} {o : Obj} (hx : h.get? x = some o) (hc : o.cls = .ref C) : PySem.W.Looks M h (typeOf (.ref x)) (.ref C) := hc ▸ (PySem.W.Looks.ld hx).andThen .now
theorem is_type {K : PySem.W.Frag} {M : Model} {h : Heap} {D : Addr} (X : K.In h) (z0 : (PySem.W.clsIn K D).isSome = true) : PySem.W.Looks M h (isType (.ref D)) true := by
  unfold PySem.W.clsIn at z0
  split at z0
  next c' d' cd' sl' ho => exact fun A' Q' E' s' k q => by unfold isType loadHead; exact wpAny_bind (wpAny_loadPart (k _ _ (X _ _ ho)) (wpAny_pure q))
  next => cases z0
theorem exc_hit {K : PySem.W.Frag} {M : Model} {A : Around} {E : Value → Shared → Prop} {s : Shared} {mg : Str → Option Value} {y : Str} {x C D : Addr} {o : Obj} {Q : Bool → Shared → Prop} (X : K.In s.heap) (t : XTop K mg y D) (hsub : PySem.W.mroIn K C (.ref D) = some true)
    (hx : s.heap.get? x = some o) (hc : o.cls = .ref C) (h : Q true s) : wpAny M A (excMatches (.ref x) (.ref D)) Q E s := by
  obtain ⟨hh, g, d, tk, os⟩ := s
  have L1 := PySem.W.looks_typeIn (M := M) X t.ty
  have L2 := is_type (M := M) X t.cls
  have L3 := PySem.W.looks_mroIn (M := M) X t.exc
  have L4 := xo_type (M := M) hx hc
  have L5 := PySem.W.looks_mroIn (M := M) X hsub
  have L6 : PySem.W.Looks M hh (isInstance (.ref D) (.type "tuple")) false := L1.andThen (PySem.W.Looks.of_pure tc_notTuple)
  have L7 : PySem.W.Looks M hh (isExcClass (.ref D)) true := L2.andThen (by rw [if_pos rfl]; exact L3)
  unfold excMatches
  refine wpAny_bind (L6.at ?_)
  simp only [Bool.false_eq_true, if_false]
  refine wpAny_bind (wpAny_pure ?_)
  simp only [List.forIn_cons, List.forIn_nil]
  refine wpAny_bind (wpAny_bind (wpAny_bind (L7.at ?_)))
  simp only [Bool.not_true, Bool.false_eq_true, if_false]
  refine wpAny_pure (wpAny_pure ?_)
  refine wpAny_bind (L4.at ?_)
  refine wpAny_bind (wpAny_bind (wpAny_bind (L5.at ?_)))
  rw [if_pos rfl]
  exact wpAny_pure (wpAny_pure (wpAny_pure h))
def PEx (X : Cx) (e : Expr) (t : St → Hp → VK → (Addr → Hp → Prop) → Prop) : Prop :=
  ∀ (pins : List (Addr × Obj)) (s : Shared) (σ : St) (H : Hp) (Q : VK) (EX : Addr → Hp → Prop), Inv X pins σ H s → t σ H Q EX →
    wpAny (model X.prog X.w) X.A (eval e X.env) (EP X pins σ Q) (fun ev s' => ∃ H0 s0 x C H', ev = Value.ref x ∧ Inv X pins σ H0 s0 ∧ Fly X.prog X.w X.stack H0 H' s0 s' x C ∧ EX C H') s
abbrev TX := Ends → (Addr → St → Hp → Prop) → St → Hp → Prop
def PSx (X : Cx) (st : List Stmt) (t : TX) : Prop :=
  ∀ (pins : List (Addr × Obj)) (s : Shared) (σ : St) (H : Hp) (D : Ends) (EX : Addr → St → Hp → Prop), Inv X pins σ H s → t D EX σ H →
    wpAny (model X.prog X.w) X.A (execs st X.env) (SP X pins D) (fun ev s' => ∃ σ0 H0 s0 x C H', ev = Value.ref x ∧ Inv X pins σ0 H0 s0 ∧ Fly X.prog X.w X.stack H0 H' s0 s' x C ∧ EX C σ0 H') s
def tCallX (sp : Sp) (t : TA) : St → Hp → VK → (Addr → Hp → Prop) → Prop := fun σ H Q EX => t σ H fun vs H1 => sp vs H1 Q fun c _ H' => ∃ C, c = .ref C ∧ EX C H'
def tMethX (C : Addr) (m : Str) (sp : Sp) (ta : TE) (t : TA) : St → Hp → VK → (Addr → Hp → Prop) → Prop := fun σ H Q EX => ta σ H fun x H1 => ∃ a dx fs, x = .ref a ∧ H1 a = some (.ins C dx fs) ∧ fs.lookup m = none ∧
  t σ H1 fun vs H2 => sp (x :: vs) H2 Q fun c _ H' => ∃ C, c = .ref C ∧ EX C H'
def tDropX (te : St → Hp → VK → (Addr → Hp → Prop) → Prop) : TX := fun D EX σ H => te σ H (fun _ H1 => D.nx σ H1) fun C H' => EX C σ H'
def tSetX (i : Nat) (te : St → Hp → VK → (Addr → Hp → Prop) → Prop) : TX := fun D EX σ H => te σ H (fun v H1 => D.nx (σ.set i (some v)) H1) fun C H' => EX C σ H'
section
variable {X : Cx}
theorem run_fnX {pins : List (Addr × Obj)} {σ : St} {H : Hp} {s : Shared} {Q : VK} {EX : Addr → Hp → Prop} {k : Nat} {f : Addr} {fd : FuncData} {ps : List Str} {sp : Sp} {us : List Value} {vs : List V} (F : FnOk X.prog X.w X.K X.mg X.base (CX1 X.prog X.w) k f fd ps sp) (hr : Room k X.A) (hb : Binds X.K fd ps [])
    (I : Inv X pins σ H s) (r : Vals vs us) (h : sp vs H Q fun c _ H' => ∃ C, c = .ref C ∧ EX C H') :
    wpAny (model X.prog X.w) X.A (call (.ref f) us) (EP X pins σ Q) (fun ev s' => ∃ H0 s0 x C H', ev = Value.ref x ∧ Inv X pins σ H0 s0 ∧ Fly X.prog X.w X.stack H0 H' s0 s' x C ∧ EX C H') s := by
  have hl : us.length = ps.length := by rw [← r.length]; exact F.len _ _ _ _ h
  have bt := hb s us I.kIn (by rw [List.append_nil]; exact hl)
  rw [List.append_nil] at bt
  refine wpAny_call (codeAny_mono (F.run X.A X.stack s H ⟨us, []⟩ us vs Q _ hr I.env0 bt r h) fun r s' hq => ?_)
  cases r with
  | error e =>
    obtain ⟨x, C, H', he, F', C', hc, q⟩ := hq
    cases hc
    exact ⟨H, s, x, C, H', he, I, F', q⟩
  | ok fl =>
    cases fl with
    | ret u => exact I.after hq
    | next => exact False.elim hq
    | brk => exact False.elim hq
    | cont => exact False.elim hq
theorem pex_call {k k' : Nat} {x : Str} {ps : List Str} {sp : Sp} {p pos : Pos} {e : Expr} {es : List Expr} {t : TA} (h : HasX X.prog X.w X.K X.mg X.base k x ps sp) (hr : Room k' X.A) (hk : k ≤ k') (hg : Gl X x)
    (ha : PA X.nox (e :: es) t) (hdb : (x == ("__debug__" : Str)) = false := by decide) (he : starEach (e :: es) X.env = (false, eval e X.env) :: starEach es X.env := by rfl) (hpl : (backTo pos (starEach es X.env)).any (·.1) = false := by rfl) :
    PEx X (.Call (.Name x p) (e :: es) [] pos) (tCallX sp t) := by
  intro pins s σ H Q EX I q
  obtain ⟨f, fd, F, b, kp, m, _⟩ := h.ex
  refine wpAny_Call_Name_kw (ld_glob I hg m ?_ hdb)
  refine PySem.W.callWith_K (h₀ := X.base) I.ok.mod.kin kp (wpAny_mono (ha pos pins s σ H _ (I.wish _) q) (fun us s1 ⟨vs, H1, I1, r, q1⟩ => ⟨I1.unwish.kIn, ?_⟩) fun _ _ z => z.elim) he hpl
  exact run_fnX F (hr.mono hk) b I1.unwish r q1
theorem psx_expr {e : Expr} {te : St → Hp → VK → (Addr → Hp → Prop) → Prop} {pos : Pos} (he : PEx X e te) (hs : swapsWith e none pos.line X.env = pure false := by rfl) : PSx X [.Expr e pos] (tDropX te) := by
  intro pins s σ H D EX I h
  refine wpAny_execs_cons (wpAny_Expr_any (wpAny_mono (he pins s σ H _ _ I h) (fun v s1 h1 => ?_) fun ev s' h1 => ?_) I.quiet hs)
  · obtain ⟨x, H1, I1, r1, q1⟩ := h1
    exact wpAny_execs_nil ⟨σ, H1, I1, q1⟩
  · obtain ⟨H0, s0, x, C, H', e1, I0, F, q⟩ := h1
    exact ⟨σ, H0, s0, x, C, H', e1, I0, F, q⟩
end
abbrev Cx.sui (X : Cx) (v : Value) : Cx := { X with A := X.A.mark (some v), calm := false, xe := fun _ _ => False }
theorem Cx.Ok.sui {X : Cx} (ok : X.Ok) (v : Value) : (X.sui v).Ok :=
  ⟨ok.mod, ok.kind, ok.glob, ok.blt, ok.above, ok.inj, ok.has, ok.cab, (fun z => by cases z), ok.frames, ok.stk, ok.exf, ok.bs, ok.bsz, ok.noex, ok.exfs, ok.funs, ok.frf⟩
theorem Inv.sui {X : Cx} {pins : List (Addr × Obj)} {σ : St} {H : Hp} {s : Shared} (I : Inv X pins σ H s) (v : Value) : Inv (X.sui v) pins σ H s := ⟨I.ok.sui v, I.os, I.bare, I.base, I.loc, I.cell, I.free, I.freeC, I.pin, I.hok, I.len⟩
theorem Inv.unsui {X : Cx} {pins : List (Addr × Obj)} {σ : St} {H : Hp} {s : Shared} {v : Value} (ok : X.Ok) (I : Inv (X.sui v) pins σ H s) : Inv X pins σ H s := ⟨ok, I.os, I.bare, I.base, I.loc, I.cell, I.free, I.freeC, I.pin, I.hok, I.len⟩
def tTry (K : PySem.W.Frag) (D : Addr) (i : Nat) (tb : TX) (ts : TS) : TS := fun W σ H => tb W (fun C σ0 H' => PySem.W.mroIn K C (.ref D) = some true ∧ ∀ x, H' x = none →
  ts { nx := fun σ2 H2 => W.nx (σ2.set i none) H2, rt := W.rt, bk := fun σ2 H2 => W.bk (σ2.set i none) H2, ct := fun σ2 H2 => W.ct (σ2.set i none) H2 } (σ0.set i (some (.ref x))) (upd H' x (.ext (xcO x C)))) σ H
section
variable {X : Cx}
theorem ps_try {i : Nat} {y n : Str} {D : Addr} {body : List Stmt} {b0 : Stmt} {suite : List Stmt} {np hpos pos : Pos} {tb : TX} {ts : TS} (hst : X.stack = X.env :: X.outer) (hfr : X.env.frame = some X.env.locals) (t : XTop X.K X.mg y D) (hg : Gl X y) (hN : X.N.Nodup) (hi : X.N[i]? = some n) (hl : X.env.scope.names.lookup n = some .local)
    (hb : PSx X body tb) (hs : ∀ v, PSs (X.sui v) (b0 :: suite) ts) (hdb : (y == ("__debug__" : Str)) = false := by decide) :
    PS X (.Try body [.ExceptHandler (some (.Name y np)) (some n) (b0 :: suite) hpos] [] [] pos) (tTry X.K D i tb ts) := by
  intro pins s σ H W I h
  refine wpAny_Try_except (wpAny_mono (hb pins s σ H W _ I h) (fun f s1 h1 => ?_) fun ev s1 h1 => ?_)
  · cases f with
    | next => exact wpAny_execs_nil h1
    | ret v => exact h1
    | brk => exact h1
    | cont => exact h1
  obtain ⟨σ0, H0, s0, x, C, H', rfl, I0, F, hsub, q⟩ := h1
  have fr := I0.ok.frames
  rw [hst] at fr
  obtain ⟨B, a0, hf, mv⟩ := F.move
  rw [hst] at hf
  refine wpAny_looks_onW fr hfr hf fun h4 hH hU4 => ?_
  refine wpAny_landsW hH fun h5 hF5 hU5 => ?_
  have F5 := mv h5 (by rw [hst]; exact hF5) (hU4.trans hU5)
  have I5 := (F5.inv I0).sui (.ref x)
  refine wpAny_handleBy_cons (codeAny_handlers_test (ld_glob (X := X.sui (.ref x)) I5 hg t.at_ ?_ hdb)) (by intro q; cases q)
  obtain ⟨oe, vs, e1, ec, ed, _⟩ := hF5.first
  refine exc_hit I5.kIn t hsub e1 ec (codeAny_handlers_suite_as ?_)
  refine PyProof.Rows.lands_againW hF5 fun h6 hF6 hU6 => ?_
  have F6 := mv h6 (by rw [hst]; exact hF6) ((hU4.trans hU5).trans hU6)
  have I6 := F6.held I0
  refine store_ok I6 hN hi (.inl hl) (v := .ref x) rfl (fun s7 I7 => ?_) (.inr hl)
  refine wpAny_mono (hs (.ref x) pins s7 _ _ _ (I7.sui (.ref x)) (q x F6.new)) (fun f s8 h8 => ?_) fun _ _ z => z.elim
  have ok := I0.ok
  cases f with
  | next =>
    obtain ⟨σ2, H2, I8, q8⟩ := h8
    exact name_goes (Inv.unsui ok I8) hN hi hl fun s9 I9 => ⟨_, H2, I9, q8⟩
  | brk =>
    obtain ⟨σ2, H2, I8, q8⟩ := h8
    exact name_goes (Inv.unsui ok I8) hN hi hl fun s9 I9 => ⟨_, H2, I9, q8⟩
  | cont =>
    obtain ⟨σ2, H2, I8, q8⟩ := h8
    exact name_goes (Inv.unsui ok I8) hN hi hl fun s9 I9 => ⟨_, H2, I9, q8⟩
  | ret u =>
    obtain ⟨v, σ2, H2, I8, r8, q8⟩ := h8
    exact name_goes (Inv.unsui ok I8) hN hi hl fun s9 I9 => ⟨v, _, H2, I9, r8, q8⟩
end
end L2
set_option Elab.async false
set_option linter.all false
set_option maxRecDepth 100000
namespace PySem.W
open PySem PySem.Spec PySem.Calls PyProof.Rows Builtin Builtin.ObjectAttr Builtin.Getset_descriptor
section
variable {prog : Program} {w : World} {A : Around} {E : Value → Shared → Prop} {s : Shared} {K : Frag} {x D : Addr} {o : Obj} {name : Str}
theorem xo_ty {M : Model} {h : Heap} (hx : h.get? x = some o) (hc : o.cls = .ref D) : Looks M h (typeOf (.ref x)) (.ref D) := hc ▸ (Looks.ld hx).andThen .now
theorem xo_find {M : Model} {h : Heap} {a g : Value} (X : K.In h) (ha : findIn K (.ref D) name = some (some a)) (hg : specialIn K a "__get__" = some (some g)) (ht : takesIn K a = some true) : Looks M h (find (.ref x) (.ref D) name) (.bind g a) := by
  refine (looks_findIn X ha).andThen ?_
  refine (looks_specialIn X hg).andThen ?_
  exact (show Looks M h (dataDescriptor? (some a) (some g)) (some (g, a)) from (looks_takesIn X ht).andThen .now).andThen (Looks.tag .now)
theorem xo_get {R : Result → Shared → Prop} {hh : Heap} {g : Array GenState} {d : Drawn} {t : Nat} {os : OsState} (X : K.In hh) (hx : hh.get? x = some o) (hc : o.cls = .ref D) (hm : mroIn K D (.type "object") = some true) (h : R (.ok (.ret (.ref D))) ⟨hh, g, d, t, os⟩) :
    codeAny (model prog w) A (.call (.builtin "getset_descriptor.__get__") ⟨[.builtin "object.__class__", .ref x, .ref D], []⟩) R ⟨hh, g, d, t, os⟩ := by
  have L0 := xo_ty (M := model prog w) hx hc
  have L4 := looks_mroIn (M := model prog w) X hm
  refine codeAny_call_builtin KF.slot_gs.plain KF.entry_gs ?_
  refine KF.slot_gs.check _ _ _ _ _ _ _ _ KF.type_class (KF.args_gs _ _ _) ?_
  unfold Builtin.«getset_descriptor.__get__» descrGet
  rw [dga_obj]
  refine wpAny_bind (wpAny_pure ?_)
  unfold descrGetter descrCheckInstance
  unfold descrNameAndClass isInstance
  simp only [KF.owner_class]
  repeat lk
  refine ⟨Code.quiet_builtin _ (by decide +kernel), ?_⟩
  refine codeAny_builtin KF.entry_class ?_
  unfold Builtin.«object.__class__»
  unfold shownTypeOf
  repeat lk
  exact h
theorem xo_class {Q : Option Value → Shared → Prop} (X : K.In s.heap) (hx : s.heap.get? x = some o) (hc : o.cls = .ref D) (hg1 : findIn K (.ref D) "__getattribute__" = some (some (.builtin "BaseException.__getattribute__"))) (hg2 : findIn K (.ref D) "__getattr__" = some none)
    (hb : mroIn K D (.type "BaseException") = some true) (ha : findIn K (.ref D) "__class__" = some (some (.builtin "object.__class__")))
    (hn : specialIn K (.builtin "object.__class__") "__get__" = some (some (.builtin "getset_descriptor.__get__"))) (htk : takesIn K (.builtin "object.__class__") = some true) (hm : mroIn K D (.type "object") = some true)
    (h : Q (some (.ref D)) { s with toks := s.toks + 1 }) : wpAny (model prog w) A (getAttr? (.ref x) "__class__") Q E s := by
  obtain ⟨hh, g, d, t, os⟩ := s
  have L0 := xo_ty (M := model prog w) hx hc
  have L1 := looks_findIn (M := model prog w) X hg1
  have L2 := looks_findIn (M := model prog w) X hg2
  have L3 := xo_find (x := x) (M := model prog w) X ha hn htk
  have L5 := looks_mroIn (M := model prog w) X hb
  have f3 := PySem.F.attr_ValueError.ga.bind (.ref x)
  unfold getAttr? getAttrBy?
  unfold getAttrBy
  refine wpAny_bind (wpAny_mkText ?_)
  refine wpAny_bind (wpAny_attempt (wpAny_holding ?_))
  refine wpAny_bind (L0.at (wpAny_bind (L1.at ?_)))
  dsimp only
  have hx2 : (onTheHeap (Value.ref D) && Value.builtin "BaseException.__getattribute__" == Value.builtin "object.__getattribute__") = false := by rw [show (Value.builtin "BaseException.__getattribute__" == Value.builtin "object.__getattribute__") = false from by decide +kernel, Bool.and_false]
  rw [hx2]
  simp only [Bool.false_eq_true, if_false]
  unfold getAttrByItsOwn hookBefore
  unfold callGetattribute
  repeat (any_goals (first | assumption | with_reducible refine L2.at ?_ | wp_step))
  refine codeAny_call_builtin PySem.F.attr_ValueError.ga.plain PySem.F.entry_bexc_ga ?_
  have hk : builtinKind "BaseException.__getattribute__" = some .slot := by decide +kernel
  have hsp : splitId "BaseException.__getattribute__" = some ("BaseException", "__getattribute__") := by decide +kernel
  have har := PySem.F.args_bexc_ga (.ref x) (.str "__class__" t)
  have LI : Looks (model prog w) hh (isInstance (.ref x) (.type "BaseException")) true := L0.andThen L5
  show wpAny _ _ (checkBuiltinCall "BaseException.__getattribute__" ⟨[.ref x, .str "__class__" t], []⟩) _ _ _
  simp only [checkBuiltinCall, hk, hsp]
  refine wpAny_bind (LI.at ?_)
  simp only [if_true, Bool.not_true, Bool.false_eq_true, if_false]
  refine wpAny_of_eq (a := ()) har ?_
  unfold Builtin.«object.__getattribute__»
  repeat (any_goals (first | assumption | with_reducible refine L3.at ?_ | with_reducible refine L0.at ?_ | wp_step))
  refine xo_get X hx hc hm ?_
  repeat (any_goals (first | assumption | wp_step))
end
end PySem.W
namespace L2
open PySem PySem.Spec PyProof.Rows
structure XIsi (K : PySem.W.Frag) (C : Addr) : Prop where
  g1 : PySem.W.findIn K (.ref C) "__getattribute__" = some (some (.builtin "BaseException.__getattribute__"))
  g2 : PySem.W.findIn K (.ref C) "__getattr__" = some none
  hb : PySem.W.mroIn K C (.type "BaseException") = some true
  cl : (PySem.W.clsIn K C).isSome = true
  ha : PySem.W.findIn K (.ref C) "__class__" = some (some (.builtin "object.__class__"))
  hn : PySem.W.specialIn K (.builtin "object.__class__") "__get__" = some (some (.builtin "getset_descriptor.__get__"))
  htk : PySem.W.takesIn K (.builtin "object.__class__") = some true
  hm : PySem.W.mroIn K C (.type "object") = some true
theorem kitx_exc {K : PySem.W.Frag} {x C : Addr} (c : XIsi K C) : PySem.W.KitX K (.ref x) (.ref C) (xcO x C) where
  ty := fun _ _ _ ⟨o, h1, h2, _⟩ => PySem.W.xo_ty h1 h2
  it := fun _ _ X _ => is_type X c.cl
  ne := fun h tp dd its n sl X htp => by
    refine Bool.eq_false_iff.mpr fun q => ?_
    obtain rfl : C = tp := Value.ref.inj (beq_iff_eq.mp q)
    have z := c.cl
    unfold PySem.W.clsIn at z
    split at z
    next c' d' cd' sl' ho =>
      have y := (X _ _ ho).symm.trans htp
      cases y
    next => cases z
  ca := fun X ⟨o, h1, h2, _⟩ k => PySem.W.xo_class X h1 h2 c.g1 c.g2 c.hb c.ha c.hn c.htk c.hm k
def clV : V → Value
  | .ref a => .ref a
  | .ty n => .type n
  | _ => .none
theorem clV_of {v : V} {u : Value} (h : (∃ a, v = .ref a) ∨ ∃ n, v = .ty n) (r : RelV v u) : u = clV v := by
  rcases h with ⟨a, rfl⟩ | ⟨n, rfl⟩
  · exact r
  · exact r
theorem clVs_of : ∀ {vs : List V} {us : List Value}, (∀ v ∈ vs, (∃ a, v = V.ref a) ∨ ∃ n, v = V.ty n) → Vals vs us → us = vs.map clV
  | _, _, _, .nil => rfl
  | _, _, h, .cons r t => by rw [List.map_cons, ← clVs_of (fun v hv => h v (List.mem_cons_of_mem _ hv)) t, clV_of (h _ List.mem_cons_self) r]
inductive XTy (K : PySem.W.Frag) (H : Hp) : V → Value → Prop
  | non : XTy K H .non (.type "NoneType")
  | exc {x C : Addr} (e : H x = some (.ext (xcO x C))) (c : XIsi K C) : XTy K H (.ref x) (.ref C)
def cIsiX (K : PySem.W.Frag) : List V → Hp → VK → Prop := fun vs H Q => ∃ (x c : V) (t : Value) (b : Bool), vs = [x, c] ∧ XTy K H x t ∧ Q (.bl b) H ∧
  ((((∃ a, c = .ref a) ∨ ∃ n, c = .ty n) ∧ PySem.W.kitOne K t (clV c) = some b) ∨ ∃ p cs, c = .ref p ∧ H p = some (.tup cs) ∧ (∀ v ∈ cs, (∃ a, v = V.ref a) ∨ ∃ n, v = V.ty n) ∧ PySem.W.kitAny K t (cs.map clV) = some b)
section
variable {X : Cx}
theorem k_isiX : CallR X (.builtin "isinstance") (cIsiX X.K) := by
  intro pins s σ H xs us Q I r h
  obtain ⟨x, c, t, b, rfl, hx, q, hc⟩ := h
  obtain ⟨u, w, rfl, rx, rc⟩ := vals2 r
  have fin : ∀ tk, EP X pins σ Q (.bool b) { s with toks := tk } := fun tk => ⟨.bl b, H, I.tok tk, rfl, q⟩
  rcases hc with ⟨hc, hk⟩ | ⟨p, cs, rfl, hp, hcs, hk⟩
  · rw [clV_of hc rc]
    cases hx with
    | non => cases (show u = Value.none from rx); exact PySem.W.kia_one PySem.W.kitx_none I.kIn True.intro hk (fun z => nomatch z) fin
    | exc e c => cases (show u = Value.ref _ from rx); exact PySem.W.kia_one (kitx_exc c) I.kIn (I.hok _ _ e).1 hk (fun z => nomatch z) fin
  · cases (show w = Value.ref p from rc)
    obtain ⟨_, its, rv, o, ho, hcl, n, hd⟩ := I.hok p _ hp
    obtain ⟨oc, od, oda, osl⟩ := o
    dsimp only at hcl hd
    subst hcl hd
    rw [← clVs_of hcs rv] at hk
    cases hx with
    | non => cases (show u = Value.none from rx); exact PySem.W.kia_tup PySem.W.kitx_none I.kIn True.intro ho hk (fun z => nomatch z) fin
    | exc e c => cases (show u = Value.ref _ from rx); exact PySem.W.kia_tup (kitx_exc c) I.kIn (I.hok _ _ e).1 ho hk (fun z => nomatch z) fin
end
theorem r_isi1 {K : PySem.W.Frag} {H : Hp} {Q : VK} {x c : V} {t : Value} {b : Bool} (hx : XTy K H x t) (hc : (∃ a, c = .ref a) ∨ ∃ n, c = .ty n) (hk : PySem.W.kitOne K t (clV c) = some b) (q : Q (.bl b) H) : cIsiX K [x, c] H Q := ⟨x, c, t, b, rfl, hx, q, .inl ⟨hc, hk⟩⟩
end L2
set_option Elab.async false
set_option linter.all false
set_option maxRecDepth 100000
namespace L2
open PySem PySem.Spec PyProof.Rows
section
variable {K : PySem.W.Frag} {D C : Addr} {i : Nat} {tb : TX} {ts : TS} {W : Ends} {σ : St} {H : Hp} {Q : VK} {EX : Addr → St → Hp → Prop} {EC : Addr → Hp → Prop} {E : XK} {sp : Sp} {t : TA} {ta : TE} {m : Str} {te : St → Hp → VK → (Addr → Hp → Prop) → Prop}
theorem r_try (h : tb W (fun C σ0 H' => PySem.W.mroIn K C (.ref D) = some true ∧ ∀ x, H' x = none →
  ts { nx := fun σ2 H2 => W.nx (σ2.set i none) H2, rt := W.rt, bk := fun σ2 H2 => W.bk (σ2.set i none) H2, ct := fun σ2 H2 => W.ct (σ2.set i none) H2 } (σ0.set i (some (.ref x))) (upd H' x (.ext (xcO x C)))) σ H) : tTry K D i tb ts W σ H := h
theorem r_dropX (h : te σ H (fun _ H1 => W.nx σ H1) fun C H' => EX C σ H') : tDropX te W EX σ H := h
theorem r_callX (h : t σ H fun vs H1 => sp vs H1 Q fun c _ H' => ∃ C, c = .ref C ∧ EC C H') : tCallX sp t σ H Q EC := h
theorem r_raise (h : t σ H fun vs H1 => vs.length ≤ sizeLine ∧ E (.ref C) none H1) : tRaise C E t W σ H := h
end
end L2
set_option Elab.async false
set_option linter.all false
set_option maxRecDepth 100000
namespace L2
open PySem PySem.Spec PyProof.Rows
structure RoomU (k : Nat) (A : Around) : Prop where
  dp : A.depth + 3 * k + 5 < recursionLimit
  un : A.units + 16 * k + 200 < cLine
structure FnOkU (P : Program) (w : World) (K : PySem.W.Frag) (mg : Str → Option Value) (base : Heap) (k : Nat) (f : Addr) (fd : FuncData) (ps : List Str) (sp : Sp) : Prop where
  len : ∀ vs H Q E, sp vs H Q E → vs.length = ps.length
  run : ∀ (A : Around) (outer : List Env) (s : Shared) (H : Hp) (args : Args) (us : List Value) (vs : List V) (Q : VK) (E : XK), RoomU k A → Env0 P w K mg base A outer s H → BindsTo s fd args (ps.zip us) → Vals vs us → sp vs H Q E →
    codeAny (model P w) A (.call (.ref f) args) (CR CX0 outer P w H s Q E) s
structure HasU (P : Program) (w : World) (K : PySem.W.Frag) (mg : Str → Option Value) (base : Heap) (k : Nat) (x : Str) (ps : List Str) (sp : Sp) : Prop where
  ex : ∃ f fd, FnOkU P w K mg base k f fd ps sp ∧ Binds K fd ps [] ∧ PySem.W.keepIn K (.ref f) = true ∧ mg x = some (.ref f)
abbrev cxU (P : Program) (w : World) (K : PySem.W.Frag) (mg : Str → Option Value) (base : Heap) (N : List Str) (qual : Str) (scope : Scope) (f : Addr) (cd : Value) (A : Around) (outer : List Env) (s : Shared) (H : Hp) (E : XK) : Cx :=
  { cxOf CX0 P w K mg base N qual scope f cd A outer s H E with calm := false }
section
variable {P : Program} {w : World} {K : PySem.W.Frag} {mg : Str → Option Value} {base : Heap}
end
end L2
set_option Elab.async false
set_option linter.all false
set_option maxRecDepth 100000
namespace L2
open PySem PySem.Spec PyProof.Rows
section
variable {X : Cx}
def tFmt (te : TE) : TE := fun σ H Q => te σ H fun x H1 => ∃ i : Int, x = .int i ∧ i.natAbs.log2 < 1920 ∧ Q (.str (toString i)) H1
def tFmtS (te : TE) : TE := fun σ H Q => te σ H fun x H1 => ∃ z : Str, x = .str z ∧ z.length ≤ sizeLine ∧ Q (.str z) H1
end
abbrev TJ := Str → St → Hp → VK → Prop
def jNil : TJ := fun out _ H Q => Q (.str out) H
def jCons (te : TE) (tr : TJ) : TJ := fun out σ H Q => te σ H fun x H1 => ∃ z : Str, x = .str z ∧ out.length + z.length ≤ sizeLine ∧ tr (out ++ z) σ H1 Q
section
variable {X : Cx}
def PJs (X : Cx) (es : List Expr) (t : TJ) : Prop :=
  ∀ (out : Str) (pins : List (Addr × Obj)) (s : Shared) (σ : St) (H : Hp) (Q : VK), out.length ≤ sizeLine → Inv X pins σ H s → t out σ H Q → wpAny (model X.prog X.w) X.A (joinParts out (evalEach es X.env)) (EP X pins σ Q) X.xe s
def tFs (t : TJ) : TE := fun σ H Q => t Str.empty σ H Q
def tIfX (c : TT) (t u : TX) : TX := fun D EX σ H => c σ H fun b H1 => if b = true then t D EX σ H1 else u D EX σ H1
end
end L2
namespace L2
open PySem PySem.Spec PyProof.Rows
section
variable {σ : St} {H : Hp} {Q : VK}
end
end L2
set_option Elab.async false
set_option linter.all false
set_option maxRecDepth 100000
namespace PySem
end PySem
namespace L2
open PySem PySem.Spec PyProof.Rows
def CMulW (i j : Int) : Prop := (-(2 ^ 256) < i ∧ i < 2 ^ 256) ∧ (-(2 ^ 256) < j ∧ j < 2 ^ 256)
section
variable {X : Cx}
end
end L2
set_option Elab.async false
set_option linter.all false
set_option maxRecDepth 100000
namespace L2
open PySem PySem.Spec PyProof.Rows
def CDivW (_ j : Int) : Prop := 0 < j ∧ j < 1000000000000000000000000000000000000000000000000000000000001
theorem log2_lt {n : Nat} (h : n < 1000000000000000000000000000000000000000000000000000000000001) : n.log2 < 9000 := by
  by_cases c : n = 0
  · subst c; decide
  · rw [Nat.log2_lt c]
    exact Nat.lt_of_lt_of_le h (by decide +kernel)
section
variable {X : Cx}
theorem op_fdivW : OpR X (binaryOp .FloorDiv) (rI CDivW fun i j => .int (i / j)) := opI fun i j _ _ _ _ _ hc q => by
  have h1 : (0 : Int) < j := hc.1
  have h2 := hc.2
  exact floordiv_int (by omega) (by rw [Int.fdiv_eq_ediv_of_nonneg i (by omega)]; exact q) (.inl (PyProof.noPylong_of_log2 (log2_lt (by omega))))
theorem r_fdivW {H : Hp} {Q : VK} {i j : Int} (h : 0 < j) (h2 : j < 1000000000000000000000000000000000000000000000000000000000001) (q : Q (.int (i / j)) H) : rI CDivW (fun i j => .int (i / j)) (.int i) (.int j) H Q := ⟨i, j, rfl, rfl, ⟨h, h2⟩, q⟩
end
end L2
set_option Elab.async false
set_option linter.all false
set_option maxRecDepth 100000
namespace My
open PySem L2
local macro_rules | `(tactic| walk_at "rd1") => `(tactic| first
  | with_reducible refine r_seq ?_ | with_reducible refine r_asg ?_ | with_reducible refine r_name ?_ | with_reducible refine r_ret ?_ | with_reducible refine r_drop ?_ | with_reducible refine r_ifs ?_ | with_reducible refine r_next ?_
  | with_reducible refine r_var rfl ?_ | with_reducible refine r_c ?_ | with_reducible refine r_op ?_ | with_reducible refine r_I0 ?_
  | with_reducible refine r_test ?_ | with_reducible refine r_b ?_ | with_reducible refine r_k ?_ | with_reducible refine r_cons ?_ | with_reducible refine r_nil ?_ | with_reducible refine r_call ?_ | with_reducible refine r_cb ?_
  | with_reducible refine r_lst ?_ | with_reducible refine r_tup ?_ | with_reducible refine r_sub ?_ | with_reducible refine r_andV ?_ | with_reducible refine r_orV ?_ | with_reducible refine r_notV ?_
  | with_reducible refine r_and ?_ | with_reducible refine r_or ?_ | with_reducible refine r_not ?_ | with_reducible refine r_eqI ?_ | with_reducible refine r_neI ?_ | with_reducible refine r_aug rfl ?_ | with_reducible refine r_ipI ?_ | with_reducible refine r_un ?_
  | with_reducible refine r_bm ?_ | with_reducible refine r_bm0 ?_ | with_reducible refine r_yes ?_
  | with_reducible refine r_fb ?_ | with_reducible refine r_m1 ?_ | with_reducible refine r_augS ?_ | with_reducible refine r_isNn ?_ | with_reducible refine r_notNn ?_ | with_reducible refine r_isNr ?_ | with_reducible refine r_notNr ?_ | with_reducible refine r_tru ?_ | with_reducible refine r_count ?_
  | with_reducible refine r_for ?_ | with_reducible refine r_lc ?_ | with_reducible refine r_rng1 ?_ | with_reducible refine r_rng2 ?_ | with_reducible refine r_ilist ?_ | with_reducible refine r_itup ?_ | with_reducible refine r_enum ?_
  | with_reducible refine r_sl ?_ | with_reducible refine r_nopart ?_ | with_reducible refine r_part ?_ | with_reducible refine r_int ?_ | with_reducible refine r_gcons ?_ | with_reducible refine r_gnil ?_ | with_reducible refine r_revT ?_
  | with_reducible refine r_intB (fun z hz z0 z1 => ?_) | with_reducible refine r_intI ?_ | with_reducible refine r_min2 ?_ | with_reducible refine r_max2 ?_ | with_reducible refine r_rng1V ?_ | with_reducible refine r_rng2V ?_
  | with_reducible refine iteT ?_ | with_reducible refine iteF ?_ | with_reducible refine r_nf ?_ | with_reducible refine r_nt ?_
  | with_reducible refine r_ii ?_ | with_reducible refine r_ib ?_
  | ((with_reducible show rIxLF _ _ _ _); with_reducible refine r_ixL (by first | assumption | exact upd_same) rfl ?_)
  | ((with_reducible show rIxTF _ _ _ _); with_reducible refine r_ixT (by first | assumption | exact upd_same) rfl ?_)
  | ((with_reducible show rSetL _ _ _ _ _); with_reducible refine r_setL (by first | assumption | exact upd_same) rfl ?_)
  | ((with_reducible show cLen _ _ _); with_reducible refine r_len (by first | exact sqAt_lst (by assumption) | exact sqAt_tup (by assumption) | exact sqAt_lst upd_same | exact sqAt_tup upd_same) ?_)
  | ((with_reducible show rSlLF _ _ _ _ _); with_reducible refine r_slL (by first | assumption | exact upd_same) ?_)
  | ((with_reducible show gTupF _ _ _ _ _ _); with_reducible refine r_gtup (by first | assumption | exact upd_same) rfl ?_)
  | ((with_reducible show rI _ _ _ _ _ _); first | with_reducible refine r_mod (by omega) ?_ | with_reducible refine r_div (by omega) (by omega) ?_ | with_reducible refine r_mulL (by omega) (by omega) ?_ | with_reducible refine r_mulR (by omega) (by omega) ?_ | with_reducible refine r_pow (by omega) (by omega) (by decide) ?_))
local macro_rules | `(tactic| walk_at "rd") => `(tactic| repeat (first | walk_at "rd1" | (dsimp only; walk_at "rd1")))
def top (i : Nat) : Stmt := PySem.Challenge.pw_evenblocks_k44_turned_refused.main.body.getD i (.Pass ⟨0, 0, 0, 0⟩)
abbrev boxO (b0 b1 b2 : Int) : HO := .lst [.int b0, .int b1, .int b2]
structure BoxOk (b0 b1 b2 : Int) : Prop where
  h0 : 0 ≤ b0
  h1 : 0 ≤ b1
  h2 : b1 < 2147483647
def BoxAt (H : Hp) (q : Addr) : Prop := ∃ b0 b1 b2, H q = some (boxO b0 b1 b2) ∧ BoxOk b0 b1 b2
def spNext : Sp := fun vs H Q _ => ∃ (q : Addr) (m b0 b1 b2 : Int), vs = [.ref q, .int m] ∧ H q = some (boxO b0 b1 b2) ∧ BoxOk b0 b1 b2 ∧ 0 < m ∧ m < 1000000000000000000000000000000000000000000000000000000000001 ∧
  ∀ r c0 c1 c2, 0 ≤ r → r < m → BoxOk c0 c1 c2 → Q (.int r) (upd H q (boxO c0 c1 c2))
def spBox (K : PySem.W.Frag) : Sp := fun vs H Q _ => ∃ (a : Addr) (k : Int) (ns : List Int), vs = [.ref a, .int k] ∧ SqL K H a (ns.map V.int) ∧ 0 ≤ k ∧ k < 1000 ∧
  ∀ q b0 b1 b2, H q = none → BoxOk b0 b1 b2 → Q (.ref q) (upd H q (boxO b0 b1 b2))
def Blk (m : Int) (b : List Int) : Prop := b.Pairwise (· < ·) ∧ ∀ x ∈ b, 0 ≤ x ∧ x < m
def spBlock : Sp := fun vs H Q _ => ∃ (q : Addr) (m : Int), vs = [.ref q, .int m] ∧ BoxAt H q ∧ 0 < m ∧ m ≤ 1000 ∧
  ∀ (t : Addr) (b : List Int) (H' : Hp), H t = none → Blk m b → (b.length : Int) ≤ m → BoxAt H' q → H' t = some (.tup (b.map V.int)) → Sam1 q H H' → Q (.ref t) H'
def spMasks (K : PySem.W.Frag) : Sp := fun vs H Q _ => ∃ (a : Addr) (st m most : Int) (ns : List Int), vs = [.ref a, .int st, .int m, .int most] ∧ SqL K H a (ns.map V.int) ∧ ns.length ≤ 63 ∧ 0 ≤ st ∧ st ≤ 63 ∧ 0 ≤ most ∧ most ≤ 100 ∧ 0 < m ∧ m ≤ 1000 ∧
  ∀ (r : Addr) (bs : List (List Int)) (H' : Hp), Same H H' → H r = none → Blks H' r bs → bs.length ≤ 63 → (∀ b ∈ bs, Blk m b) → Q (.ref r) H'
def spOrder : Sp := fun vs H Q _ => ∃ (q : Addr) (m : Int), vs = [.ref q, .int m] ∧ BoxAt H q ∧ 0 ≤ m ∧ m ≤ 1000 ∧
  ∀ (r : Addr) (o : List Int) (H' : Hp), H r = none → H' r = some (.lst (o.map V.int)) → o.length = m.toNat → o.Nodup → (∀ x ∈ o, 0 ≤ x ∧ x < m) → BoxAt H' q → Sam1 q H H' → Q (.ref r) H'
section
variable {P : Program} {w : World} {K : PySem.W.Frag} {mg : Str → Option Value} {base : Heap}
abbrev sNext : Stmt := top 30
theorem scNext : FnScope ["_law_box_here", "_law_many", "_law_once", "_law_digit"] ["_law_box_here", "_law_many"] (defScope sNext) := ⟨rfl, rfl, rfl, by decide +kernel, rfl, by decide +kernel, by decide +kernel⟩
theorem has_next (F : FunAt K mg "_law_next" sNext ["_law_box_here", "_law_many"]) : Has P w K mg base 1 "_law_next" ["_law_box_here", "_law_many"] spNext := by
  refine F.has scNext (fun vs H Q E h => ?_) (fun f cdv A outer s H vs Q E hr h => ?_)
  · obtain ⟨q, m, b0, b1, b2, rfl, _⟩ := h
    rfl
  obtain ⟨q, m, b0, b1, b2, rfl, hq, ⟨g0, g1, g2⟩, m0, m1, k⟩ := h
  refine ⟨_, (pss_cons (ps_if (pt_cmpR op_gt (pe_ix ix_listF (pv 0) pe_int (fun _ _ => rfl)) pe_int (nomark _))
    (pss_cons (ps_set (i := 3) scNext.nd rfl (Or.inl rfl) (pe_op op_mod (pe_ix ix_listF (pv 0) pe_int (fun _ _ => rfl)) (pv 1)))
      (pss_cons (ps_asg (pe_op op_fdivW (pe_ix ix_listF (pv 0) pe_int (fun _ _ => rfl)) (pv 1)) (pg_sub (pv 0) pe_int set_list))
      (pss_one (ps_ret (pv 3)))))
    pss_nil)
    (pss_cons (ps_asg (pe_op op_add (pe_ix ix_listF (pv 0) pe_int (fun _ _ => rfl)) pe_int) (pg_sub (pv 0) pe_int set_list))
    (pss_cons (ps_asg (pe_op op_mod (pe_op op_add (pe_op op_add (pe_op op_mul (pe_ix ix_listF (pv 0) pe_int (fun _ _ => rfl)) (pe_op op_add pe_int (pe_op op_mul pe_int (pe_ix ix_listF (pv 0) pe_int (fun _ _ => rfl))))) (pe_op op_mul pe_int (pe_ix ix_listF (pv 0) pe_int (fun _ _ => rfl)))) pe_int) pe_int) (pg_sub (pv 0) pe_int set_list))
    (pss_cons (ps_set (i := 2) scNext.nd rfl (Or.inl rfl) (pe_op op_mod (pe_op op_mul (pe_ix ix_listF (pv 0) pe_int (fun _ _ => rfl)) (pe_op op_add (pe_op op_mod (pe_ix ix_listF (pv 0) pe_int (fun _ _ => rfl)) pe_int) pe_int)) pe_int))
    (pss_one (ps_ret (pe_op op_mod (pe_op op_add (pe_op op_fdiv (pv 2) pe_int) (pe_op op_mul (pe_op op_mod (pv 2) pe_int) pe_int)) (pv 1)))))))), ?_⟩
  walk_at "rd"
  refine r_if (fun c => ?_) (fun c => ?_)
  · walk_at "rd"
    refine r_fdivW m0 m1 ?_
    walk_at "rd"
    exact k _ _ _ _ (Int.emod_nonneg _ (by omega)) (Int.emod_lt_of_pos _ m0) ⟨Int.ediv_nonneg g0 (by omega), g1, g2⟩
  · walk_at "rd"
    dsimp only
    rw [upd_upd]
    exact k _ _ _ _ (Int.emod_nonneg _ (by omega)) (Int.emod_lt_of_pos _ m0) ⟨g0, Int.emod_nonneg _ (by decide), Int.emod_lt_of_pos _ (by decide)⟩
structure TxBox (mg : Str → Option Value) : Prop where
  len : mg "len" = none
  int : mg "int" = none
abbrev sBox : Stmt := top 29
theorem scBox : FnScope ["_law_script", "_law_k", "_law_cell"] ["_law_script", "_law_k"] (defScope sBox) := ⟨rfl, rfl, rfl, by decide +kernel, rfl, by decide +kernel, by decide +kernel⟩
theorem has_box (F : FunAt K mg "_law_box" sBox ["_law_script", "_law_k"]) (T : TxBox mg) : Has P w K mg base 1 "_law_box" ["_law_script", "_law_k"] (spBox K) := by
  refine F.has scBox (fun vs H Q E h => ?_) (fun f cdv A outer s H vs Q E hr h => ?_)
  · obtain ⟨a, k, ns, rfl, _⟩ := h
    rfl
  obtain ⟨a, k, ns, rfl, hS, k0, k1, kk⟩ := h
  refine ⟨_, (pss_cons (ps_set (i := 2) scBox.nd rfl (Or.inl rfl) pe_int)
    (pss_cons (ps_if (pt_cmpR op_lt (pv 1) (pe_callB k_lenK (by rfl) T.len (by decide +kernel) (pa_cons (pv 0) pa_nil)) (nomark _))
    (pss_one (ps_set (i := 2) scBox.nd rfl (Or.inl rfl) (pe_ix ix_list (pv 0) (pv 1) (fun _ _ => rfl))))
    pss_nil)
    (pss_one (ps_ret (pe_lst (pa_cons (pe_op op_mul (pv 2) (pe_callTy k_int (by rfl) T.int (by decide +kernel) (pa_cons (pe_cmpR op_ge (pv 2) (pe_op op_pow pe_int pe_int) (nomark _)) pa_nil))) (pa_cons (pe_op op_mod (pe_op op_mul (pe_op op_add (pe_op op_add (pe_op op_mod (pv 2) pe_int) (pe_op op_mul pe_int (pv 1))) pe_int) pe_int) pe_int) (pa_cons pe_int pa_nil)))))))), ?_⟩
  have tail : ∀ (c : Int) (p : Addr), H p = none → ∀ z : Int, z = (if decide ((10 : Int) ^ (18 : Int).toNat ≤ c) = true then 1 else 0) → 0 ≤ z → z ≤ 1 → Q (.ref p) (upd H p (boxO (c * z) ((c % 2147483629 + 7919 * k + 11) * 48271 % 2147483647) 0)) := by
    intro c p hp z hz z0 z1
    refine kk p _ _ _ hp ⟨?_, Int.emod_nonneg _ (by decide), Int.emod_lt_of_pos _ (by decide)⟩
    by_cases h : (10 : Int) ^ (18 : Int).toNat ≤ c
    · have : (0 : Int) ≤ c := Int.le_trans (by decide) h
      exact Int.mul_nonneg this z0
    · rw [decide_eq_false h] at hz
      have : z = 0 := hz
      rw [this, Int.mul_zero]; exact Int.le_refl _
  walk_at "rd"
  refine ⟨a, _, rfl, .inl hS, ?_⟩
  walk_at "rd"
  refine r_if (fun c => ?_) (fun c => ?_)
  · rw [List.length_map] at c
    obtain ⟨v, hv⟩ : ∃ v : Int, atI (ns.map V.int) k = some (.int v) := by
      have hk : k.toNat < ns.length := by omega
      exact ⟨ns[k.toNat], at_of (j := k.toNat) (by omega) (by rw [List.getElem?_map, List.getElem?_eq_getElem hk] <;> rfl)⟩
    walk_at "rd"
    refine ⟨a, _, k, _, rfl, rfl, hS, hv, ?_⟩
    walk_at "rd"
    exact ⟨by show 3 ≤ sizeLine; decide, fun p hp => tail v p hp _ (by assumption) (by assumption) (by assumption)⟩
  · walk_at "rd"
    exact ⟨by show 3 ≤ sizeLine; decide, fun p hp => tail 0 p hp _ (by assumption) (by assumption) (by assumption)⟩
structure TxBlock (P : Program) (w : World) (K : PySem.W.Frag) (mg : Str → Option Value) (base : Heap) : Prop where
  tuple : mg "tuple" = none
  range : mg "range" = none
  _law_next : Has P w K mg base 1 "_law_next" ["_law_box_here", "_law_many"] spNext
abbrev sBlock : Stmt := top 31
theorem scBlock : FnScope ["_law_box_here", "_law_many", "_law_ways", "_law_thing"] ["_law_box_here", "_law_many"] (defScope sBlock) := ⟨rfl, rfl, rfl, by decide +kernel, rfl, by decide +kernel, by decide +kernel⟩
theorem has_block (F : FunAt K mg "_law_block" sBlock ["_law_box_here", "_law_many"]) (T : TxBlock P w K mg base) : Has P w K mg base 2 "_law_block" ["_law_box_here", "_law_many"] spBlock := by
  refine F.has scBlock (fun vs H Q E h => ?_) (fun f cdv A outer s H vs Q E hr h => ?_)
  · obtain ⟨q, m, rfl, _⟩ := h
    rfl
  obtain ⟨q, m, rfl, ⟨b0, b1, b2, hq, ok⟩, m0, m1, kk⟩ := h
  refine ⟨_, (pss_cons (ps_set (i := 2) scBlock.nd rfl (Or.inr rfl) (pe_ix ix_listF (pe_lst (pa_cons pe_int (pa_cons pe_int (pa_cons pe_int (pa_cons pe_int pa_nil))))) (pcall T._law_next hr (by decide) (by rfl) (pa_cons (pv 0) (pa_cons pe_int pa_nil))) (fun _ _ => rfl)))
    (pss_one (ps_ret (pe_callTy k_tuple (by rfl) T.tuple (by decide +kernel) (pa_cons (pe_lc (own := [("_law_thing", 3)]) (g := gName 3) (by rfl) scBlock.nd (pi_range1 (by rfl) T.range (pa_cons (pv 1) pa_nil)) (blkOk_by (own := [("_law_thing", 3)]) (N := ["_law_box_here", "_law_many", "_law_ways", "_law_thing"]) (sc := defScope sBlock) (by decide +kernel)) (fun _ _ _ _ _ => (pg_name (i := 3) scBlock.nd rfl (Or.inl rfl))) (fun _ _ _ _ _ => pts_one (pt_cmpR op_eq (pcall T._law_next hr (by decide) (by rfl) (pa_cons (pv 0) (pa_cons (pv 2) pa_nil))) pe_int (nomark _))) (fun _ _ _ _ _ => by exact (pv 3))) pa_nil))))), ?_⟩
  walk_at "rd"
  refine ⟨by show 4 ≤ sizeLine; decide, fun p hp => ?_⟩
  walk_at "rd"
  refine ⟨q, 4, b0, b1, b2, rfl, upk hq hp, ok, by decide, by decide, fun r c0 c1 c2 r0 r1 ok1 => ?_⟩
  obtain ⟨ways, hw, hm⟩ := atI_ints (ns := [2, 2, 3, 6]) r0 r1
  have hpq : p ≠ q := fun e => by rw [e, hq] at hp; cases hp
  have hw2 : 2 ≤ ways ∧ ways ≤ 6 := by
    simp only [List.mem_cons, List.not_mem_nil, or_false] at hm
    omega
  refine r_ixL (xs := [2, 2, 3, 6].map V.int) ((upd_ne hpq).trans upd_same) hw ?_
  walk_at "rd"
  refine ⟨m, rfl, by omega, by omega, fun D hD => ?_⟩
  have hDq : D ≠ q := fun e => by rw [e, upd_same] at hD; cases hD
  have hDp : D ≠ p := fun e => by rw [e, upd_ne hpq, upd_same] at hD; cases hD
  have hDn : H D = none := by rw [upd_ne hDq, upd_ne hDp] at hD; exact hD
  refine lc_range (fun i H' => ∃ b : List Int, H' D = some (.lst (b.map V.int)) ∧ BoxAt H' q ∧ Sam1 q H H' ∧ b.Pairwise (· < ·) ∧ (∀ x ∈ b, 0 ≤ x ∧ x < (i : Int)) ∧ b.length ≤ i) ?_ ?_ ?_
  · refine ⟨[], upd_same, ⟨c0, c1, c2, by rw [upd_ne (Ne.symm hDq), upd_same], ok1⟩, ?_, .nil, by simp, Nat.le_refl _⟩
    exact ((((Same.new hp _).one).trans (Sam1.upd _ _ _)).late hDn _)
  · rintro i H1 hi ⟨b, e, ⟨d0, d1, d2, hq1, ok2⟩, sm, pw, rg, lb⟩
    refine r_name ⟨rfl, ?_⟩
    walk_at "rd"
    refine ⟨q, ways, d0, d1, d2, rfl, hq1, ok2, by omega, by omega, fun r' e0 e1 e2 _ _ ok3 => ?_⟩
    walk_at "rd"
    refine r_if (fun c => ?_) (fun c => ?_)
    · walk_at "rd"
      refine ⟨b.map V.int, by rw [upd_ne hDq]; exact e, by rw [List.length_map]; exact small1000 (by omega), ?_⟩
      refine ⟨b ++ [0 + (i : Int)], by rw [upd_same, List.map_append]; rfl, ⟨e0, e1, e2, by rw [upd_ne (Ne.symm hDq), upd_same], ok3⟩, ?_, ?_, ?_, by simp; omega⟩
      · exact ((sm.trans (Sam1.upd _ _ _)).late hDn _)
      · refine List.pairwise_append.mpr ⟨pw, List.pairwise_singleton _ _, fun x hx y hy => ?_⟩
        have := List.mem_singleton.mp hy
        have := rg x hx
        omega
      · intro x hx
        rcases List.mem_append.mp hx with hx | hx
        · have := rg x hx; omega
        · have := List.mem_singleton.mp hx; omega
    · exact ⟨b, by rw [upd_ne hDq]; exact e, ⟨e0, e1, e2, upd_same, ok3⟩, sm.trans (Sam1.upd _ _ _), pw, fun x hx => by have := rg x hx; omega, by omega⟩
  · rintro H1 ⟨b, e, bx, sm, pw, rg, lb⟩
    walk_at "rd"
    refine r_tuple e fun l hl => ?_
    have hlq : l ≠ q := fun z => by obtain ⟨_, _, _, z2, _⟩ := bx; rw [z, z2] at hl; cases hl
    obtain ⟨d0, d1, d2, hq1, ok2⟩ := bx
    have hln : H l = none := sm.free hl hlq
    refine kk l b _ hln ⟨pw, fun x hx => by have := rg x hx; omega⟩ (by omega) ⟨d0, d1, d2, by rw [upd_ne (Ne.symm hlq)]; exact hq1, ok2⟩ upd_same (sm.late hln _)
structure TxMasks (P : Program) (w : World) (K : PySem.W.Frag) (mg : Str → Option Value) (base : Heap) : Prop where
  len : mg "len" = none
  min : mg "min" = none
  range : mg "range" = none
  _law_block : Has P w K mg base 2 "_law_block" ["_law_box_here", "_law_many"] spBlock
  _law_box : Has P w K mg base 1 "_law_box" ["_law_script", "_law_k"] (spBox K)
abbrev sMasks : Stmt := top 32
theorem scMasks : FnScope ["_law_script", "_law_start", "_law_many", "_law_most", "_law_k"] ["_law_script", "_law_start", "_law_many", "_law_most"] (defScope sMasks) := ⟨rfl, rfl, rfl, by decide +kernel, rfl, by decide +kernel, by decide +kernel⟩
theorem has_masks (F : FunAt K mg "_law_masks" sMasks ["_law_script", "_law_start", "_law_many", "_law_most"]) (T : TxMasks P w K mg base) : Has P w K mg base 3 "_law_masks" ["_law_script", "_law_start", "_law_many", "_law_most"] (spMasks K) := by
  refine F.has scMasks (fun vs H Q E h => ?_) (fun f cdv A outer s H vs Q E hr h => ?_)
  · obtain ⟨a, st, m, most, ns, rfl, _⟩ := h
    rfl
  obtain ⟨a, st, m, most, ns, rfl, hS, hl, s0, s1, t0, t1, m0, m1, kk⟩ := h
  refine ⟨_, (pss_one (ps_ret (pe_lc (own := [("_law_k", 4)]) (g := gName 4) (by rfl) scMasks.nd (pi_range2 (by rfl) T.range (pa_cons (pv 1) (pa_cons (pe_callB (k_min rfl) (by rfl) T.min (by decide +kernel) (pa_cons (pe_callB k_lenK (by rfl) T.len (by decide +kernel) (pa_cons (pv 0) pa_nil)) (pa_cons (pe_op op_add (pv 1) (pv 3)) pa_nil))) pa_nil))) (blkOk_by (own := [("_law_k", 4)]) (N := ["_law_script", "_law_start", "_law_many", "_law_most", "_law_k"]) (sc := defScope sMasks) (by decide +kernel)) (fun _ _ _ _ _ => (pg_name (i := 4) scMasks.nd rfl (Or.inl rfl))) (fun _ _ _ _ _ => pts_nil) (fun _ _ _ _ _ => by exact (pcall T._law_block hr (by decide) (by rfl) (pa_cons (pcall T._law_box hr (by decide) (by rfl) (pa_cons (pv 0) (pa_cons (pv 4) pa_nil))) (pa_cons (pv 2) pa_nil))))))), ?_⟩
  walk_at "rd"
  refine ⟨a, _, rfl, .inl hS, ?_⟩
  walk_at "rd"
  obtain ⟨e, he, e0, e1⟩ : ∃ e : Int, (if st + most < (((ns.map V.int).length : Nat) : Int) then st + most else (((ns.map V.int).length : Nat) : Int)) = e ∧ 0 ≤ e ∧ e ≤ 63 := by
    rw [List.length_map]
    refine ⟨_, rfl, ?_, ?_⟩ <;> split <;> omega
  rw [he]
  refine ⟨st, e, rfl, ⟨by omega, by omega, by omega, by omega⟩, fun D hD => ?_⟩
  refine lc_range (fun i H' => ∃ (ps : List Addr) (bs : List (List Int)), H' D = some (.lst (ps.map V.ref)) ∧ TupsAt H' ps bs ∧ Same H H' ∧ (∀ b ∈ bs, Blk m b) ∧ bs.length = i) ?_ ?_ ?_
  · exact ⟨[], [], upd_same, .nil _, Same.new hD _, by simp, rfl⟩
  · rintro i H1 hi ⟨ps, bs, e2, tu, sm, bk, lb⟩
    refine r_name ⟨rfl, ?_⟩
    walk_at "rd"
    refine ⟨a, st + (i : Int), ns, rfl, sm.seq hS, by omega, by omega, fun q b0 b1 b2 hq ok => ?_⟩
    walk_at "rd"
    refine ⟨q, m, rfl, ⟨b0, b1, b2, upd_same, ok⟩, m0, m1, fun t b H2 ht blk lbk bx et s2 => ?_⟩
    have keep : ∀ c o, H1 c = some o → H2 c = some o := fun c o hc => s2 c o (upk hc hq) (ne_of_none hc hq)
    have hDt : t ≠ D := ne_of et (keep _ _ e2) (by intro z; cases z)
    refine ⟨ps.map V.ref, keep _ _ e2, by rw [List.length_map, tu.1]; exact small1000 (by omega), ?_⟩
    refine ⟨ps ++ [t], bs ++ [b], by rw [upd_same, List.map_append]; rfl, ?_, ?_, ?_, by simp [lb]⟩
    · refine TupsAt.snoc (tu.mono fun p o hp e3 => ?_) (by rw [upd_ne hDt]; exact et)
      obtain ⟨j, hj⟩ := List.mem_iff_getElem?.mp hp
      obtain ⟨b', _, e4⟩ := tu.get hj
      rw [upd_ne (ne_of e4 e2 (by intro z; cases z))]
      exact keep _ _ e3
    · exact Same.late (fun c o hc => keep c o (sm c o hc)) hD _
    · intro b' hb'
      rcases List.mem_append.mp hb' with h | h
      · exact bk b' h
      · rw [List.mem_singleton.mp h]; exact blk
  · rintro H1 ⟨ps, bs, e2, tu, sm, bk, lb⟩
    exact kk D bs H1 sm hD ⟨ps, e2, tu⟩ (by omega) bk
structure TxOrder (P : Program) (w : World) (K : PySem.W.Frag) (mg : Str → Option Value) (base : Heap) : Prop where
  range : mg "range" = none
  _law_next : Has P w K mg base 1 "_law_next" ["_law_box_here", "_law_many"] spNext
abbrev sOrder : Stmt := top 34
theorem scOrder : FnScope ["_law_box_here", "_law_many", "_law_order_here", "_law_thing"] ["_law_box_here", "_law_many"] (defScope sOrder) := ⟨rfl, rfl, rfl, by decide +kernel, rfl, by decide +kernel, by decide +kernel⟩
theorem has_order (F : FunAt K mg "_law_order" sOrder ["_law_box_here", "_law_many"]) (T : TxOrder P w K mg base) : Has P w K mg base 2 "_law_order" ["_law_box_here", "_law_many"] spOrder := by
  refine F.has scOrder (fun vs H Q E h => ?_) (fun f cdv A outer s H vs Q E hr h => ?_)
  · obtain ⟨q, m, rfl, _⟩ := h
    rfl
  obtain ⟨q, m, rfl, bx, m0, m1, kk⟩ := h
  refine ⟨_, (pss_cons (ps_set (i := 2) scOrder.nd rfl (Or.inl rfl) (pe_lst pa_nil))
    (pss_cons (ps_for PassesOwn.never rfl (pi_range1 (by rfl) T.range (pa_cons (pv 1) pa_nil)) (pg_name (i := 3) scOrder.nd rfl (Or.inl rfl))
    (pss_one (ps_expr (pe_bm PySem.F.plainAttrs_list PySem.F.slot_list_insert PySem.F.type_list_insert mt_insert (pv 2) (pa_cons (pcall T._law_next hr (by decide) (by rfl) (pa_cons (pv 0) (pa_cons (pe_op op_add (pv 3) pe_int) pa_nil))) (pa_cons (pv 3) pa_nil))))))
    (pss_one (ps_ret (pv 2))))), ?_⟩
  walk_at "rd"
  refine ⟨by show 0 ≤ sizeLine; decide, fun r hr' => ?_⟩
  obtain ⟨b0, b1, b2, hq, ok⟩ := bx
  have hrq : r ≠ q := fun e => by rw [e, hq] at hr'; cases hr'
  walk_at "rd"
  refine ⟨m, rfl, by omega, by omega, ?_⟩
  refine for_range (fun i σ H1 => ∃ (o : List Int) (v : Option V), σ = [some (.ref q), some (.int m), some (.ref r), v] ∧ H1 r = some (.lst (o.map V.int)) ∧ o.length = i ∧ o.Nodup ∧ (∀ x ∈ o, 0 ≤ x ∧ x < (i : Int)) ∧ BoxAt H1 q ∧ Sam1 q H H1) ?_ ?_ ?_
  · exact ⟨[], none, rfl, upd_same, rfl, List.nodup_nil, by simp, ⟨b0, b1, b2, upk hq hr', ok⟩, (Same.new hr' _).one⟩
  · rintro i σ H1 hi ⟨o, v, rfl, e, lo, nd, rg, ⟨d0, d1, d2, hq1, ok1⟩, sm⟩
    walk_at "rd"
    refine ⟨.inl ⟨rfl, _, SqL.of e⟩, ?_⟩
    walk_at "rd"
    refine ⟨q, 0 + (i : Int) + 1, d0, d1, d2, rfl, hq1, ok1, by omega, by omega, fun z c0 c1 c2 z0 z1 ok2 => ?_⟩
    walk_at "rd"
    refine r_insert (by rw [upd_ne hrq]; exact e) z0 (by omega) (by rw [List.length_map]; exact small1000 (by omega)) ?_
    refine ⟨o.take z.toNat ++ (0 + (i : Int)) :: o.drop z.toNat, _, rfl, ?_, ?_, ?_, ?_, ⟨c0, c1, c2, by rw [upd_ne (Ne.symm hrq), upd_same], ok2⟩, ?_⟩
    · rw [upd_same, List.map_append, List.map_cons, List.map_take, List.map_drop]
    · rw [List.length_append, List.length_cons, List.length_take, List.length_drop]; omega
    · have hp : (o.take z.toNat ++ (0 + (i : Int)) :: o.drop z.toNat).Perm ((0 + (i : Int)) :: o) := by
        refine List.perm_middle.trans ?_
        rw [List.take_append_drop]
      refine hp.nodup_iff.mpr (List.nodup_cons.mpr ⟨fun hm => ?_, nd⟩)
      have := rg _ hm
      omega
    · intro x hx
      have hx' : x = 0 + (i : Int) ∨ x ∈ o := by
        rcases List.mem_append.mp hx with h | h
        · exact .inr (List.mem_of_mem_take h)
        · rcases List.mem_cons.mp h with h | h
          · exact .inl h
          · exact .inr (List.mem_of_mem_drop h)
      rcases hx' with h | h
      · omega
      · have := rg x h; omega
    · exact (sm.trans (Sam1.upd _ _ _)).late hr' _
  · rintro σ H1 ⟨o, v, rfl, e, lo, nd, rg, bx1, sm⟩
    walk_at "rd"
    exact kk r o H1 hr' e lo nd (fun x hx => by have := rg x hx; omega) bx1 sm
end
end My
set_option Elab.async false
set_option linter.all false
set_option maxRecDepth 100000
namespace My
open PySem L2
local macro_rules | `(tactic| walk_at "rd1") => `(tactic| first
  | with_reducible refine r_seq ?_ | with_reducible refine r_asg ?_ | with_reducible refine r_name ?_ | with_reducible refine r_ret ?_ | with_reducible refine r_drop ?_ | with_reducible refine r_ifs ?_ | with_reducible refine r_next ?_
  | with_reducible refine r_var rfl ?_ | with_reducible refine r_c ?_ | with_reducible refine r_op ?_ | with_reducible refine r_I0 ?_
  | with_reducible refine r_test ?_ | with_reducible refine r_b ?_ | with_reducible refine r_k ?_ | with_reducible refine r_cons ?_ | with_reducible refine r_nil ?_ | with_reducible refine r_call ?_ | with_reducible refine r_cb ?_
  | with_reducible refine r_lst ?_ | with_reducible refine r_tup ?_ | with_reducible refine r_sub ?_ | with_reducible refine r_andV ?_ | with_reducible refine r_orV ?_ | with_reducible refine r_notV ?_
  | with_reducible refine r_and ?_ | with_reducible refine r_or ?_ | with_reducible refine r_not ?_ | with_reducible refine r_eqI ?_ | with_reducible refine r_neI ?_ | with_reducible refine r_aug rfl ?_ | with_reducible refine r_ipI ?_ | with_reducible refine r_un ?_
  | with_reducible refine r_bm ?_ | with_reducible refine r_bm0 ?_ | with_reducible refine r_yes ?_
  | with_reducible refine r_U ?_ | with_reducible refine r_lit ?_
  | with_reducible refine r_fb ?_ | with_reducible refine r_m1 ?_ | with_reducible refine r_augS ?_ | with_reducible refine r_isNn ?_ | with_reducible refine r_notNn ?_ | with_reducible refine r_isNr ?_ | with_reducible refine r_notNr ?_ | with_reducible refine r_tru ?_ | with_reducible refine r_count ?_
  | with_reducible refine r_for ?_ | with_reducible refine r_lc ?_ | with_reducible refine r_rng1 ?_ | with_reducible refine r_rng2 ?_ | with_reducible refine r_ilist ?_ | with_reducible refine r_itup ?_ | with_reducible refine r_enum ?_
  | with_reducible refine r_sl ?_ | with_reducible refine r_nopart ?_ | with_reducible refine r_part ?_ | with_reducible refine r_int ?_ | with_reducible refine r_gcons ?_ | with_reducible refine r_gnil ?_ | with_reducible refine r_revT ?_
  | with_reducible refine r_intB (fun z hz z0 z1 => ?_) | with_reducible refine r_intI ?_ | with_reducible refine r_min2 ?_ | with_reducible refine r_max2 ?_ | with_reducible refine r_rng1V ?_ | with_reducible refine r_rng2V ?_
  | with_reducible refine iteT ?_ | with_reducible refine iteF ?_ | with_reducible refine r_nf ?_ | with_reducible refine r_nt ?_
  | with_reducible refine r_ii ?_ | with_reducible refine r_ib ?_
  | ((with_reducible show rIxLF _ _ _ _); with_reducible refine r_ixL (by first | assumption | exact upd_same) rfl ?_)
  | ((with_reducible show rIxTF _ _ _ _); with_reducible refine r_ixT (by first | assumption | exact upd_same) rfl ?_)
  | ((with_reducible show rSetL _ _ _ _ _); with_reducible refine r_setL (by first | assumption | exact upd_same) rfl ?_)
  | ((with_reducible show cLen _ _ _); with_reducible refine r_len (by first | exact sqAt_lst (by assumption) | exact sqAt_tup (by assumption) | exact sqAt_lst upd_same | exact sqAt_tup upd_same) ?_)
  | ((with_reducible show rSlLF _ _ _ _ _); with_reducible refine r_slL (by first | assumption | exact upd_same) ?_)
  | ((with_reducible show gTupF _ _ _ _ _ _); with_reducible refine r_gtup (by first | assumption | exact upd_same) rfl ?_)
  | ((with_reducible show rI _ _ _ _ _ _); first | with_reducible refine r_mod (by omega) ?_ | with_reducible refine r_div (by omega) (by omega) ?_ | with_reducible refine r_mulL (by omega) (by omega) ?_ | with_reducible refine r_mulR (by omega) (by omega) ?_ | with_reducible refine r_pow (by omega) (by omega) (by decide) ?_))
local macro_rules | `(tactic| walk_at "rd") => `(tactic| repeat (first | walk_at "rd1" | (dsimp only; walk_at "rd1")))
def spFew : Sp := fun vs H Q _ => ∃ (m : Int) (k : Nat), vs = [.int m, .int (k : Int)] ∧ 0 ≤ m ∧ m ≤ 1000 ∧ k ≤ 100 ∧ (∀ j ≤ k, (fewF m j).length ≤ 100000) ∧ ∀ r H', Same H H' → Blks H' r (fewF m k) → Q (.ref r) H'
def spRolled : Sp := fun vs H Q _ => ∃ (m : Int) (a : Addr) (bases : List (List Int)), vs = [.int m, .ref a] ∧ Blks H a bases ∧ 0 < m ∧ m ≤ 100 ∧ bases.length ≤ 20 ∧ (∀ b ∈ bases, b.length < 64 ∧ b.Nodup ∧ ∀ x ∈ b, 0 ≤ x ∧ x < m) ∧
  ∀ r H' bs, Same H H' → Blks H' r bs → bs.length = bases.length * m.toNat → (∀ b ∈ bs, Blk m b ∧ ∃ c ∈ bases, b.length = c.length) → Q (.ref r) H'
section
variable {P : Program} {w : World} {K : PySem.W.Frag} {mg : Str → Option Value} {base : Heap}
structure TxFew (mg : Str → Option Value) : Prop where
  range : mg "range" = none
  max : mg "max" = none
abbrev sFew : Stmt := top 33
theorem scFew : FnScope ["_law_many", "_law_few_here", "_law_found", "_law_turn", "_law_more", "_law_row", "_law_thing"] ["_law_many", "_law_few_here"] (defScope sFew) := ⟨rfl, rfl, rfl, by decide +kernel, rfl, by decide +kernel, by decide +kernel⟩
theorem has_few (F : FunAt K mg "_law_few" sFew ["_law_many", "_law_few_here"]) (T : TxFew mg) : Has P w K mg base 1 "_law_few" ["_law_many", "_law_few_here"] spFew := by
  refine F.has scFew (fun vs H Q E h => ?_) (fun f cdv A outer s H vs Q E hr h => ?_)
  · obtain ⟨m, k, rfl, _⟩ := h
    rfl
  obtain ⟨m, k, rfl, m0, m1, k1, sz, kk⟩ := h
  refine ⟨_, (pss_cons (ps_set (i := 2) scFew.nd rfl (Or.inl rfl) (lit_lst (lits_cons (lit_tup lits_nil (by decide)) lits_nil) (by decide)))
    (pss_cons (ps_for PassesOwn.never rfl (pi_range1 (by rfl) T.range (pa_cons (pv 1) pa_nil)) (pg_name (i := 3) scFew.nd rfl (Or.inl rfl))
    (pss_cons (ps_set (i := 4) scFew.nd rfl (Or.inl rfl) (pe_lst pa_nil))
      (pss_cons (ps_for PassesOwn.never rfl (pi_list (pv 2)) (pg_name (i := 5) scFew.nd rfl (Or.inr rfl))
      (pss_one (ps_expr (pe_bm PySem.F.plainAttrs_list PySem.F.slot_list_extend PySem.F.type_list_extend mt_extend (pv 4) (pa_cons (pe_lc (own := [("_law_thing", 6)]) (g := gName 6) (by rfl) scFew.nd (pi_range2 (by rfl) T.range (pa_cons (pe_op op_add (pe_callB (k_maxT rfl) (by rfl) T.max (by decide +kernel) (pa_cons (pe_op op_catTF (pe_tup (pa_cons (pe_un un_neg pe_int) pa_nil)) (pv 5)) pa_nil)) pe_int) (pa_cons (pv 0) pa_nil))) (blkOk_by (own := [("_law_thing", 6)]) (N := ["_law_many", "_law_few_here", "_law_found", "_law_turn", "_law_more", "_law_row", "_law_thing"]) (sc := defScope sFew) (by decide +kernel)) (fun _ _ _ _ _ => (pg_name (i := 6) scFew.nd rfl (Or.inl rfl))) (fun _ _ _ _ _ => pts_nil) (fun _ _ _ _ _ => by exact (pe_op op_catTF (pv 5) (pe_tup (pa_cons (pv 6) pa_nil))))) pa_nil)))))
      (pss_one (ps_set (i := 2) scFew.nd rfl (Or.inl rfl) (pv 4))))))
    (pss_one (ps_ret (pv 2))))), ?_⟩
  walk_at "rd"
  intro v H1 s1 h1
  obtain ⟨rf, rfl, hb1⟩ := DF.blks (bs := [[]]) h1
  walk_at "rd"
  refine ⟨(k : Int), rfl, by omega, by omega, ?_⟩
  refine for_range (fun i σ H2 => ∃ (rf : Addr) (v3 v4 v5 v6 : Option V), σ = [some (.int m), some (.int (k : Int)), some (.ref rf), v3, v4, v5, v6] ∧ Same H H2 ∧ Blks H2 rf (fewF m i)) ?_ ?_ ?_
  · exact ⟨rf, _, _, _, _, rfl, s1, hb1⟩
  · rintro i σ H2 hi ⟨rf, v3, v4, v5, v6, rfl, s2, hb2⟩
    obtain ⟨ps, ha, tu⟩ := id hb2
    walk_at "rd"
    refine ⟨by show 0 ≤ sizeLine; decide, fun q hq => ?_⟩
    have g3 := Same.new hq (.lst [])
    have e3 : upd H2 q (.lst []) q = some (.lst []) := upd_same
    generalize upd H2 q (.lst []) = H3 at g3 e3
    walk_at "rd"
    refine ⟨rf, rfl, ⟨_, SqL.of (g3 _ _ ha)⟩, ?_⟩
    refine for_list (xs := ps.map V.ref) (fun j σ H4 => ∃ (v5 v6 : Option V) (qs : List Addr), σ = [some (.int m), some (.int (k : Int)), some (.ref rf), some (.int (0 + (i : Int))), some (.ref q), v5, v6] ∧ Same H2 H4 ∧ H4 q = some (.lst (qs.map V.ref)) ∧ TupsAt H4 qs (((fewF m i).take j).flatMap (extF m))) ?_ ?_ ?_ ?_
    · exact ⟨_, _, [], rfl, g3, e3, .nil _⟩
    · rintro j σ H4 _ ⟨_, _, _, _, sm, _⟩
      exact SqL.of (sm _ _ ha)
    · rintro j y σ H4 hy ⟨v5, v6, qs, rfl, s4, e4, t4⟩
      obtain ⟨pr, rfl, hpr⟩ := nth_refs hy
      obtain ⟨row, hrow, er⟩ := tu.get hpr
      walk_at "rd"
      refine ⟨.inl ⟨rfl, _, SqL.of e4⟩, ?_⟩
      walk_at "rd"
      refine ⟨by show 1 ≤ sizeLine; decide, fun p5 hp5 => ?_⟩
      walk_at "rd"
      have rlen : row.length = i := (fewF_ok m i row (List.mem_of_getElem? hrow)).1
      refine r_catTF (xs := [-1].map V.int) (ys := row.map V.int) upd_same (upk (s4 _ _ er) hp5) (by rw [List.length_map, List.length_map, rlen]; show 1 + i ≤ _; exact Nat.le_of_lt (small1000 (by omega))) fun p6 H6 s6 e6 => ?_
      rw [← List.map_append] at e6
      walk_at "rd"
      refine r_maxT e6 (by simp) fun z hz1 hz2 => ?_
      have ez : mx row = z := mx_is hz1 hz2
      subst ez
      have g6 : Same H4 H6 := (Same.new hp5 _).trans s6
      have hg := mx_ge row
      have hmx : mx row ≤ 1000 := by
        rcases List.mem_cons.mp hz1 with h | h
        · omega
        · have := (fewF_ok m i row (List.mem_of_getElem? hrow)).2.2 _ h; omega
      walk_at "rd"
      refine ⟨mx row + 1, m, rfl, ⟨by omega, by omega, by omega, by omega⟩, fun D hD => ?_⟩
      refine lc_range (lo := mx row + 1) (n := (m - (mx row + 1)).toNat) (fun t H7 => ∃ ts : List Addr, H7 D = some (.lst (ts.map V.ref)) ∧ TupsAt H7 ts ((rngV (mx row + 1) t).map fun x => row ++ [x]) ∧ Same H6 H7) ?_ ?_ ?_
      · exact ⟨[], upd_same, .nil _, Same.new hD _⟩
      · rintro t H7 ht ⟨ts, e7, t7, s7⟩
        refine r_name ⟨rfl, ?_⟩
        walk_at "rd"
        refine ⟨by show 1 ≤ sizeLine; decide, fun p8 hp8 => ?_⟩
        walk_at "rd"
        refine r_catTF (xs := row.map V.int) (ys := [mx row + 1 + (t : Int)].map V.int) (upk (s7 _ _ (g6 _ _ (s4 _ _ er))) hp8) upd_same (by rw [List.length_map, List.length_map, rlen]; show i + 1 ≤ _; exact Nat.le_of_lt (small1000 (by omega))) fun p9 H9 s9 e9 => ?_
        rw [← List.map_append] at e9
        have g9 : Same H7 H9 := (Same.new hp8 _).trans s9
        have e79 := g9 _ _ e7
        have tl : ts.length = t := by rw [t7.1, List.length_map, rngV_length]
        refine ⟨ts.map V.ref, e79, by rw [List.length_map, tl]; exact small1000 (by omega), ?_⟩
        refine ⟨ts ++ [p9], by rw [upd_same, List.map_append]; rfl, ?_, ?_⟩
        · rw [rngV_succ, List.map_append]
          exact ((t7.same g9).late e79 _).snoc (by rw [upd_ne (ne_of e9 e79 (by intro z; cases z))]; exact e9)
        · exact (s7.trans g9).late hD _
      · rintro H7 ⟨ts, e7, t7, s7⟩
        walk_at "rd"
        have g7 := g6.trans s7
        have hDq : D ≠ q := fun z => by rw [z, g6 _ _ e4] at hD; cases hD
        have ef : ((fewF m i).take (j + 1)).flatMap (extF m) = ((fewF m i).take j).flatMap (extF m) ++ extF m row := by rw [take_snoc hrow, flat_snoc]
        refine r_extend (g7 _ _ e4) e7 ?_ ?_
        · have z1 := flat_take_le (extF m) (fewF m i) (j + 1)
          have z2 : ((fewF m i).flatMap (extF m)).length ≤ 100000 := sz (i + 1) (by omega)
          rw [ef, List.length_append] at z1
          rw [List.length_map, List.length_map, t4.1, t7.1]
          show _ + (extF m row).length ≤ 16777216
          omega
        · refine ⟨_, _, qs ++ ts, rfl, (s4.trans g7).late hq _, by rw [upd_same, List.map_append], ?_⟩
          rw [ef]
          exact ((t4.same g7).append t7).late (g7 _ _ e4) _
    · rintro σ H4 ⟨v5, v6, qs, rfl, s4, e4, t4⟩
      rw [List.length_map, tu.1, List.take_length] at t4
      walk_at "rd"
      exact ⟨q, _, _, _, _, rfl, s2.trans s4, qs, e4, t4⟩
  · rintro σ H2 ⟨rf, v3, v4, v5, v6, rfl, s2, hb2⟩
    have ek : ((k : Int)).toNat = k := by omega
    rw [ek] at hb2
    walk_at "rd"
    exact kk rf H2 s2 hb2
structure TxRolled (mg : Str → Option Value) : Prop where
  range : mg "range" = none
  tuple : mg "tuple" = none
  sorted : mg "sorted" = none
theorem mod_inj {m x y t : Int} (hm : 0 < m) (hx : 0 ≤ x) (hx' : x < m) (hy : 0 ≤ y) (hy' : y < m) (h : (x + t) % m = (y + t) % m) : x = y := by
  have h1 : (x + t - (y + t)) % m = 0 := Int.emod_eq_emod_iff_emod_sub_eq_zero.mp h
  have h2 : m ∣ (x - y) := by
    have e : x + t - (y + t) = x - y := by omega
    rw [e] at h1
    exact Int.dvd_of_emod_eq_zero h1
  obtain ⟨c, hc⟩ := h2
  by_cases c0 : c = 0
  · rw [c0, Int.mul_zero] at hc; omega
  · exfalso
    by_cases cp : 0 < c
    · have : m * 1 ≤ m * c := Int.mul_le_mul_of_nonneg_left (by omega) (by omega)
      omega
    · have : m * c ≤ m * (-1) := Int.mul_le_mul_of_nonneg_left (by omega) (by omega)
      omega
theorem nodup_map_mod {m t : Int} (hm : 0 < m) : ∀ {b : List Int}, b.Nodup → (∀ x ∈ b, 0 ≤ x ∧ x < m) → (b.map fun x => (x + t) % m).Nodup
  | [], _, _ => List.nodup_nil
  | x :: b, h, hr => by
    obtain ⟨h1, h2⟩ := List.nodup_cons.mp h
    rw [List.map_cons]
    refine List.nodup_cons.mpr ⟨fun hmem => ?_, nodup_map_mod hm h2 fun y hy => hr y (List.mem_cons_of_mem _ hy)⟩
    obtain ⟨y, hy, e⟩ := List.mem_map.mp hmem
    have hx := hr x List.mem_cons_self
    have hy' := hr y (List.mem_cons_of_mem _ hy)
    have := mod_inj hm hy'.1 hy'.2 hx.1 hx.2 e
    subst this
    exact h1 hy
theorem strict_of {l : List Int} (h : l.Pairwise (· ≤ ·)) (nd : l.Nodup) : l.Pairwise (· < ·) := by
  have : l.Pairwise (fun a b => a ≤ b ∧ a ≠ b) := h.and nd
  exact this.imp fun ⟨h1, h2⟩ => by omega
abbrev sRolled : Stmt := top 35
theorem scRolled : FnScope ["_law_many", "_law_bases", "_law_blocks", "_law_base", "_law_turn", "_law_rest"] ["_law_many", "_law_bases"] (defScope sRolled) := ⟨rfl, rfl, rfl, by decide +kernel, rfl, by decide +kernel, by decide +kernel⟩
theorem has_rolled (F : FunAt K mg "_law_rolled" sRolled ["_law_many", "_law_bases"]) (T : TxRolled mg) : Has P w K mg base 1 "_law_rolled" ["_law_many", "_law_bases"] spRolled := by
  refine F.has scRolled (fun vs H Q E h => ?_) (fun f cdv A outer s H vs Q E hr h => ?_)
  · obtain ⟨m, a, bases, rfl, _⟩ := h
    rfl
  obtain ⟨m, a, bases, rfl, hb, m0, m1, lb, ok, kk⟩ := h
  refine ⟨_, (pss_cons (ps_set (i := 2) scRolled.nd rfl (Or.inl rfl) (pe_lst pa_nil))
    (pss_cons (ps_for PassesOwn.never rfl (pi_list (pv 1)) (pg_name (i := 3) scRolled.nd rfl (Or.inl rfl))
    (pss_one (ps_for PassesOwn.never rfl (pi_range1 (by rfl) T.range (pa_cons (pv 0) pa_nil)) (pg_name (i := 4) scRolled.nd rfl (Or.inr rfl))
      (pss_one (ps_expr (pe_bm PySem.F.plainAttrs_list PySem.F.slot_list_append PySem.F.type_list_append mt_append (pv 2) (pa_cons (pe_callTy k_tuple (by rfl) T.tuple (by decide +kernel) (pa_cons (pe_callB k_sortI (by rfl) T.sorted (by decide +kernel) (pa_cons (pe_lc (own := [("_law_rest", 5)]) (g := gName 5) (by rfl) scRolled.nd (pi_tup (pv 3)) (blkOk_by (own := [("_law_rest", 5)]) (N := ["_law_many", "_law_bases", "_law_blocks", "_law_base", "_law_turn", "_law_rest"]) (sc := defScope sRolled) (by decide +kernel)) (fun _ _ _ _ _ => (pg_name (i := 5) scRolled.nd rfl (Or.inl rfl))) (fun _ _ _ _ _ => pts_nil) (fun _ _ _ _ _ => by exact (pe_op op_mod (pe_op op_add (pv 5) (pv 4)) (pv 0)))) pa_nil)) pa_nil)) pa_nil)))))))
    (pss_one (ps_ret (pv 2))))), ?_⟩
  obtain ⟨ps, ha, tu⟩ := id hb
  walk_at "rd"
  refine ⟨by show 0 ≤ sizeLine; decide, fun q hq => ?_⟩
  have g1 := Same.new hq (.lst [])
  have e1 : upd H q (.lst []) q = some (.lst []) := upd_same
  generalize upd H q (.lst []) = H1 at g1 e1
  walk_at "rd"
  refine ⟨a, rfl, ⟨_, SqL.of (g1 _ _ ha)⟩, ?_⟩
  refine for_list (xs := ps.map V.ref) (fun i σ H2 => ∃ (v3 v4 v5 : Option V) (qs : List Addr) (bs : List (List Int)), σ = [some (.int m), some (.ref a), some (.ref q), v3, v4, v5] ∧ Same H H2 ∧ H2 q = some (.lst (qs.map V.ref)) ∧ TupsAt H2 qs bs ∧ bs.length = i * m.toNat ∧ ∀ b ∈ bs, Blk m b ∧ ∃ c ∈ bases, b.length = c.length) ?_ ?_ ?_ ?_
  · exact ⟨_, _, _, [], [], rfl, g1, e1, .nil _, by simp, by simp⟩
  · rintro i σ H2 _ ⟨_, _, _, _, _, _, sm, _⟩
    exact SqL.of (sm _ _ ha)
  · rintro i y σ H2 hy ⟨v3, v4, v5, qs, bs, rfl, s2, e2, t2, l2, p2⟩
    obtain ⟨pb, rfl, hpb⟩ := nth_refs hy
    obtain ⟨b, hbi, eb⟩ := tu.get hpb
    have hil : i < bases.length := (List.getElem?_eq_some_iff.mp hbi).1
    have hbm := List.mem_of_getElem? hbi
    obtain ⟨b64, bnd, brg⟩ := ok b hbm
    walk_at "rd"
    refine ⟨m, rfl, by omega, by omega, ?_⟩
    refine for_range (fun t σ H3 => ∃ (v4 v5 : Option V) (qs : List Addr) (bs : List (List Int)), σ = [some (.int m), some (.ref a), some (.ref q), some (.ref pb), v4, v5] ∧ Same H H3 ∧ H3 q = some (.lst (qs.map V.ref)) ∧ TupsAt H3 qs bs ∧ bs.length = i * m.toNat + t ∧ ∀ b ∈ bs, Blk m b ∧ ∃ c ∈ bases, b.length = c.length) ?_ ?_ ?_
    · exact ⟨_, _, qs, bs, rfl, s2, e2, t2, by rw [l2]; rfl, p2⟩
    · rintro t σ H3 ht ⟨v4, v5, qs, bs, rfl, s3, e3, t3, l3, p3⟩
      walk_at "rd"
      refine ⟨.inl ⟨rfl, _, SqL.of e3⟩, ?_⟩
      walk_at "rd"
      refine ⟨pb, rfl, ⟨_, SqT.of (s3 _ _ eb)⟩, fun D hD => ?_⟩
      refine lc_tup (xs := b.map V.int) (fun j H4 => H4 D = some (.lst (((b.take j).map fun x => (x + (0 + (t : Int))) % m).map V.int)) ∧ Same H3 H4) ?_ ?_ ?_ ?_
      · exact ⟨upd_same, Same.new hD _⟩
      · rintro j H4 _ ⟨_, s4⟩
        exact SqT.of (s4 _ _ (s3 _ _ eb))
      · rintro j x H4 hx ⟨e4, s4⟩
        obtain ⟨z, rfl, hz⟩ := nth_ints hx
        refine r_name ⟨rfl, ?_⟩
        walk_at "rd"
        refine ⟨_, e4, ?_, ?_, s4.late hD _⟩
        · rw [List.length_map, List.length_map, List.length_take]; exact small1000 (by omega)
        · rw [upd_same, take_snoc hz, List.map_append, List.map_append]; rfl
      · rintro H4 ⟨e4, s4⟩
        rw [List.length_map, List.take_length] at e4
        walk_at "rd"
        refine r_sortI e4 (by rw [List.length_map]; exact b64) fun ns' ps5 perm srt hp5 => ?_
        walk_at "rd"
        refine r_tuple upd_same fun tp htp => ?_
        walk_at "rd"
        have g5 := (s4.trans (Same.new hp5 (.lst (ns'.map V.int)))).trans (Same.new htp (.tup (ns'.map V.int)))
        have e5 := g5 _ _ e3
        have hbl : i * m.toNat + t < 10000 := by
          have h1 : i ≤ 19 := by omega
          have h2 : m.toNat ≤ 100 := by omega
          have : i * m.toNat ≤ 19 * 100 := Nat.mul_le_mul h1 h2
          omega
        refine r_append e5 (by rw [List.length_map, t3.1, l3]; show _ < 16777216; omega) ?_
        have htq : tp ≠ q := fun z => by rw [z, upd_same] at e5; cases e5
        have blk : Blk m ns' := by
          have nd : ns'.Nodup := perm.nodup_iff.mpr (nodup_map_mod m0 bnd brg)
          refine ⟨strict_of srt nd, fun x hx => ?_⟩
          obtain ⟨y, _, rfl⟩ := List.mem_map.mp (perm.mem_iff.mp hx)
          exact ⟨Int.emod_nonneg _ (by omega), Int.emod_lt_of_pos _ m0⟩
        refine ⟨_, _, qs ++ [tp], bs ++ [ns'], rfl, (s3.trans g5).late hq _, by rw [upd_same, List.map_append]; rfl, ((t3.same g5).late e5 _).snoc (by rw [upd_ne htq, upd_same]), by simp [l3]; omega, fun b' hb' => ?_⟩
        rcases List.mem_append.mp hb' with h | h
        · exact p3 b' h
        · rw [List.mem_singleton.mp h]
          exact ⟨blk, b, hbm, by rw [perm.length_eq, List.length_map]⟩
    · rintro σ H3 ⟨v4, v5, qs, bs, rfl, s3, e3, t3, l3, p3⟩
      exact ⟨_, _, _, qs, bs, rfl, s3, e3, t3, by rw [l3, Nat.succ_mul], p3⟩
  · rintro σ H2 ⟨v3, v4, v5, qs, bs, rfl, s2, e2, t2, l2, p2⟩
    rw [List.length_map, tu.1] at l2
    walk_at "rd"
    exact kk q H2 bs s2 ⟨qs, e2, t2⟩ l2 p2
end
end My
set_option Elab.async false
set_option linter.all false
set_option maxRecDepth 100000
namespace My
open PySem L2
local macro_rules | `(tactic| walk_at "rd1") => `(tactic| first
  | with_reducible refine r_seq ?_ | with_reducible refine r_asg ?_ | with_reducible refine r_name ?_ | with_reducible refine r_ret ?_ | with_reducible refine r_drop ?_ | with_reducible refine r_ifs ?_ | with_reducible refine r_next ?_
  | with_reducible refine r_var rfl ?_ | with_reducible refine r_c ?_ | with_reducible refine r_op ?_ | with_reducible refine r_I0 ?_
  | with_reducible refine r_test ?_ | with_reducible refine r_b ?_ | with_reducible refine r_k ?_ | with_reducible refine r_cons ?_ | with_reducible refine r_nil ?_ | with_reducible refine r_call ?_ | with_reducible refine r_cb ?_
  | with_reducible refine r_lst ?_ | with_reducible refine r_tup ?_ | with_reducible refine r_sub ?_ | with_reducible refine r_andV ?_ | with_reducible refine r_orV ?_ | with_reducible refine r_notV ?_
  | with_reducible refine r_and ?_ | with_reducible refine r_or ?_ | with_reducible refine r_not ?_ | with_reducible refine r_eqI ?_ | with_reducible refine r_neI ?_ | with_reducible refine r_aug rfl ?_ | with_reducible refine r_ipI ?_ | with_reducible refine r_un ?_
  | with_reducible refine r_bm ?_ | with_reducible refine r_bm0 ?_ | with_reducible refine r_yes ?_
  | with_reducible refine r_U ?_ | with_reducible refine r_lit ?_
  | with_reducible refine r_fb ?_ | with_reducible refine r_m1 ?_ | with_reducible refine r_augS ?_ | with_reducible refine r_isNn ?_ | with_reducible refine r_notNn ?_ | with_reducible refine r_isNr ?_ | with_reducible refine r_notNr ?_ | with_reducible refine r_tru ?_ | with_reducible refine r_count ?_
  | with_reducible refine r_for ?_ | with_reducible refine r_lc ?_ | with_reducible refine r_rng1 ?_ | with_reducible refine r_rng2 ?_ | with_reducible refine r_ilist ?_ | with_reducible refine r_itup ?_ | with_reducible refine r_enum ?_
  | with_reducible refine r_sl ?_ | with_reducible refine r_nopart ?_ | with_reducible refine r_part ?_ | with_reducible refine r_int ?_ | with_reducible refine r_gcons ?_ | with_reducible refine r_gnil ?_ | with_reducible refine r_revT ?_
  | with_reducible refine r_intB (fun z hz z0 z1 => ?_) | with_reducible refine r_intI ?_ | with_reducible refine r_min2 ?_ | with_reducible refine r_max2 ?_ | with_reducible refine r_rng1V ?_ | with_reducible refine r_rng2V ?_
  | with_reducible refine iteT ?_ | with_reducible refine iteF ?_ | with_reducible refine r_nf ?_ | with_reducible refine r_nt ?_
  | with_reducible refine r_ii ?_ | with_reducible refine r_ib ?_
  | ((with_reducible show rIxLF _ _ _ _); with_reducible refine r_ixL (by first | assumption | exact upd_same) rfl ?_)
  | ((with_reducible show rIxTF _ _ _ _); with_reducible refine r_ixT (by first | assumption | exact upd_same) rfl ?_)
  | ((with_reducible show rSetL _ _ _ _ _); with_reducible refine r_setL (by first | assumption | exact upd_same) rfl ?_)
  | ((with_reducible show cLen _ _ _); with_reducible refine r_len (by first | exact sqAt_lst (by assumption) | exact sqAt_tup (by assumption) | exact sqAt_lst upd_same | exact sqAt_tup upd_same) ?_)
  | ((with_reducible show rSlLF _ _ _ _ _); with_reducible refine r_slL (by first | assumption | exact upd_same) ?_)
  | ((with_reducible show gTupF _ _ _ _ _ _); with_reducible refine r_gtup (by first | assumption | exact upd_same) rfl ?_)
  | ((with_reducible show rI _ _ _ _ _ _); first | with_reducible refine r_mod (by omega) ?_ | with_reducible refine r_div (by omega) (by omega) ?_ | with_reducible refine r_mulL (by omega) (by omega) ?_ | with_reducible refine r_mulR (by omega) (by omega) ?_ | with_reducible refine r_pow (by omega) (by omega) (by decide) ?_))
local macro_rules | `(tactic| walk_at "rd") => `(tactic| repeat (first | walk_at "rd1" | (dsimp only; walk_at "rd1")))
def rowsL : List (Int × List (List Int)) := [(7, [[0, 1, 3]]), (13, [[0, 1, 3, 9]]), (11, [[1, 3, 4, 5, 9]]), (5, [[1, 4], [2, 3]]), (13, [[0, 1, 4], [0, 2, 7]]), (15, [[0, 1, 2, 4, 5, 8, 10]]), (21, [[0, 1, 4, 14, 16]])]
theorem rows_ok : ∀ r ∈ rowsL, 5 ≤ r.1 ∧ r.1 ≤ 21 ∧ r.2 ≠ [] ∧ r.2.length ≤ 2 ∧ (∀ b ∈ r.2, b.length < 64 ∧ b.Nodup ∧ (∀ x ∈ b, 0 ≤ x ∧ x < r.1) ∧ 2 ≤ b.length ∧ ∀ c ∈ r.2, b.length = c.length) := by decide +kernel
theorem few_ok : ∀ m ∈ ([2, 3, 4, 5, 6, 7] : List Int), (∀ j ∈ List.range 8, (fewF m j).length ≤ 35) ∧ ∀ j ∈ List.range 8, (j : Int) ≤ m → fewF m j ≠ [] := by decide +kernel
structure EvenPlan (H : Hp) (p : Addr) (m : Nat) (a : Addr) (bs : List (List Int)) (z : Nat) : Prop where
  pl : H p = some (.tup [.int (m : Int), .ref a])
  bl : Blks H a bs
  m2 : 2 ≤ m
  m21 : m ≤ 21
  ne : bs ≠ []
  le : bs.length ≤ 100
  ok : ∀ b ∈ bs, Blk (m : Int) b ∧ b.length = z
  z2 : 2 ≤ z
structure Mid (H H' : Hp) (q rb : Addr) (m z : Nat) (bs : List (List Int)) (n : Nat) : Prop where
  bx : BoxAt H' q
  sm : Sam1 q H H'
  bl : Blks H' rb bs
  m2 : 2 ≤ m
  m21 : m ≤ 21
  ne : bs ≠ []
  le : bs.length ≤ n
  ok : ∀ b ∈ bs, Blk (m : Int) b ∧ b.length = z
  z2 : 2 ≤ z
theorem Blks.box {H H' : Hp} {q r : Addr} {bs : List (List Int)} {b0 b1 b2 : Int} (h : Blks H r bs) (hq : H q = some (boxO b0 b1 b2)) (s : Sam1 q H H') (hr : r ≠ q) : Blks H' r bs := by
  obtain ⟨ps, e, tu⟩ := h
  exact ⟨ps, s _ _ e hr, tu.sam1 s fun xs z => by rw [hq] at z; cases z⟩
def spEvenL : Sp := fun vs H Q _ => ∃ (q : Addr), vs = [.ref q] ∧ BoxAt H q ∧ ∀ p m a bs z H', EvenPlan H' p m a bs z → BoxAt H' q → Sam1 q H H' → Q (.ref p) H'
section
variable {P : Program} {w : World} {K : PySem.W.Frag} {mg : Str → Option Value} {base : Heap}
structure TxEvenL (P : Program) (w : World) (K : PySem.W.Frag) (mg : Str → Option Value) (base : Heap) : Prop where
  range : mg "range" = none
  tuple : mg "tuple" = none
  sorted : mg "sorted" = none
  len : mg "len" = none
  _law_next : Has P w K mg base 1 "_law_next" ["_law_box_here", "_law_many"] spNext
  _law_rolled : Has P w K mg base 1 "_law_rolled" ["_law_many", "_law_bases"] spRolled
  _law_few : Has P w K mg base 1 "_law_few" ["_law_many", "_law_few_here"] spFew
  _law_order : Has P w K mg base 2 "_law_order" ["_law_box_here", "_law_many"] spOrder
abbrev sEven : Stmt := top 36
theorem scEven : FnScope ["_law_box_here", "_law_rows", "_law_way", "_law_order_here", "_law_blocks", "_law_many", "_law_bases", "_law_block_here", "_law_thing"] ["_law_box_here"] (defScope sEven) := ⟨rfl, rfl, rfl, by decide +kernel, rfl, by decide +kernel, by decide +kernel⟩
def valOf : Stmt → Expr
  | .Assign _ v _ => v
  | _ => .Constant .none 0 ⟨0, 0, 0, 0⟩
def rightOf : Expr → Expr
  | .BinOp _ _ b _ => b
  | e => e
abbrev stA : Stmt := (defBody sEven).getD 0 (.Pass ⟨0, 0, 0, 0⟩)
abbrev stB : Stmt := (defBody sEven).getD 1 (.Pass ⟨0, 0, 0, 0⟩)
def rows1 : PyData := .list (([(7, [[0, 1, 3]]), (13, [[0, 1, 3, 9]]), (11, [[1, 3, 4, 5, 9]]), (5, [[1, 4], [2, 3]])] : List (Int × List (List Int))).map dRow)
def rows2 : PyData := .list (([(13, [[0, 1, 4], [0, 2, 7]]), (15, [[0, 1, 2, 4, 5, 8, 10]]), (21, [[0, 1, 4, 14, 16]])] : List (Int × List (List Int))).map dRow)
theorem lit1 {X : Cx} : QE X (valOf stA) rows1 := by
  exact (q_lst (q_cons (q_tup (q_cons q_int (q_cons (q_lst (q_cons (q_tup (q_cons q_int (q_cons q_int (q_cons q_int q_nil)))) q_nil)) q_nil))) (q_cons (q_tup (q_cons q_int (q_cons (q_lst (q_cons (q_tup (q_cons q_int (q_cons q_int (q_cons q_int (q_cons q_int q_nil))))) q_nil)) q_nil))) (q_cons (q_tup (q_cons q_int (q_cons (q_lst (q_cons (q_tup (q_cons q_int (q_cons q_int (q_cons q_int (q_cons q_int (q_cons q_int q_nil)))))) q_nil)) q_nil))) (q_cons (q_tup (q_cons q_int (q_cons (q_lst (q_cons (q_tup (q_cons q_int (q_cons q_int q_nil))) (q_cons (q_tup (q_cons q_int (q_cons q_int q_nil))) q_nil))) q_nil))) q_nil)))))
theorem lit2 {X : Cx} : QE X (rightOf (valOf stB)) rows2 := by
  exact (q_lst (q_cons (q_tup (q_cons q_int (q_cons (q_lst (q_cons (q_tup (q_cons q_int (q_cons q_int (q_cons q_int q_nil)))) (q_cons (q_tup (q_cons q_int (q_cons q_int (q_cons q_int q_nil)))) q_nil))) q_nil))) (q_cons (q_tup (q_cons q_int (q_cons (q_lst (q_cons (q_tup (q_cons q_int (q_cons q_int (q_cons q_int (q_cons q_int (q_cons q_int (q_cons q_int (q_cons q_int q_nil)))))))) q_nil)) q_nil))) (q_cons (q_tup (q_cons q_int (q_cons (q_lst (q_cons (q_tup (q_cons q_int (q_cons q_int (q_cons q_int (q_cons q_int (q_cons q_int q_nil)))))) q_nil)) q_nil))) q_nil))))
structure QS (X : Cx) (st : Stmt) (t : TS) : Prop where
  h : PS X st t
structure QSs (X : Cx) (sts : List Stmt) (t : TS) : Prop where
  h : PSs X sts t
theorem unq {X : Cx} {sts : List Stmt} {G : TS → Prop} (h : ∃ t, QSs X sts t ∧ G t) : ∃ t, PSs X sts t ∧ G t := by
  obtain ⟨t, h1, h2⟩ := h
  exact ⟨t, h1.h, h2⟩
theorem qss_cons {X : Cx} {st : Stmt} {rest : List Stmt} {t u : TS} (h1 : QS X st t) (h2 : QSs X rest u) : QSs X (st :: rest) (tSeq t u) := ⟨pss_cons h1.h h2.h⟩
theorem asg_of {X : Cx} {i : Nat} {x : Str} {e : Expr} {te : TE} {pos pos' : Pos} (h1 : X.N.Nodup) (h2 : X.N[i]? = some x) (h3 : Loc X.env.scope x) (hf : X.fn x = true) (he : PE X e te) (hs : swapsWith e (some (.Name x pos')) pos.line X.env = pure false) : PS X (.Assign [.Name x pos'] e pos) (tAsg te (gName i)) := ps_set h1 h2 h3 he hs (Or.inl hf)
theorem asg_lit {X : Cx} {i : Nat} {x : Str} {e : Expr} {d : PyData} {pos pos' : Pos} (h1 : X.N.Nodup) (h2 : X.N[i]? = some x) (h3 : Loc X.env.scope x) (hf : X.fn x = true) (he : QE X e d) (hs : swapsWith e (some (.Name x pos')) pos.line X.env = pure false) : QS X (.Assign [.Name x pos'] e pos) (tAsg (tLit d) (gName i)) := ⟨asg_of h1 h2 h3 hf he.h hs⟩
theorem cat_lit {X : Cx} {i : Nat} {x : Str} {e : Expr} {d : PyData} {pos pos' p3 p4 : Pos} (h1 : X.N.Nodup) (h2 : X.N[i]? = some x) (h3 : Loc X.env.scope x) (hf : X.fn x = true) (he : QE X e d) (hv : Vis X.env.scope x) (hd : (x == ("__debug__" : Str)) = false) (hcd : (x == ("__classdict__" : Str)) = false) : QS X (.Assign [.Name x pos'] (.BinOp (.Name x p3) .Add e p4) pos) (tAsg (tOp rCat (tVar i) (tLit d)) (gName i)) :=
  ⟨asg_of h1 h2 h3 hf (pe_op op_cat (pe_var h2 hv hd hcd) he.h) rfl⟩
set_option maxHeartbeats 1000000 in
theorem has_evenL (F : FunAt K mg "_law_even" sEven ["_law_box_here"]) (T : TxEvenL P w K mg base) : Has P w K mg base 3 "_law_even" ["_law_box_here"] spEvenL := by
  refine F.has scEven (fun vs H Q E h => ?_) (fun f cdv A outer s H vs Q E hr h => ?_)
  · obtain ⟨q, rfl, _⟩ := h
    rfl
  obtain ⟨q, rfl, bx, kk⟩ := h
  refine @unq _ _ _ ?_
  refine' ⟨_, qss_cons (asg_lit (i := 1) (d := rows1) scEven.nd rfl (Or.inl rfl) rfl lit1 rfl) (qss_cons (cat_lit (i := 1) (d := rows2) scEven.nd rfl (Or.inl rfl) rfl lit2 (Or.inl rfl) (by decide) (by decide)) (QSs.mk ?s3)), ?_⟩
  case s3 => exact (pss_cons (ps_set (i := 2) scEven.nd rfl (Or.inl rfl) (pcall T._law_next hr (by decide) (by rfl) (pa_cons (pv 0) (pa_cons pe_int pa_nil))))
    (pss_cons (ps_cut (ps_if (pt_cmpR op_lt (pv 2) pe_int (nomark _))
    (pss_cons (ps_asg (pe_ix ix_listF (pv 1) (pv 2) (fun _ _ => rfl)) (pg_tupF (by rfl) (pgs_cons (pg_name (i := 5) scEven.nd rfl (Or.inr rfl)) (pgs_cons (pg_name (i := 6) scEven.nd rfl (Or.inl rfl)) pgs_nil))))
      (pss_one (ps_set (i := 4) scEven.nd rfl (Or.inl rfl) (pcall T._law_rolled hr (by decide) (by rfl) (pa_cons (pv 5) (pa_cons (pv 6) pa_nil))))))
    (pss_cons (ps_set (i := 5) scEven.nd rfl (Or.inr rfl) (pe_op op_add pe_int (pcall T._law_next hr (by decide) (by rfl) (pa_cons (pv 0) (pa_cons pe_int pa_nil)))))
      (pss_one (ps_set (i := 4) scEven.nd rfl (Or.inl rfl) (pcall T._law_few hr (by decide) (by rfl) (pa_cons (pv 5) (pa_cons (pe_op op_add pe_int (pcall T._law_next hr (by decide) (by rfl) (pa_cons (pv 0) (pa_cons (pe_op op_sub (pv 5) pe_int) pa_nil)))) pa_nil))))))))
    (pss_cons (ps_cut (ps_if (PW.pt (pw_and (pt_cmpR op_eq (pcall T._law_next hr (by decide) (by rfl) (pa_cons (pv 0) (pa_cons pe_int pa_nil))) pe_int (nomark _)) (pw_and1 (pt_cmpR op_gt (pe_op op_sub (pv 5) (pe_callB k_len (by rfl) T.len (by decide +kernel) (pa_cons (pe_ix ix_listF (pv 4) pe_int (fun _ _ => rfl)) pa_nil))) pe_int (nomark _)))))
    (pss_one (ps_setLc (i := 4) (own := [("_law_block_here", 7)]) (g := gName 7) (by rfl) scEven.nd rfl rfl (sw_true rfl rfl rfl (by decide +kernel)) (pi_list (pv 4)) (blkOk_by (own := [("_law_block_here", 7)]) (N := ["_law_box_here", "_law_rows", "_law_way", "_law_order_here", "_law_blocks", "_law_many", "_law_bases", "_law_block_here", "_law_thing"]) (sc := defScope sEven) (by decide +kernel)) (fun _ _ _ _ _ => (pg_name (i := 7) scEven.nd rfl (Or.inr rfl))) (fun _ _ _ _ _ => pts_nil) (fun _ _ _ _ _ => by exact (pe_callTy k_tuple (by rfl) T.tuple (by decide +kernel) (pa_cons (pe_lc (own := [("_law_thing", 8)]) (g := gName 8) (by rfl) scEven.nd (pi_range1 (by rfl) T.range (pa_cons (pv 5) pa_nil)) (blkOk_by (own := [("_law_thing", 8)]) (N := ["_law_box_here", "_law_rows", "_law_way", "_law_order_here", "_law_blocks", "_law_many", "_law_bases", "_law_block_here", "_law_thing"]) (sc := relS _ (defScope sEven)) (by decide +kernel)) (fun _ _ _ _ _ => (pg_name (i := 8) scEven.nd rfl (Or.inl rfl))) (fun _ _ _ _ _ => pts_one (pt_cmpR op_notInF (pv 8) (pv 7) rfl)) (fun _ _ _ _ _ => by exact (pv 8))) pa_nil)))))
    pss_nil))
    (pss_cons (ps_cut (ps_if (pt_cmpR op_eq (pcall T._law_next hr (by decide) (by rfl) (pa_cons (pv 0) (pa_cons pe_int pa_nil))) pe_int (nomark _))
    (pss_one (ps_set (i := 4) scEven.nd rfl (Or.inl rfl) (pe_op op_cat (pv 4) (pv 4))))
    pss_nil))
    (pss_cons (ps_set (i := 3) scEven.nd rfl (Or.inr rfl) (pcall T._law_order hr (by decide) (by rfl) (pa_cons (pv 0) (pa_cons (pv 5) pa_nil))))
    (pss_one (ps_ret (pe_tup (pa_cons (pv 5) (pa_cons (pe_callB k_sortT (by rfl) T.sorted (by decide +kernel) (pa_cons (pe_lc (own := [("_law_block_here", 7)]) (g := gName 7) (by rfl) scEven.nd (pi_list (pv 4)) (blkOk_by (own := [("_law_block_here", 7)]) (N := ["_law_box_here", "_law_rows", "_law_way", "_law_order_here", "_law_blocks", "_law_many", "_law_bases", "_law_block_here", "_law_thing"]) (sc := defScope sEven) (by decide +kernel)) (fun _ _ _ _ _ => (pg_name (i := 7) scEven.nd rfl (Or.inl rfl))) (fun _ _ _ _ _ => pts_nil) (fun _ _ _ _ _ => by exact (pe_callTy k_tuple (by rfl) T.tuple (by decide +kernel) (pa_cons (pe_callB k_sortI (by rfl) T.sorted (by decide +kernel) (pa_cons (pe_lc (own := [("_law_thing", 8)]) (g := gName 8) (by rfl) scEven.nd (pi_tupK K rfl (pv 7)) (blkOk_by (own := [("_law_thing", 8)]) (N := ["_law_box_here", "_law_rows", "_law_way", "_law_order_here", "_law_blocks", "_law_many", "_law_bases", "_law_block_here", "_law_thing"]) (sc := relS _ (defScope sEven)) (by decide +kernel)) (fun _ _ _ _ _ => (pg_name (i := 8) scEven.nd rfl (Or.inl rfl))) (fun _ _ _ _ _ => pts_nil) (fun _ _ _ _ _ => by exact (pe_ix ix_listF (pv 3) (pv 8) (fun _ _ => rfl)))) pa_nil)) pa_nil)))) pa_nil)) pa_nil))))))))))
  walk_at "rd"
  intro v1 H1 s1 d1
  unfold rows1 at d1
  cases d1 with
  | lst el1 ds1 =>
  rename_i l1 xs1
  walk_at "rd"
  intro v2 H2 s2 d2
  unfold rows2 at d2
  cases d2 with
  | lst el2 ds2 =>
  rename_i l2 xs2
  have l1l := ds1.length
  have l2l := ds2.length
  refine r_cat (s2 _ _ el1) el2 (by rw [l1l, l2l]; decide) fun l3 hl3 => ?_
  have s3 := Same.new hl3 (.lst (xs1 ++ xs2))
  have el3 : upd H2 l3 (.lst (xs1 ++ xs2)) l3 = some (.lst (xs1 ++ xs2)) := upd_same
  generalize upd H2 l3 (.lst (xs1 ++ xs2)) = H3 at s3 el3
  have ds3 : DFs H3 (xs1 ++ xs2) (rowsL.map dRow) := DFs.append (ds2.same s3) ((ds1.same s2).same s3)
  have g3 : Same H H3 := s1.trans (s2.trans s3)
  walk_at "rd"
  obtain ⟨b0, b1, b2, hq, ok⟩ := bx
  have hq3 := g3 _ _ hq
  refine ⟨q, 10, b0, b1, b2, rfl, hq3, ok, by decide, by decide, fun r c0 c1 c2 r0 r1 ok1 => ?_⟩
  walk_at "rd"
  have hl3q : l3 ≠ q := ne_of_none (H := H2) (by exact (s1.trans s2) _ _ hq) hl3 |>.symm
  have el4 : upd H3 q (boxO c0 c1 c2) l3 = some (.lst (xs1 ++ xs2)) := by rw [upd_ne hl3q]; exact el3
  refine r_cut (fun σ' H' => ∃ (m z : Nat) (rb : Addr) (bs : List (List Int)) (v6 : Option V), σ' = [some (.ref q), some (.ref l3), some (.int r), none, some (.ref rb), some (.int (m : Int)), v6, none, none] ∧ Mid H H' q rb m z bs 50) ?_ ?_
  · walk_at "rd"
    refine r_if (fun c => ?_) (fun c => ?_)
    · obtain ⟨i, hi⟩ : ∃ i : Nat, r = (i : Int) := ⟨r.toNat, by omega⟩
      have hi7 : i < rowsL.length := by show i < 7; omega
      have hrow : rowsL[i]? = some rowsL[i] := List.getElem?_eq_getElem hi7
      obtain ⟨v, hv, dv⟩ := ds3.get (i := i) (d := dRow rowsL[i]) (by rw [List.getElem?_map, hrow]; rfl)
      obtain ⟨pr, ar, rfl, epr, hbr⟩ := dv.row
      obtain ⟨o1, o2, o3, o4, o5⟩ := rows_ok _ (List.mem_of_getElem? hrow)
      generalize rowsL[i] = row at epr hbr o1 o2 o3 o4 o5
      have hprq : pr ≠ q := ne_of epr hq3 (by intro z; cases z)
      have epr4 : upd H3 q (boxO c0 c1 c2) pr = some (.tup [.int row.1, .ref ar]) := by rw [upd_ne hprq]; exact epr
      have harq : ar ≠ q := by
        obtain ⟨ps, e, _⟩ := hbr
        intro z
        rw [z, hq3] at e
        have := Option.some.inj e
        injection this with this
        cases ps with
        | nil => cases this
        | cons x r => cases this
      have hbr4 : Blks (upd H3 q (boxO c0 c1 c2)) ar row.2 := Blks.box hbr hq3 (Sam1.upd _ _ _) harq
      walk_at "rd"
      refine r_ixL (v := .ref pr) el4 (at_of hi hv) ?_
      walk_at "rd"
      refine ⟨row.1, ar, row.2, rfl, hbr4, by omega, by omega, by omega, fun b hb => ⟨(o5 b hb).1, (o5 b hb).2.1, (o5 b hb).2.2.1⟩, fun rb H5 bs s5 hB lB pB => ?_⟩
      walk_at "rd"
      obtain ⟨m, hm⟩ : ∃ m : Nat, row.1 = (m : Int) := ⟨row.1.toNat, by omega⟩
      obtain ⟨c, hc⟩ := List.exists_mem_of_ne_nil _ o3
      have o5c := (o5 c hc).2.2.2
      refine ⟨m, c.length, rb, bs, _, by rw [hm]; rfl, ⟨⟨c0, c1, c2, s5 _ _ upd_same, ok1⟩, (g3.one.trans (Sam1.upd _ _ _)).trans s5.one, hB, by omega, by omega, ?_, ?_, ?_, o5c.1⟩⟩
      · rintro rfl
        have h1 : 0 < row.2.length := List.length_pos_iff.mpr o3
        have h2 : 0 < row.1.toNat := by omega
        have := Nat.mul_pos h1 h2
        rw [← lB] at this
        simp at this
      · rw [lB]
        have : row.2.length * row.1.toNat ≤ 2 * 21 := Nat.mul_le_mul o4 (by omega)
        omega
      · intro b hb
        obtain ⟨h1, d, hd, h2⟩ := pB b hb
        rw [hm] at h1
        exact ⟨h1, by rw [h2]; exact (o5c.2 d hd).symm⟩
    · walk_at "rd"
      refine ⟨q, 6, c0, c1, c2, rfl, upd_same, ok1, by decide, by decide, fun r2 d0 d1 d2 r20 r21 ok2 => ?_⟩
      walk_at "rd"
      refine ⟨q, 2 + r2 - 1, d0, d1, d2, rfl, upd_same, ok2, by omega, by omega, fun r3 e0 e1 e2 r30 r31 ok3 => ?_⟩
      walk_at "rd"
      obtain ⟨m, hm⟩ : ∃ m : Nat, 2 + r2 = (m : Int) := ⟨(2 + r2).toNat, by omega⟩
      obtain ⟨k, hk⟩ : ∃ k : Nat, 2 + r3 = (k : Int) := ⟨(2 + r3).toNat, by omega⟩
      have fo := few_ok (2 + r2) (by simp only [List.mem_cons, List.not_mem_nil, or_false]; omega)
      refine ⟨2 + r2, k, by rw [hk]; rfl, by omega, by omega, by omega, fun j hj => Nat.le_trans (fo.1 j (List.mem_range.mpr (by omega))) (by decide), fun rb H5 s5 hB => ?_⟩
      walk_at "rd"
      refine ⟨m, k, rb, fewF (2 + r2) k, _, by rw [← hm]; rfl, ⟨⟨e0, e1, e2, s5 _ _ upd_same, ok3⟩, (((g3.one.trans (Sam1.upd _ _ _)).trans (Sam1.upd _ _ _)).trans (Sam1.upd _ _ _)).trans s5.one, hB, by omega, by omega, fo.2 k (List.mem_range.mpr (by omega)) (by omega), Nat.le_trans (fo.1 k (List.mem_range.mpr (by omega))) (by decide), fun b hb => ?_, by omega⟩⟩
      have h := fewF_ok (2 + r2) k b hb
      rw [hm] at h
      exact ⟨⟨h.2.1, h.2.2⟩, h.1⟩
  · rintro σ5 H5 ⟨m, z, rb, bs, v6, rfl, M⟩
    obtain ⟨⟨b0, b1, b2, hq5, ok5⟩, sm5, hb5, m2, m21, ne5, le5, ok5b, z2⟩ := M
    obtain ⟨ps5, ha5, tu5⟩ := id hb5
    have hrbq : rb ≠ q := by
      intro e
      rw [e, hq5] at ha5
      have := Option.some.inj ha5
      injection this with this
      cases ps5 with
      | nil => cases this
      | cons x r => cases this
    obtain ⟨bb0, h00⟩ : ∃ b0, bs[0]? = some b0 := by
      cases bs with
      | nil => exact absurd rfl ne5
      | cons x r => exact ⟨x, rfl⟩
    obtain ⟨p0, hp0⟩ : ∃ p0, ps5[0]? = some p0 := by
      have : 0 < ps5.length := by rw [tu5.1]; exact (List.getElem?_eq_some_iff.mp h00).1
      exact ⟨ps5[0], List.getElem?_eq_getElem this⟩
    have eb0 := tu5.2 0 p0 bb0 hp0 h00
    walk_at "rd"
    refine r_cut (fun σ' H' => ∃ (z : Nat) (rb : Addr) (bs : List (List Int)), σ' = [some (.ref q), some (.ref l3), some (.int r), none, some (.ref rb), some (.int (m : Int)), v6, none, none] ∧ Mid H H' q rb m z bs 50) ?_ ?_
    · walk_at "rd"
      refine ⟨q, 3, b0, b1, b2, rfl, hq5, ok5, by decide, by decide, fun r2 e0 e1 e2 r20 r21 ok6 => ?_⟩
      have sm6 : Sam1 q H (upd H5 q (boxO e0 e1 e2)) := sm5.trans (Sam1.upd _ _ _)
      have hb6 : Blks (upd H5 q (boxO e0 e1 e2)) rb bs := Blks.box hb5 hq5 (Sam1.upd _ _ _) hrbq
      have ha6 : upd H5 q (boxO e0 e1 e2) rb = some (.lst (ps5.map V.ref)) := by rw [upd_ne hrbq]; exact ha5
      have tu6 : TupsAt (upd H5 q (boxO e0 e1 e2)) ps5 bs := tu5.late hq5 _
      have eb06 := tu6.2 0 p0 bb0 hp0 h00
      have hq6 : upd H5 q (boxO e0 e1 e2) q = some (boxO e0 e1 e2) := upd_same
      generalize upd H5 q (boxO e0 e1 e2) = H6 at sm6 hb6 ha6 tu6 eb06 hq6
      have stay : Mid H H6 q rb m z bs 50 := ⟨⟨e0, e1, e2, hq6, ok6⟩, sm6, hb6, m2, m21, ne5, le5, ok5b, z2⟩
      walk_at "rd"
      refine r_if (fun c => ?_) (fun c => ?_)
      · walk_at "rd"
        refine r_ixL (v := .ref p0) ha6 (at_of (j := 0) rfl (by rw [List.getElem?_map, hp0]; rfl)) ?_
        walk_at "rd"
        rw [List.length_map]
        have lb0 : bb0.length = z := (ok5b bb0 (List.mem_of_getElem? h00)).2
        refine r_if (fun c2 => ?_) (fun c2 => ?_)
        · walk_at "rd"
          refine ⟨rb, rfl, ⟨_, SqL.of ha6⟩, fun D hD => ?_⟩
          refine lc_list (xs := ps5.map V.ref) (fun j H7 => ∃ ts : List Addr, H7 D = some (.lst (ts.map V.ref)) ∧ TupsAt H7 ts ((bs.take j).map (compl m)) ∧ Same H6 H7) ?_ ?_ ?_ ?_
          · exact ⟨[], upd_same, .nil _, Same.new hD _⟩
          · rintro j H7 _ ⟨_, _, _, s7⟩
            exact SqL.of (s7 _ _ ha6)
          · rintro j x H7 hx ⟨ts, e7, t7, s7⟩
            obtain ⟨pb, rfl, hpb⟩ := nth_refs hx
            obtain ⟨b, hbi, eb⟩ := tu6.get hpb
            have hjl : j < bs.length := (List.getElem?_eq_some_iff.mp hbi).1
            refine r_name ⟨rfl, ?_⟩
            walk_at "rd"
            refine ⟨(m : Int), rfl, by omega, by omega, fun D2 hD2 => ?_⟩
            refine lc_range (lo := 0) (n := (m : Int).toNat) (fun t H8 => H8 D2 = some (.lst (((rngV 0 t).filter fun x => !b.contains x).map V.int)) ∧ Same H7 H8) ?_ ?_ ?_
            · exact ⟨upd_same, Same.new hD2 _⟩
            · rintro t H8 ht ⟨e8, s8⟩
              refine r_name ⟨rfl, ?_⟩
              walk_at "rd"
              refine r_inF (sqAt_tup (s8 _ _ (s7 _ _ eb))) rfl (flat_ints _) ?_
              rw [inV_int]
              walk_at "rd"
              rw [if_pos rfl]
              refine r_ifb (fun c3 => ?_) (fun c3 => ?_)
              · walk_at "rd"
                refine ⟨_, e8, ?_, ?_, s8.late hD2 _⟩
                · rw [List.length_map]
                  refine small1000 (Nat.le_trans (List.length_filter_le _ _) ?_)
                  rw [rngV_length]; omega
                · have g : [0 + (t : Int)].filter (fun x => !(b.contains x)) = [0 + (t : Int)] := by rw [List.filter_cons_of_pos (by exact c3)]; rfl
                  rw [upd_same, rngV_succ, List.filter_append, List.map_append, g]; rfl
              · refine ⟨?_, s8⟩
                have g : [0 + (t : Int)].filter (fun x => !(b.contains x)) = [] := by rw [List.filter_cons_of_neg (by rw [c3]; decide)]; rfl
                rw [e8, rngV_succ, List.filter_append, g, List.append_nil]
            · rintro H8 ⟨e8, s8⟩
              rw [Int.toNat_natCast] at e8
              walk_at "rd"
              refine r_tuple (ys := (compl m b).map V.int) e8 fun tp htp => ?_
              have s9 := s8.trans (Same.new htp (.tup ((compl m b).map V.int)))
              have e9 := s9 _ _ e7
              have etp : upd H8 tp (.tup ((compl m b).map V.int)) tp = some (.tup ((compl m b).map V.int)) := upd_same
              show ∃ acc, upd H8 tp (.tup ((compl m b).map V.int)) D = some (.lst acc) ∧ _
              generalize upd H8 tp (.tup ((compl m b).map V.int)) = H9 at s9 e9 etp
              refine ⟨ts.map V.ref, e9, by rw [List.length_map, t7.1, List.length_map, List.length_take]; exact small1000 (by omega), ?_⟩
              refine ⟨ts ++ [tp], by rw [upd_same, List.map_append]; rfl, ?_, (s7.trans s9).late hD _⟩
              rw [take_snoc hbi, List.map_append]
              exact ((t7.same s9).late e9 _).snoc (by rw [upd_ne (ne_of etp e9 (by intro z; cases z))]; exact etp)
          · rintro H7 ⟨ts, e7, t7, s7⟩
            rw [List.length_map, tu6.1, List.take_length] at t7
            walk_at "rd"
            refine ⟨m - z, D, bs.map (compl m), rfl, ⟨⟨e0, e1, e2, s7 _ _ hq6, ok6⟩, sm6.trans s7.one, ⟨ts, e7, t7⟩, m2, m21, ?_, by rw [List.length_map]; exact le5, ?_, by omega⟩⟩
            · intro e
              exact ne5 (List.map_eq_nil_iff.mp e)
            · intro b' hb'
              obtain ⟨b, hb, rfl⟩ := List.mem_map.mp hb'
              obtain ⟨⟨k1, k2⟩, k3⟩ := ok5b b hb
              have := compl_len k1 k2
              exact ⟨compl_blk m b, by omega⟩
        · walk_at "rd"
          exact ⟨z, rb, bs, rfl, stay⟩
      · walk_at "rd"
        exact ⟨z, rb, bs, rfl, stay⟩
    · clear ha5 tu5 hb5 hrbq h00 hp0 eb0 ne5 le5 ok5b z2 hq5 ok5 sm5 m2 m21
      rintro σ6 H6 ⟨z, rb, bs, rfl, M⟩
      obtain ⟨⟨b0, b1, b2, hq5, ok5⟩, sm5, hb5, m2, m21, ne5, le5, ok5b, z2⟩ := M
      obtain ⟨ps5, ha5, tu5⟩ := id hb5
      have hrbq : rb ≠ q := by
        intro e
        rw [e, hq5] at ha5
        have := Option.some.inj ha5
        injection this with this
        cases ps5 with
        | nil => cases this
        | cons x r => cases this
      walk_at "rd"
      refine r_cut (fun σ' H' => ∃ (rb : Addr) (bs : List (List Int)), σ' = [some (.ref q), some (.ref l3), some (.int r), none, some (.ref rb), some (.int (m : Int)), v6, none, none] ∧ Mid H H' q rb m z bs 100) ?_ ?_
      · walk_at "rd"
        refine ⟨q, 4, b0, b1, b2, rfl, hq5, ok5, by decide, by decide, fun r2 e0 e1 e2 r20 r21 ok6 => ?_⟩
        have sm6 : Sam1 q H (upd H6 q (boxO e0 e1 e2)) := sm5.trans (Sam1.upd _ _ _)
        have hb6 : Blks (upd H6 q (boxO e0 e1 e2)) rb bs := Blks.box hb5 hq5 (Sam1.upd _ _ _) hrbq
        have ha6 : upd H6 q (boxO e0 e1 e2) rb = some (.lst (ps5.map V.ref)) := by rw [upd_ne hrbq]; exact ha5
        have tu6 : TupsAt (upd H6 q (boxO e0 e1 e2)) ps5 bs := tu5.late hq5 _
        have hq6 : upd H6 q (boxO e0 e1 e2) q = some (boxO e0 e1 e2) := upd_same
        generalize upd H6 q (boxO e0 e1 e2) = H7 at sm6 hb6 ha6 tu6 hq6
        walk_at "rd"
        refine r_if (fun c => ?_) (fun c => ?_)
        · walk_at "rd"
          refine r_cat ha6 ha6 (by rw [List.length_map, tu6.1]; show _ ≤ 16777216; omega) fun l8 hl8 => ?_
          have s8 := Same.new hl8 (.lst (ps5.map V.ref ++ ps5.map V.ref))
          walk_at "rd"
          refine ⟨l8, bs ++ bs, rfl, ⟨⟨e0, e1, e2, s8 _ _ hq6, ok6⟩, sm6.trans s8.one, ⟨ps5 ++ ps5, by rw [List.map_append]; exact upd_same, ((tu6.same s8).append (tu6.same s8))⟩, m2, m21, by simpa using ne5, by rw [List.length_append]; omega, fun b hb => ?_, z2⟩⟩
          rcases List.mem_append.mp hb with h | h
          · exact ok5b b h
          · exact ok5b b h
        · walk_at "rd"
          exact ⟨rb, bs, rfl, ⟨⟨e0, e1, e2, hq6, ok6⟩, sm6, hb6, m2, m21, ne5, by omega, ok5b, z2⟩⟩
      · clear ha5 tu5 hb5 hrbq ne5 le5 ok5b z2 hq5 ok5 sm5 m2 m21
        rintro σ7 H7 ⟨rb, bs, rfl, M⟩
        obtain ⟨⟨b0, b1, b2, hq5, ok5⟩, sm5, hb5, m2, m21, ne5, le5, ok5b, z2⟩ := M
        obtain ⟨ps5, ha5, tu5⟩ := id hb5
        have hrbq : rb ≠ q := by
          intro e
          rw [e, hq5] at ha5
          have := Option.some.inj ha5
          injection this with this
          cases ps5 with
          | nil => cases this
          | cons x r => cases this
        walk_at "rd"
        refine ⟨q, (m : Int), rfl, ⟨b0, b1, b2, hq5, ok5⟩, by omega, by omega, fun ro o H8 hro ero lo nd rgo bx8 s8 => ?_⟩
        have ol : (o.length : Int) = (m : Int) := by omega
        have ha8 := s8 _ _ ha5 hrbq
        have tu8 : TupsAt H8 ps5 bs := tu5.sam1 s8 fun xs z => by rw [hq5] at z; cases z
        have sm8 := sm5.trans s8
        walk_at "rd"
        refine ⟨rb, rfl, ⟨_, SqL.of ha8⟩, fun D hD => ?_⟩
        refine lc_list (xs := ps5.map V.ref) (fun j H9 => ∃ (ts : List Addr) (cs : List (List Int)), H9 D = some (.lst (ts.map V.ref)) ∧ TupsAt H9 ts cs ∧ cs.length = j ∧ (∀ c ∈ cs, Blk (m : Int) c ∧ c.length = z) ∧ Same H8 H9) ?_ ?_ ?_ ?_
        · exact ⟨[], [], upd_same, .nil _, rfl, by simp, Same.new hD _⟩
        · rintro j H9 _ ⟨_, _, _, _, _, _, s9⟩
          exact SqL.of (s9 _ _ ha8)
        · rintro j x H9 hx ⟨ts, cs, e9, t9, l9, p9, s9⟩
          obtain ⟨pb, rfl, hpb⟩ := nth_refs hx
          obtain ⟨b, hbi, eb⟩ := tu8.get hpb
          have hjl : j < bs.length := (List.getElem?_eq_some_iff.mp hbi).1
          obtain ⟨⟨k1, k2⟩, k3⟩ := ok5b b (List.mem_of_getElem? hbi)
          have zm : z ≤ 21 := by
            have := compl_len k1 k2
            omega
          refine r_name ⟨rfl, ?_⟩
          walk_at "rd"
          refine ⟨pb, rfl, ⟨_, SqT.of (s9 _ _ eb)⟩, fun D2 hD2 => ?_⟩
          refine lc_tup (xs := b.map V.int) (fun t H10 => H10 D2 = some (.lst (((b.take t).map (atZ o)).map V.int)) ∧ Same H9 H10) ?_ ?_ ?_ ?_
          · exact ⟨upd_same, Same.new hD2 _⟩
          · rintro t H10 _ ⟨_, s10⟩
            exact SqT.of (s10 _ _ (s9 _ _ eb))
          · rintro t x H10 hx ⟨e10, s10⟩
            obtain ⟨y, rfl, hy⟩ := nth_ints hx
            have hyr := k2 y (List.mem_of_getElem? hy)
            refine r_name ⟨rfl, ?_⟩
            walk_at "rd"
            refine r_ixL (s10 _ _ (s9 _ _ ero)) (atI_atZ hyr.1 (by omega)) ?_
            refine ⟨_, e10, ?_, ?_, s10.late hD2 _⟩
            · rw [List.length_map, List.length_map, List.length_take]; exact small1000 (by omega)
            · rw [upd_same, take_snoc hy, List.map_append, List.map_append]; rfl
          · rintro H10 ⟨e10, s10⟩
            rw [List.length_map, List.take_length] at e10
            walk_at "rd"
            refine r_sortI e10 (by rw [List.length_map]; omega) fun ns' p11 perm srt hp11 => ?_
            walk_at "rd"
            refine r_tuple upd_same fun tp htp => ?_
            have s12 := (s10.trans (Same.new hp11 (.lst (ns'.map V.int)))).trans (Same.new htp (.tup (ns'.map V.int)))
            have e12 := s12 _ _ e9
            have etp : upd (upd H10 p11 (.lst (ns'.map V.int))) tp (.tup (ns'.map V.int)) tp = some (.tup (ns'.map V.int)) := upd_same
            show ∃ acc, upd (upd H10 p11 (.lst (ns'.map V.int))) tp (.tup (ns'.map V.int)) D = some (.lst acc) ∧ _
            generalize upd (upd H10 p11 (.lst (ns'.map V.int))) tp (.tup (ns'.map V.int)) = H12 at s12 e12 etp
            refine ⟨ts.map V.ref, e12, by rw [List.length_map, t9.1, l9]; exact small1000 (by omega), ?_⟩
            refine ⟨ts ++ [tp], cs ++ [ns'], by rw [upd_same, List.map_append]; rfl, ((t9.same s12).late e12 _).snoc (by rw [upd_ne (ne_of etp e12 (by intro z; cases z))]; exact etp), by simp [l9], fun c hc => ?_, (s9.trans s12).late hD _⟩
            rcases List.mem_append.mp hc with h | h
            · exact p9 c h
            · rw [List.mem_singleton.mp h]
              have nd' : ns'.Nodup := perm.nodup_iff.mpr (nodup_atZ nd (strict_nodup k1) fun x hx => by have := k2 x hx; omega)
              refine ⟨⟨strict_of srt nd', fun x hx => ?_⟩, by rw [perm.length_eq, List.length_map]; exact k3⟩
              obtain ⟨y, hy, rfl⟩ := List.mem_map.mp (perm.mem_iff.mp hx)
              have := k2 y hy
              exact rgo _ (atZ_mem this.1 (by omega))
        · rintro H9 ⟨ts, cs, e9, t9, l9, p9, s9⟩
          rw [List.length_map, tu8.1] at l9
          walk_at "rd"
          refine ⟨D, ts, cs, rfl, e9, t9, fun c hc e => ?_, fun ps' bs' p10 perm tu' hp10 => ?_⟩
          · have := (p9 c hc).2
            rw [e] at this
            simp at this
            omega
          walk_at "rd"
          refine ⟨by show 2 ≤ sizeLine; decide, fun p11 hp11 => ?_⟩
          have s10 := Same.new hp10 (.lst (ps'.map V.ref))
          have s11 := s10.trans (Same.new hp11 (.tup [.int (m : Int), .ref p10]))
          obtain ⟨f0, f1, f2, hq8, ok8⟩ := bx8
          refine kk p11 m p10 bs' z _ ⟨upd_same, ⟨ps', upk upd_same hp11, tu'.same s11⟩, m2, m21, ?_, ?_, fun b hb => p9 b (perm.mem_iff.mp hb), z2⟩ ⟨f0, f1, f2, s11 _ _ (s9 _ _ hq8), ok8⟩ (sm8.trans (s9.trans s11).one)
          · intro e
            have := perm.length_eq
            rw [e, l9] at this
            exact ne5 (List.length_eq_zero_iff.mp this.symm)
          · rw [perm.length_eq, l9]; exact le5
end
end My
set_option Elab.async false
set_option linter.all false
set_option maxRecDepth 100000
namespace L2
open PySem
theorem nodupPm {α : Type} [BEq α] [LawfulBEq α] : ∀ {l m : List α}, l.Nodup → (∀ x ∈ l, x ∈ m) → l.length = m.length → l.Perm m
  | [], m, _, _, h => by
    have : m = [] := List.eq_nil_of_length_eq_zero h.symm
    rw [this]
  | x :: l, m, nd, hs, h => by
    have hx : x ∈ m := hs x List.mem_cons_self
    have p := List.perm_cons_erase hx
    obtain ⟨n1, n2⟩ := List.nodup_cons.mp nd
    refine List.Perm.trans (List.Perm.cons x (nodupPm n2 (fun y hy => ?_) ?_)) p.symm
    · have hy' := hs y (List.mem_cons_of_mem _ hy)
      have ne : y ≠ x := fun e => n1 (e ▸ hy)
      exact (List.mem_erase_of_ne ne).mpr hy'
    · rw [List.length_erase_of_mem hx, ← h]; simp
structure Turng (m : Nat) (o : List Int) : Prop where
  len : o.length = m
  nd : o.Nodup
  rng : ∀ x ∈ o, 0 ≤ x ∧ x < (m : Int)
theorem rngNd (lo : Int) (n : Nat) : (rngV lo n).Nodup := by
  unfold rngV
  rw [List.Nodup, List.pairwise_map]
  exact List.Pairwise.imp (fun h => by omega) List.nodup_range
theorem Turng.perm {m : Nat} {o : List Int} (h : Turng m o) : o.Perm (rngV 0 m) :=
  nodupPm h.nd (fun x hx => by have := h.rng x hx; exact mem_rngV this.1 this.2) (by rw [h.len, rngV_length])
theorem rng_le (m : Nat) : (rngV 0 m).Pairwise (· ≤ ·) := by
  unfold rngV
  rw [List.pairwise_map]
  exact List.Pairwise.imp (fun h => by omega) List.pairwise_lt_range
theorem Turng.sorted {m : Nat} {o : List Int} (h : Turng m o) : isort o = rngV 0 m := (isort_is h.perm.symm (rng_le m)).symm
def Rise2 (m : Nat) (b : List Int) : Prop := b.Pairwise (· < ·) ∧ ∀ x ∈ b, 0 ≤ x ∧ x < (m : Int)
def imgB (o b : List Int) : List Int := isort (b.map (atZ o))
structure BackOf (m : Nat) (o k : List Int) : Prop where
  len : k.length = m
  at' : ∀ t : Int, 0 ≤ t → t < (m : Int) → 0 ≤ atZ k t ∧ atZ k t < (m : Int) ∧ atZ o (atZ k t) = t
structure SortOf (cs bs : List (List Int)) : Prop where
  pm : cs.Perm bs
  le : cs.Pairwise leB
def FewB (bs : List (List Int)) : Prop := bs.length < 64 ∨ ∀ b ∈ bs, b ≠ []
theorem rise_len {m : Nat} {b : List Int} (h : Rise2 m b) : b.length ≤ m := by
  have := compl_len (n := m) h.1 h.2
  omega
end L2
set_option Elab.async false
set_option linter.all false
set_option maxRecDepth 100000
namespace L2
open PySem PySem.Spec PyProof.Rows
structure EltN {α : Type} (R : Hp → Addr → α → Prop) : Prop where
  same : ∀ {H H' : Hp} {p : Addr} {a : α}, Same H H' → R H p a → R H' p a
  late : ∀ {H : Hp} {p D : Addr} {a : α} {acc : List V} (o : HO), H D = some (.lst acc) → p ≠ D → R H p a → R (upd H D o) p a
  is : ∀ {H : Hp} {p : Addr} {a : α}, R H p a → ∃ o, H p = some o
def LI (H : Hp) (p : Addr) (b : List Int) : Prop := H p = some (.lst (b.map V.int))
theorem nLI : EltN LI := ⟨fun s h => s _ _ h, fun o _ n h => by unfold LI; rw [upd_ne n]; exact h, fun h => ⟨_, h⟩⟩
structure NewLs {α : Type} (R : Hp → Addr → α → Prop) (H1 H : Hp) (D : Addr) (as : List α) : Prop where
  ex : ∃ ps : List Addr, H D = some (.lst (ps.map V.ref)) ∧ ps.Nodup ∧ (∀ p ∈ ps, H1 p = none ∧ p ≠ D) ∧ Paired (R H) ps as
theorem NewLs.same {α : Type} {R : Hp → Addr → α → Prop} (E : EltN R) {H1 H H' : Hp} {D : Addr} {as : List α} (h : NewLs R H1 H D as) (s : Same H H') : NewLs R H1 H' D as := by
  obtain ⟨ps, e, nd, nw, pr⟩ := h.ex
  exact ⟨ps, s _ _ e, nd, nw, Pd.imp (fun _ _ r => E.same s r) pr⟩
def NAcc {α : Type} (R : Hp → Addr → α → Prop) (H1 : Hp) (D : Addr) (F : Nat → α → Prop) (i : Nat) (H : Hp) : Prop :=
  Same H1 H ∧ ∃ as, NewLs R H1 H D as ∧ as.length = i ∧ ∀ j a, as[j]? = some a → F j a
theorem NAcc.step {α : Type} {R : Hp → Addr → α → Prop} (E : EltN R) {H1 : Hp} {D : Addr} {F : Nat → α → Prop} {i : Nat} {H : Hp} (hD : H1 D = none) (h : NAcc R H1 D F i H) {p : Addr} {H4 : Hp} {a : α} (hp : H p = none) (s : Same H H4) (hf : F i a) (r : R H4 p a) :
    ∃ acc, H4 D = some (.lst acc) ∧ acc.length = i ∧ NAcc R H1 D F (i + 1) (upd H4 D (.lst (acc ++ [.ref p]))) := by
  obtain ⟨sm, as, N, la, hF⟩ := h
  obtain ⟨ps, e, nd, nw, pr⟩ := N.ex
  have e4 := s _ _ e
  have pD : p ≠ D := fun z => by subst z; rw [e] at hp; cases hp
  refine ⟨_, e4, by rw [List.length_map, Pd.len pr, la], (sm.trans s).late hD _, as ++ [a], ⟨ps ++ [p], by rw [upd_same, List.map_append]; rfl, nd_snoc nd fun z => ?_, fun q hq => ?_, ?_⟩, by rw [List.length_append, la]; rfl, fun j b hb => ?_⟩
  · obtain ⟨k, hk⟩ := List.getElem?_of_mem z
    obtain ⟨b, _, rb⟩ := Pd.get pr hk
    obtain ⟨o, eo⟩ := E.is rb
    rw [hp] at eo
    cases eo
  · rcases List.mem_append.mp hq with hq | hq
    · exact nw q hq
    · rw [List.mem_singleton.mp hq]
      exact ⟨sm.free hp, pD⟩
  · refine Pd.snoc (E.late _ e4 pD r) ?_
    have : ∀ {xs : List Addr} {ys : List α}, (∀ q ∈ xs, q ≠ D) → Paired (R H) xs ys → Paired (R (upd H4 D (.lst (ps.map V.ref ++ [.ref p])))) xs ys := by
      intro xs ys hn h
      induction h with
      | nil => exact .nil
      | cons r _ ih => exact .cons (E.late _ e4 (hn _ List.mem_cons_self) (E.same s r)) (ih fun q hq => hn q (List.mem_cons_of_mem _ hq))
    exact this (fun q hq => (nw q hq).2) pr
  · by_cases hj : j < as.length
    · rw [List.getElem?_append_left hj] at hb
      exact hF j b hb
    · rw [List.getElem?_append_right (by omega)] at hb
      have : j = i := by
        have := (List.getElem?_eq_some_iff.mp hb).1
        simp at this
        omega
      subst this
      rw [la] at hb
      simp at hb
      subst hb
      exact hf
section
variable {α : Type} {R : Hp → Addr → α → Prop} {K : PySem.W.Frag} {g : TG} {tt : TT} {te : TE} {vs : List Nat} {σ : St} {H1 : Hp} {D : Addr} {Qd : Hp → Prop}
theorem NAcc.zero {F : Nat → α → Prop} (hD : H1 D = none) : NAcc R H1 D F 0 (upd H1 D (.lst [])) := ⟨Same.new hD _, [], ⟨[], upd_same, List.nodup_nil, (fun p h => by cases h), .nil⟩, rfl, (fun j a h => by simp at h)⟩
theorem lcm_rangeN (hD : H1 D = none) (E : EltN R) {lo : Int} {n : Nat} (F : Nat → α → Prop) (hn : n < 16777216)
    (hs : ∀ (i : Nat) (H : Hp) (Qe : VK) (Qn : Hp → Prop), i < n → Same H1 H → (∀ p H4 a, H p = none → Same H H4 → F i a → R H4 p a → Qe (.ref p) H4) →
      g (.int (lo + i)) (wipe σ vs) H fun σ2 H2 => wipe σ2 vs = wipe σ vs ∧ tt σ2 H2 fun b H3 => if b = true then te σ2 H3 Qe else Qn H3)
    (hd : ∀ (H : Hp) (as : List α), Same H1 H → NewLs R H1 H D as → as.length = n → (∀ j a, as[j]? = some a → F j a) → Qd H) :
    ∃ W : Nat → Nat → Hp → Prop, (∃ m, W 0 m (upd H1 D (.lst []))) ∧ ∀ i m H, W i m H →
      ((Itr lo n).stop i H ∧ Qd H) ∨ ((Itr lo n).go i H ∧ ∃ Nx : Hp → Prop, (∀ H', Nx H' → ∃ m', m' < m ∧ W (i + 1) m' H') ∧ ∀ x H', (Itr lo n).yld i H x H' → g x (wipe σ vs) H' fun σ2 H2 => wipe σ2 vs = wipe σ vs ∧ tt σ2 H2 fun b H3 =>
        if b = true then te σ2 H3 fun y H4 => ∃ acc, H4 D = some (.lst acc) ∧ acc.length < sizeLine ∧ Nx (upd H4 D (.lst (acc ++ [y]))) else Nx H3) := by
  refine lc_range (NAcc R H1 D F) (NAcc.zero hD) ?_ ?_
  · intro i H hi h
    refine hs i H _ _ hi h.1 fun p H4 a hp s4 hf r => ?_
    obtain ⟨acc, e, la, h'⟩ := h.step E hD hp s4 hf r
    exact ⟨acc, e, by rw [la]; show _ < 16777216; omega, h'⟩
  · rintro H ⟨sm, as, N, la, hF⟩
    exact hd H as sm N la hF
end
def tChain3 (r1 r2 r3 : R2) (ta tb tc td : TE) : TE := fun σ H Q => ta σ H fun x H1 => tb σ H1 fun y H2 => r1 x y H2 fun z H3 => ∃ k, z = .bl k ∧
  (if k = true then tc σ H3 fun y2 H4 => r2 y y2 H4 fun z H5 => ∃ k, z = .bl k ∧
    (if k = true then td σ H5 fun y3 H6 => r3 y2 y3 H6 Q else Q (.bl false) H5) else Q (.bl false) H3)
end L2
set_option Elab.async false
set_option linter.all false
set_option maxRecDepth 100000
namespace L2
open PySem
theorem pd_of {α β : Type} {r : α → β → Prop} : ∀ {xs : List α} {ys : List β}, xs.length = ys.length → (∀ (i : Nat) x y, xs[i]? = some x → ys[i]? = some y → r x y) → Paired r xs ys
  | [], [], _, _ => .nil
  | [], _ :: _, h, _ => by simp at h
  | _ :: _, [], h, _ => by simp at h
  | x :: xs, y :: ys, h, k => .cons (k 0 x y rfl rfl) (pd_of (by simpa using h) fun i a b h1 h2 => k (i + 1) a b (by simpa using h1) (by simpa using h2))
theorem rng_get {m i : Nat} (h : i < m) : (rngV 0 m)[i]? = some (i : Int) := by
  unfold rngV
  rw [List.getElem?_map, List.getElem?_range h]
  simp
theorem newls_app {H1 H : Hp} {D : Addr} {m : Nat} {f : Int → List Int} (h : NewLs LI H1 H D ((rngV 0 m).map f)) {x : Int} (x0 : 0 ≤ x) (x1 : x < (m : Int)) (y : Int) :
    ∃ (ps : List Addr) (p : Addr), H D = some (.lst (ps.map V.ref)) ∧ ps[x.toNat]? = some p ∧ H p = some (.lst ((f x).map V.int)) ∧ H1 p = none ∧ p ≠ D ∧ NewLs LI H1 (upd H p (.lst ((f x ++ [y]).map V.int))) D ((rngV 0 m).map fun t => if t = x then f x ++ [y] else f t) := by
  obtain ⟨ps, e, nd, nw, pr⟩ := h.ex
  have hl := Pd.len pr
  rw [List.length_map, rngV_length] at hl
  have hx : x.toNat < m := by omega
  have hxx : ((x.toNat : Nat) : Int) = x := by omega
  have gx : ((rngV 0 m).map f)[x.toNat]? = some (f x) := by rw [List.getElem?_map, rng_get hx, hxx]; rfl
  obtain ⟨p, hp, rp⟩ := Pd.get' pr gx
  have np := nw p (List.mem_of_getElem? hp)
  refine ⟨ps, p, e, hp, rp, np.1, np.2, ⟨ps, by rw [upd_ne (Ne.symm np.2)]; exact e, nd, nw, ?_⟩⟩
  refine pd_of (by rw [List.length_map, rngV_length]; exact hl) fun i q b hq hb => ?_
  have hi : i < m := by rw [← hl]; exact (List.getElem?_eq_some_iff.mp hq).1
  rw [List.getElem?_map, rng_get hi] at hb
  have hb' : (if (i : Int) = x then f x ++ [y] else f (i : Int)) = b := Option.some.inj hb
  by_cases c : (i : Int) = x
  · rw [if_pos c] at hb'
    have : i = x.toNat := by omega
    subst this
    rw [hp] at hq
    cases hq
    unfold LI
    rw [upd_same, hb']
  · rw [if_neg c] at hb'
    have ne : q ≠ p := fun z => by
      subst z
      obtain ⟨h1, e1⟩ := List.getElem?_eq_some_iff.mp hp
      obtain ⟨h2, e2⟩ := List.getElem?_eq_some_iff.mp hq
      have := (List.getElem_inj nd).mp (e1.trans e2.symm)
      omega
    obtain ⟨z, hz, rz⟩ := Pd.get pr hq
    rw [List.getElem?_map, rng_get hi] at hz
    have hz' : f (i : Int) = z := Option.some.inj hz
    unfold LI at rz ⊢
    rw [upd_ne ne, rz, ← hz', hb']
def blkAt (bs : List (List Int)) (i : Int) : List Int := bs.getD i.toNat []
def swapRow (bs : List (List Int)) (n : Nat) (t : Int) : List Int := (rngV 0 n).filter fun i => (blkAt bs i).contains t
def swapB (m : Nat) (bs : List (List Int)) : List (List Int) := (rngV 0 m).map (swapRow bs bs.length)
theorem swapRow_succ (bs : List (List Int)) (n : Nat) (t : Int) : swapRow bs (n + 1) t = swapRow bs n t ++ if (blkAt bs (n : Int)).contains t then [(n : Int)] else [] := by
  unfold swapRow
  have : rngV 0 (n + 1) = rngV 0 n ++ [(n : Int)] := by
    unfold rngV; rw [List.range_succ, List.map_append]; simp
  rw [this, List.filter_append]
  congr 1
  by_cases c : (blkAt bs (n : Int)).contains t = true
  · rw [if_pos c]; simp only [List.filter_cons, List.filter_nil]; rw [if_pos c]
  · rw [if_neg c]; simp only [List.filter_cons, List.filter_nil]; rw [if_neg c]
theorem blkAt_get {bs : List (List Int)} {i : Nat} {b : List Int} (h : bs[i]? = some b) : blkAt bs (i : Int) = b := by
  unfold blkAt
  rw [Int.toNat_natCast, List.getD_eq_getElem?_getD, h]; rfl
theorem rng_lt (m : Nat) : (rngV 0 m).Pairwise (· < ·) := by
  unfold rngV
  rw [List.pairwise_map]
  exact List.Pairwise.imp (fun h => by omega) List.pairwise_lt_range
theorem swapRow_rise (bs : List (List Int)) (n : Nat) (t : Int) : Rise2 n (swapRow bs n t) := by
  refine ⟨(rng_lt n).filter _, fun x hx => ?_⟩
  have := mem_rngV_iff.mp (List.mem_filter.mp hx).1
  omega
end L2
set_option Elab.async false
set_option linter.all false
set_option maxRecDepth 100000
namespace L2
open PySem
end L2
set_option Elab.async false
set_option linter.all false
set_option maxRecDepth 100000
namespace PySem
namespace F
theorem my_tup_set : isSubtype (.type "tuple") (.type "set") = pure false := by rw [isSubtype_type]; kernel_rfl
theorem my_tup_frozenset : isSubtype (.type "tuple") (.type "frozenset") = pure false := by rw [isSubtype_type]; kernel_rfl
end F
section
variable {prog : Program} {w : World} {A : Around} {E : Value → Shared → Prop} {s : Shared}
abbrev freshSet (led : Bool) : Obj := { cls := .type "set", dict := none, data := .set #[] 0 (.fresh 0 0 led) }
def memOf (ns : List Int) (k : Int) : Bool := (PyProof.Rows.firstMet (fun i => ns.getD i 0) ns.length).any (· == k)
def sizOf (ns : List Int) : Nat := (PyProof.Rows.firstMet (fun i => ns.getD i 0) ns.length).length
set_option maxHeartbeats 3200000 in
theorem set_init_tup {l a : Addr} {its : List Value} {ns : List Int} {led : Bool} {Q : PySem.Fin → Shared → Prop} (hh : A.handled = none) (hl : s.heap.IsTuple l its.toArray) (hi : PyProof.Rows.IntsAre its ns) (hb : ns.length + 1 < scanBound)
    (ha : s.heap.get? a = some (freshSet led))
    (h : ∀ (h' : Heap) (tk : Nat), h'.SetOf (intKind prog w) a (memOf ns) (sizOf ns) → (∀ b o, b ≠ a → s.heap.get? b = some o → h'.get? b = some o) → Q (.done (.ret .none)) { s with heap := h', toks := tk }) :
    wpAny (model prog w) A (Builtin.«set.__init__» ⟨[.ref a, .ref l], []⟩) Q E s := by
  have hT : s.TypeIs (.ref a) "set" := ⟨_, ha, rfl⟩
  obtain ⟨⟨oc, od, oe, os⟩, ho, k1, n1, k2⟩ := id hl
  simp only at k1 k2
  subst k1; subst k2
  have f1 := F.my_tup_set
  have f2 := F.my_tup_frozenset
  have f3 : (Value.type "tuple" == Value.type "dict") = false := by decide
  have al : a ≠ l := fun e => by rw [e, ho] at ha; exact absurd ha (by simp)
  have hlt : l < s.heap.objs.size := Heap.lt_size ho
  have hat : a < s.heap.objs.size := Heap.lt_size ha
  have hlen := hi.length
  obtain ⟨hp, g, d, tk, oo⟩ := s
  unfold Builtin.«set.__init__» noKeywords Builtin.Frozenset.updateFrom
  generalize hPI : pyIter = PI
  wp_walk
  subst hPI
  refine wpAny_pyIter_tuple hl ?_
  refine wpAny_bind (wpAny_runValue ?_)
  have hv : ∀ (i : Nat) (v : Value), its.toArray[i]? = some v → ∃ t, v = .int ((fun i => ns.getD i 0) i) t := fun i v e => PyProof.Rows.IntsAre.int_at hi i v (by simpa using e)
  have h3 : A.in1.in1.handled = none := by simp [hh]
  have nf : a ∉ [hp.objs.size, l] := by
    simp only [List.mem_cons, List.not_mem_nil, or_false, not_or]
    exact ⟨Nat.ne_of_lt hat, al⟩
  refine PyProof.Rows.codeAny_set_update_loopS ((Walks.tuple (by simp [hh]) _ l (Nat.ne_of_lt hlt) its.toArray).toS) a nf (fun i => ns.getD i 0) hv (by rw [List.size_toArray, hlen]; exact hb) (its.toArray.size - 0) 0 _ (by omega) (Nat.zero_le _) ⟨⟨_, Heap.get?_push_size _ rfl, rfl, rfl⟩, hl.push _⟩ ?z ?r
  case z =>
    exact PyProof.Rows.SetOf_congr ((PyProof.Rows.setObjOf_fresh (knd := intKind prog w) led).setOf (Heap.get?_push_of_some _ ha) (by unfold scanBound; omega)) (fun _ => rfl) rfl
  case r =>
    intro s' hm hS
    obtain ⟨h', g', d', tk', os'⟩ := s'
    have eg : g' = g := hm.gens
    have ed : d' = d := hm.drawn
    have eo : os' = oo := hm.os
    subst eg; subst ed; subst eo
    show wpAny _ _ _ _ _ _
    refine wpAny_pure ?_
    show wpAny _ _ (ret Value.none) _ _ _
    rw [List.size_toArray, hlen] at hS
    refine wpAny_pure (h h' tk' hS fun b o hb e => ?_)
    refine hm.heap b o ?_ (Heap.get?_push_of_some _ e)
    simp only [List.mem_cons, List.not_mem_nil, or_false, not_or]
    exact ⟨hb, Nat.ne_of_lt (Heap.lt_size e)⟩
set_option maxHeartbeats 3200000 in
theorem set_of_tup {l : Addr} {its : List Value} {ns : List Int} {Q : Value → Shared → Prop} (hh : A.handled = none) (hl : s.heap.IsTuple l its.toArray) (hi : PyProof.Rows.IntsAre its ns) (hb : ns.length + 1 < scanBound)
    (h : ∀ (h' : Heap) (tk : Nat), h'.SetOf (intKind prog w) s.heap.objs.size (memOf ns) (sizOf ns) → (∀ b o, s.heap.get? b = some o → h'.get? b = some o) → Q (.ref s.heap.objs.size) { s with heap := h', toks := tk }) :
    wpAny (model prog w) A (call (.type "set") [.ref l]) Q E s := by
  obtain ⟨c, tl, mro⟩ := F.called_set.mro
  have y1 := F.called_set.made
  have y2 := F.called_set.sub
  have y3 := F.called_set.notType
  have y4 := F.called_set.canCreate
  have y5 := F.typeCall_set_1 (.ref l)
  refine wpAny_call (codeAny_of_tree ?_)
  show wpAny _ _ (callAny (.type "set") _) _ _ _
  refine wpAny_pure ⟨Code.quiet_builtin _ (by decide +kernel), codeAny_builtin F.entry_type_call ?_⟩
  rw [Around.under_plain (weight_type_call_type "set" [.ref l] []) rfl]
  repeat (any_goals (first | assumption | wp_step))
  refine codeAny_mono (code_set_new_1 (.ref l) (E := E) (Q₁ := fun o s1 => ∃ led : Bool, o = .ref s.heap.objs.size ∧ s1 = { s with heap := s.heap.push (freshSet led) }) fun led => ⟨led, rfl, rfl⟩) fun r s1 hr => ?_
  match r, hr with
  | .error e, hr => exact hr
  | .ok .next, hr => exact hr.elim
  | .ok .brk, hr => exact hr.elim
  | .ok .cont, hr => exact hr.elim
  | .ok (.ret o), hr =>
    obtain ⟨led, rfl, rfl⟩ := hr
    have g1 : (s.heap.push (freshSet led)).get? s.heap.objs.size = some (freshSet led) := Heap.get?_push_size _ rfl
    have hT : Shared.TypeIs { s with heap := s.heap.push (freshSet led) } (.ref s.heap.objs.size) "set" := ⟨_, g1, rfl⟩
    have z1 := F.called_set.init.lookup
    have z2 := F.called_set.init.bind (.ref s.heap.objs.size)
    repeat (any_goals (first | assumption | wp_step))
    refine codeAny_mono (codeAny_call_builtin (R := wants (fun v s2 => v = .none ∧ ∃ h' tk, s2 = { s with heap := h', toks := tk } ∧ h'.SetOf (intKind prog w) s.heap.objs.size (memOf ns) (sizOf ns) ∧ ∀ b o, s.heap.get? b = some o → h'.get? b = some o) E) F.called_set.init.plain F.entry_set_init (check_set_init_1 hT ?_)) fun r2 s2 hr2 => ?_
    · refine set_init_tup (s := { s with heap := s.heap.push (freshSet led) }) (by simp [hh]) (hl.push _) hi hb g1 fun h' tk hS k => ?_
      exact ⟨rfl, h', tk, rfl, hS, fun b o e => k b o (Nat.ne_of_lt (Heap.lt_size e)) (Heap.get?_push_of_some _ e)⟩
    · match r2, hr2 with
      | .error e, hr2 => exact hr2
      | .ok .next, hr2 => exact hr2.elim
      | .ok .brk, hr2 => exact hr2.elim
      | .ok .cont, hr2 => exact hr2.elim
      | .ok (.ret v), hr2 =>
        obtain ⟨rfl, h', tk, rfl, hS, k⟩ := hr2
        repeat (any_goals (first | assumption | wp_step))
        exact h _ _ hS k
theorem memOf_eq (ns : List Int) (k : Int) : memOf ns k = ns.contains k := by
  unfold memOf
  rw [PyProof.Rows.firstMet_any]
  have : (List.range ns.length).map (fun i => ns.getD i 0) = ns := by
    apply List.ext_getElem?
    intro i
    by_cases h : i < ns.length
    · rw [List.getElem?_map, List.getElem?_range h]; simp [List.getD, h]
    · rw [List.getElem?_eq_none (by simp; omega), List.getElem?_eq_none (by omega)]
  rw [this, Bool.eq_iff_iff, List.any_eq_true, List.contains_iff_mem]
  constructor
  · rintro ⟨x, hx, e⟩
    rw [← beq_iff_eq.mp e]; exact hx
  · intro hm
    exact ⟨k, hm, by simp⟩
end
end PySem
namespace L2
open PySem PySem.Spec PyProof.Rows
section
variable {X : Cx}
def cSetT : List V → Hp → VK → Prop := fun vs H Q => ∃ (a : Addr) (ns : List Int), vs = [V.ref a] ∧ H a = some (.tup (ns.map V.int)) ∧ ns.length ≤ 1000 ∧ ∀ p H', H p = none → Same H H' → H' p = some (.set (fun k => ns.contains k) (sizOf ns)) → Q (.ref p) H'
theorem k_setT (hc : X.calm = true) : CallR X (.type "set") cSetT := by
  intro pins s σ H vs us Q I r h
  obtain ⟨a, ns, rfl, ha, lz, q⟩ := h
  obtain ⟨its, rv, hl, _⟩ := I.tuple (SqT.of ha)
  rw [Vals.ref1 r]
  refine set_of_tup (I.ok.hd hc) hl rv.ints (by unfold scanBound; omega) fun h' tk hS k => ?_
  have fr : H s.heap.objs.size = none := I.hok.fresh (Nat.le_refl _)
  have em : memOf ns = fun k => ns.contains k := funext fun k => memOf_eq ns k
  rw [em] at hS
  exact ⟨.ref _, _, I.laid (t' := tk) (a := s.heap.objs.size) (o := .set (fun k => ns.contains k) (sizOf ns)) k (Nat.le_refl _) hS, rfl, q _ _ fr (Same.new fr _) upd_same⟩
def rNotInS : R2 := fun x y H Q => ∃ (k : Int) (a : Addr) (S : Int → Bool) (n : Nat), x = .int k ∧ y = .ref a ∧ H a = some (.set S n) ∧ Q (.bl (!S k)) H
theorem op_notInS : OpR X (compareOp .NotIn) rNotInS := by
  intro pins s σ H x y v u Q I rx ry h
  obtain ⟨k, a, S, n, rfl, rfl, ha, q⟩ := h
  obtain ⟨t, rfl⟩ := rx
  cases ry
  have hS : s.heap.SetOf (intKind X.prog X.w) a S n := I.hok a _ ha
  exact wpAny_notInSet_of (knd := intKind X.prog X.w) (k := k) (intKind_is _ _ _ _) rfl hS ⟨.bl _, H, I.tok _, rfl, q⟩
end
end L2
set_option Elab.async false
set_option linter.all false
set_option maxRecDepth 100000
namespace L2
open PySem PySem.Spec PyProof.Rows
def tTry0 (K : PySem.W.Frag) (D : Addr) (tb : TX) (ts : TS) : TS := fun W σ H => tb W (fun C σ0 H' => PySem.W.mroIn K C (.ref D) = some true ∧ ∀ x, H' x = none → ts W σ0 (upd H' x (.ext (xcO x C)))) σ H
section
variable {X : Cx}
end
end L2
set_option Elab.async false
set_option linter.all false
set_option maxRecDepth 100000
namespace PySem
namespace SetTable
def adv (mask : Nat) (p : Probe) : Probe :=
  if p.more > 0 then { p with j := p.j + 1, more := p.more - 1 } else
  let (i, perturb) := leap mask p.i p.perturb
  { p with j := i, more := runEnd mask i - i, i, perturb }
def st0 (mask : Nat) (h : Int) : Probe := { j := bits h % (mask + 1), more := runEnd mask (bits h % (mask + 1)) - bits h % (mask + 1), i := bits h % (mask + 1), perturb := bits h, dummy := none }
def pr (mask : Nat) (h : Int) : Nat → Probe
  | 0 => st0 mask h
  | n + 1 => adv mask (pr mask h n)
def lp (mask : Nat) (h : Int) : Nat → Nat × Nat
  | 0 => (bits h % (mask + 1), bits h)
  | n + 1 => leap mask (lp mask h n).1 (lp mask h n).2
def atLeap (mask : Nat) (q : Nat × Nat) : Probe := { j := q.1, more := runEnd mask q.1 - q.1, i := q.1, perturb := q.2, dummy := none }
theorem run_le (mask i : Nat) : runEnd mask i - i ≤ 9 := by unfold runEnd; split <;> omega
theorem run_ge (mask i : Nat) : i ≤ runEnd mask i := by unfold runEnd; split <;> omega
theorem seg (mask : Nat) (h : Int) (m : Nat) (q : Nat × Nat) (e : pr mask h m = atLeap mask q) : ∀ x, x ≤ runEnd mask q.1 - q.1 → pr mask h (m + x) = { j := q.1 + x, more := runEnd mask q.1 - q.1 - x, i := q.1, perturb := q.2, dummy := none }
  | 0, _ => by rw [Nat.add_zero, e]; rfl
  | x + 1, hx => by
    have ih := seg mask h m q e x (by omega)
    show adv mask (pr mask h (m + x)) = _
    rw [ih]
    unfold adv
    rw [if_pos (by show runEnd mask q.1 - q.1 - x > 0; omega)]
    show Probe.mk (q.1 + x + 1) (runEnd mask q.1 - q.1 - x - 1) _ _ _ = Probe.mk (q.1 + (x + 1)) (runEnd mask q.1 - q.1 - (x + 1)) _ _ _
    rw [Nat.add_assoc, Nat.sub_sub]
theorem nextLeap (mask : Nat) (h : Int) (m : Nat) (q : Nat × Nat) (e : pr mask h m = atLeap mask q) : pr mask h (m + (runEnd mask q.1 - q.1) + 1) = atLeap mask (leap mask q.1 q.2) := by
  have := seg mask h m q e _ (Nat.le_refl _)
  show adv mask (pr mask h (m + (runEnd mask q.1 - q.1))) = _
  rw [this]
  unfold adv
  rw [if_neg (by show ¬ runEnd mask q.1 - q.1 - (runEnd mask q.1 - q.1) > 0; omega)]
  rfl
def ls (mask : Nat) (h : Int) : Nat → Nat
  | 0 => 0
  | n + 1 => ls mask h n + (runEnd mask (lp mask h n).1 - (lp mask h n).1) + 1
theorem ls_at (mask : Nat) (h : Int) : ∀ n, pr mask h (ls mask h n) = atLeap mask (lp mask h n)
  | 0 => rfl
  | n + 1 => nextLeap mask h _ _ (ls_at mask h n)
def f5 (i : Nat) : Nat := 5 * i + 1
def it5 : Nat → Nat → Nat
  | 0, i => i
  | n + 1, i => it5 n (f5 i)
theorem it5_add : ∀ a b i, it5 (a + b) i = it5 b (it5 a i)
  | 0, b, i => by rw [Nat.zero_add]; rfl
  | a + 1, b, i => by rw [Nat.succ_add]; exact it5_add a b (f5 i)
theorem it5_pow : ∀ k : Nat, ∃ u v : Nat, ∀ x, it5 (2 ^ k) x = (1 + 2 ^ (k + 2) * u) * x + 2 ^ k * (1 + 2 * v)
  | 0 => ⟨1, 0, fun x => by show 5 * x + 1 = _; omega⟩
  | k + 1 => by
    obtain ⟨u, v, h⟩ := it5_pow k
    refine ⟨u + 2 ^ (k + 1) * u * u, v + 2 ^ k * u + 2 ^ (k + 1) * u * v, fun x => ?_⟩
    have e : 2 ^ (k + 1) = 2 ^ k + 2 ^ k := by rw [Nat.pow_succ]; omega
    rw [show it5 (2 ^ (k + 1)) x = it5 (2 ^ k) (it5 (2 ^ k) x) by rw [e]; exact it5_add _ _ _, h, h]
    have p1 : (2 : Nat) ^ (k + 1) = 2 * 2 ^ k := by rw [Nat.pow_succ]; omega
    have p2 : (2 : Nat) ^ (k + 2) = 4 * 2 ^ k := by rw [Nat.pow_succ, Nat.pow_succ]; omega
    have p3 : (2 : Nat) ^ (k + 1 + 2) = 8 * 2 ^ k := by rw [Nat.pow_succ, Nat.pow_succ, Nat.pow_succ]; omega
    rw [p1, p2, p3]
    generalize (2 : Nat) ^ k = a
    grind
theorem cover5 : ∀ k i s : Nat, s < 2 ^ k → ∃ t, t < 2 ^ k ∧ it5 t i % 2 ^ k = s
  | 0, i, s, hs => ⟨0, by decide, by rw [Nat.pow_zero, Nat.mod_one]; omega⟩
  | k + 1, i, s, hs => by
    have p1 : (2 : Nat) ^ (k + 1) = 2 * 2 ^ k := by rw [Nat.pow_succ]; omega
    have a0 : 0 < 2 ^ k := Nat.pow_pos (by decide)
    obtain ⟨t, ht, e⟩ := cover5 k i (s % 2 ^ k) (Nat.mod_lt _ a0)
    obtain ⟨u, v, hp⟩ := it5_pow k
    have h2 := it5_add t (2 ^ k) i
    rw [hp] at h2
    have p2 : (2 : Nat) ^ (k + 2) = 4 * 2 ^ k := by rw [Nat.pow_succ, Nat.pow_succ]; omega
    rw [p2] at h2
    rw [p1] at hs ⊢
    generalize it5 (t + 2 ^ k) i = B at *
    have keyB : B % (2 * 2 ^ k) = (it5 t i + 2 ^ k) % (2 * 2 ^ k) := by
      rw [h2, show (1 + 4 * 2 ^ k * u) * it5 t i + 2 ^ k * (1 + 2 * v) = it5 t i + 2 ^ k + (2 * 2 ^ k) * (2 * u * it5 t i + v) by grind, Nat.add_mul_mod_self_left]
    by_cases c : it5 t i % (2 * 2 ^ k) = s
    · exact ⟨t, by omega, c⟩
    · refine ⟨t + 2 ^ k, by omega, ?_⟩
      have hB : it5 (t + 2 ^ k) i % (2 * 2 ^ k) = (it5 t i + 2 ^ k) % (2 * 2 ^ k) := by
        rw [it5_add, hp, p2, show (1 + 4 * 2 ^ k * u) * it5 t i + 2 ^ k * (1 + 2 * v) = it5 t i + 2 ^ k + (2 * 2 ^ k) * (2 * u * it5 t i + v) by grind, Nat.add_mul_mod_self_left]
      rw [hB]
      clear hB keyB h2 hp
      generalize 2 ^ k = a at *
      generalize it5 t i = x at *
      have e1 : x % (2 * a) % a = x % a := Nat.mod_mul_left_mod x 2 a
      have l1 : x % (2 * a) < 2 * a := Nat.mod_lt _ (by omega)
      have e2 : (x + a) % (2 * a) = (x % (2 * a) + a) % (2 * a) := by rw [Nat.mod_add_mod]
      rw [e2]
      generalize x % (2 * a) = y at *
      rw [e] at e1
      by_cases y1 : y < a
      · rw [Nat.mod_eq_of_lt y1] at e1
        rw [Nat.mod_eq_of_lt (by omega)]
        by_cases s1 : s < a
        · rw [Nat.mod_eq_of_lt s1] at e1; omega
        · rw [Nat.mod_eq_sub_mod (by omega), Nat.mod_eq_of_lt (by omega)] at e1; omega
      · rw [Nat.mod_eq_sub_mod (by omega), Nat.mod_eq_of_lt (by omega)] at e1
        rw [Nat.mod_eq_sub_mod (by omega), Nat.mod_eq_of_lt (by omega)]
        by_cases s1 : s < a
        · rw [Nat.mod_eq_of_lt s1] at e1; omega
        · rw [Nat.mod_eq_sub_mod (by omega), Nat.mod_eq_of_lt (by omega)] at e1; omega
theorem lp_perturb (mask : Nat) (h : Int) : ∀ n, (lp mask h n).2 = bits h / 32 ^ n
  | 0 => by rw [Nat.pow_zero, Nat.div_one]; rfl
  | n + 1 => by
    show (lp mask h n).2 / 32 = _
    rw [lp_perturb mask h n, Nat.div_div_eq_div_mul, Nat.pow_succ]
theorem bits_lt (h : Int) : bits h < 2 ^ 64 := by
  unfold bits
  have h0 := Int.emod_nonneg h (b := (2 ^ 64 : Int)) (by decide)
  have h1 := Int.emod_lt_of_pos h (b := (2 ^ 64 : Int)) (by decide)
  omega
theorem lp_zero (mask : Nat) (h : Int) {n : Nat} (hn : 13 ≤ n) : (lp mask h n).2 = 0 := by
  rw [lp_perturb]
  refine Nat.div_eq_of_lt (Nat.lt_of_lt_of_le (bits_lt h) ?_)
  exact Nat.le_trans (by decide : 2 ^ 64 ≤ 32 ^ 13) (Nat.pow_le_pow_right (by decide) hn)
theorem lp_it (mask : Nat) (h : Int) : ∀ t, (lp mask h (13 + t)).1 % (mask + 1) = it5 t (lp mask h 13).1 % (mask + 1)
  | 0 => rfl
  | t + 1 => by
    have ih := lp_it mask h t
    have e : (lp mask h (13 + (t + 1))).1 = ((lp mask h (13 + t)).1 * 5 + 1 + (lp mask h (13 + t)).2 / 32) % (mask + 1) := rfl
    rw [e, lp_zero mask h (by omega), Nat.mod_mod, Nat.zero_div, Nat.add_zero]
    have h1 : it5 (t + 1) (lp mask h 13).1 = f5 (it5 t (lp mask h 13).1) := by
      rw [show t + 1 = t + 1 from rfl, it5_add t 1]; rfl
    rw [h1]
    unfold f5
    rw [Nat.add_mod, Nat.mul_mod, ih, ← Nat.mul_mod, ← Nat.add_mod, Nat.mul_comm]
theorem lp_lt (mask : Nat) (h : Int) : ∀ n, (lp mask h n).1 < mask + 1
  | 0 => Nat.mod_lt _ (Nat.succ_pos _)
  | n + 1 => Nat.mod_lt _ (Nat.succ_pos _)
theorem cover {mask k : Nat} (hm : mask + 1 = 2 ^ k) (h : Int) {s : Nat} (hs : s ≤ mask) : ∃ n, n < 13 + (mask + 1) ∧ (lp mask h n).1 = s := by
  obtain ⟨t, ht, e⟩ := cover5 k (lp mask h 13).1 s (by omega)
  refine ⟨13 + t, by omega, ?_⟩
  have := lp_it mask h t
  rw [hm, e, ← hm, Nat.mod_eq_of_lt (lp_lt mask h _)] at this
  exact this
end SetTable
end PySem
set_option Elab.async false
set_option linter.all false
set_option maxRecDepth 100000
namespace PySem
namespace SetTable
theorem nd_len {α : Type} [DecidableEq α] : ∀ {l m : List α}, l.Nodup → (∀ x ∈ l, x ∈ m) → l.length ≤ m.length
  | [], m, _, _ => Nat.zero_le _
  | x :: l, m, nd, h => by
    obtain ⟨n1, n2⟩ := List.nodup_cons.mp nd
    have hx := h x List.mem_cons_self
    have := nd_len (l := l) (m := m.erase x) n2 fun y hy => (List.mem_erase_of_ne (fun e : y = x => n1 (e ▸ hy))).mpr (h y (List.mem_cons_of_mem _ hy))
    rw [List.length_erase_of_mem hx] at this
    have := List.length_pos_of_mem hx
    rw [List.length_cons]; omega
theorem free_slot {pl : List Nat} {mask : Nat} (hl : pl.length ≤ mask) : ∃ s, s ≤ mask ∧ s ∉ pl := by
  by_cases c : ∃ s, s ≤ mask ∧ s ∉ pl
  · exact c
  · have h1 := nd_len (l := List.range (mask + 1)) (m := pl) List.nodup_range fun x hx => by
      by_cases m : x ∈ pl
      · exact m
      · exact absurd ⟨x, Nat.lt_succ_iff.mp (List.mem_range.mp hx), m⟩ c
    rw [List.length_range] at h1
    omega
theorem adv_bound {mask : Nat} {p : Probe} (h : p.j + p.more ≤ mask ∧ p.i ≤ mask) : (adv mask p).j + (adv mask p).more ≤ mask ∧ (adv mask p).i ≤ mask := by
  have rb : ∀ i, i ≤ mask → i + (runEnd mask i - i) ≤ mask := fun i hi => by unfold runEnd; split <;> omega
  unfold adv
  split
  · exact ⟨by show p.j + 1 + (p.more - 1) ≤ mask; omega, h.2⟩
  · have l : (leap mask p.i p.perturb).1 ≤ mask := Nat.lt_succ_iff.mp (Nat.mod_lt _ (Nat.succ_pos _))
    exact ⟨rb _ l, l⟩
theorem pr_bound (mask : Nat) (h : Int) : ∀ n, (pr mask h n).j + (pr mask h n).more ≤ mask ∧ (pr mask h n).i ≤ mask
  | 0 => by
    have rb : ∀ i, i ≤ mask → i + (runEnd mask i - i) ≤ mask := fun i hi => by unfold runEnd; split <;> omega
    have l : bits h % (mask + 1) ≤ mask := Nat.lt_succ_iff.mp (Nat.mod_lt _ (Nat.succ_pos _))
    exact ⟨rb _ l, l⟩
  | n + 1 => adv_bound (pr_bound mask h n)
theorem pr_le (mask : Nat) (h : Int) (n : Nat) : (pr mask h n).j ≤ mask := by have := (pr_bound mask h n).1; omega
def Reach (mask : Nat) (pl : List Nat) (h : Int) (s : Nat) : Prop := ∃ m, (pr mask h m).j = s ∧ ∀ m', m' < m → (pr mask h m').j ∈ pl
theorem Reach.mono {mask : Nat} {pl pl' : List Nat} {h : Int} {s : Nat} (r : Reach mask pl h s) (l : ∀ x ∈ pl, x ∈ pl') : Reach mask pl' h s := let ⟨m, a, b⟩ := r; ⟨m, a, fun m' hm => l _ (b m' hm)⟩
structure TOk (t : SetTable) (el : List (Int × Value)) : Prop where
  k : ∃ k, k ≤ 13 ∧ k % 2 = 1 ∧ t.mask + 1 = 2 ^ k
  m3 : 7 ≤ t.mask
  dm : t.dummies = #[]
  sz : t.place.size = el.length
  ris : t.place.toList.Pairwise (· < ·)
  le : ∀ j ∈ t.place.toList, j ≤ t.mask
  full : 5 * el.length < 3 * t.mask
  reach : ∀ (i s : Nat) (e : Int × Value), t.place.toList[i]? = some s → el[i]? = some e → Reach t.mask t.place.toList e.1 s
structure Put (t t' : SetTable) (p : Nat) (j : Nat) : Prop where
  pl : t'.place.toList = t.place.toList.take p ++ j :: t.place.toList.drop p
  mask : t'.mask = t.mask
  dm : t'.dummies = #[]
  ris : t'.place.toList.Pairwise (· < ·)
  ple : p ≤ t.place.toList.length
structure TOk' (t : SetTable) (el : List (Int × Value)) : Prop where
  k : ∃ k, k ≤ 13 ∧ k % 2 = 1 ∧ t.mask + 1 = 2 ^ k
  m3 : 7 ≤ t.mask
  dm : t.dummies = #[]
  sz : t.place.size = el.length
  ris : t.place.toList.Pairwise (· < ·)
  le : ∀ j ∈ t.place.toList, j ≤ t.mask
  full : 5 * el.length < 3 * t.mask + 5
  reach : ∀ (i s : Nat) (e : Int × Value), t.place.toList[i]? = some s → el[i]? = some e → Reach t.mask t.place.toList e.1 s
end SetTable
end PySem
set_option Elab.async false
set_option linter.all false
set_option maxRecDepth 100000
namespace PySem
namespace F
end F
def byText (w : World) : Bool := w.params.followText "set-order"
def walkOf (w : World) (a : Addr) (ep : Nat) (es : Array (Int × Value)) : Array (Int × Value) := if byText w then pickOrder (w.params.setOrder a ep) es else es
def Heap.SetW (w : World) (h : Heap) (a : Addr) (es : Array (Int × Value)) (ep : Nat) (t : SetTable) : Prop :=
  ∃ o, h.get? a = some o ∧ o.ExactSet ∧ o.data = .set es ep t ∧ t.fits es.size = true ∧ t.plain = true ∧ (byText w = true ∨ t.led = true) ∧ t.place.toList.Pairwise (· < ·)
def Heap.IsSetIter (h : Heap) (it a : Addr) (slot i n ep : Nat) : Prop := ∃ o, h.get? it = some o ∧ o.cls = .type "set_iterator" ∧ o.data = .fields #[.int slot 0, .int i 0, .ref a, .int n 0, .int ep 0]
section
variable {prog : Program} {w : World} {A : Around} {E : Value → Shared → Prop} {s : Shared}
end
end PySem
set_option Elab.async false
set_option linter.all false
set_option maxRecDepth 100000
namespace L2
open PySem PySem.Spec PyProof.Rows
section
variable {prog : Program} {w : World} {A : Around} {E : Value → Shared → Prop} {s : Shared}
theorem my_collect_tup {l : Addr} {us : List Value} {Q : List Value → Shared → Prop} (hl : s.heap.IsTuple l us.toArray) (hz : us.length ≤ sizeLine)
    (fin : Q us { s with heap := (s.heap.push (seqObj "list" #[] 0)).update s.heap.objs.size (Obj.mapSeq (· ++ us.toArray)) }) : wpAny (model prog w) A (collect (.ref l)) Q E s := by
  obtain ⟨o, g1, g2, n, g3⟩ := id hl
  have g1' : (s.heap.push (seqObj "list" #[] 0)).get? l = some o := Heap.get?_push_of_some _ g1
  have new : (s.heap.push (seqObj "list" #[] 0)).get? s.heap.objs.size = some (seqObj "list" #[] 0) := Heap.get?_push_size _ rfl
  have ht : (Value.type "tuple" == Value.type "tuple") = true := by rfl
  unfold collect
  refine wpAny_bind (wpAny_runValue (codeAny_builtin entry_proto_collect' (show wpAny _ _ (do again (.builtin "list.__iadd__" ⟨[← newList [], .ref l], []⟩)) _ _ s from ?_)))
  refine wpAny_bind (wpAny_newList (wpAny_pure ⟨Code.quiet_builtin _ (by decide +kernel), codeAny_builtin entry_list_iadd' (show wpAny _ _ (Builtin.List.listExtendWith (.ref s.heap.objs.size) (.ref l) (.ref s.heap.objs.size)) _ _ { s with heap := s.heap.push (seqObj "list" #[] 0) } from ?_)⟩))
  unfold Builtin.List.listExtendWith
  refine wpAny_bind (wpAny_typeOf (T := "tuple") ⟨o, g1', g2⟩ ?_)
  rw [if_pos (by rw [ht]; simp)]
  refine wpAny_bind (listItems_at g1' g3 (wpAny_bind (listItems_at (xs := #[]) (n := 0) new rfl ?_)))
  rw [if_neg (by simp)]
  refine wpAny_bind (listUpdate_at (xs := #[]) (n := 0) new rfl (wpAny_pure ?_) (Nat.zero_le _) (by show (#[] ++ us.toArray).size ≤ sizeLine + 1; simp only [Array.size_append, List.size_toArray, List.length_nil]; omega))
  refine (show wpAny (model prog w) A (load s.heap.objs.size >>= fun o => match o.data with | .seq xs _ => pure xs.toList | _ => unsupported "internal:collect") Q E { s with heap := (s.heap.push (seqObj "list" #[] 0)).update s.heap.objs.size (Obj.mapSeq (· ++ us.toArray)) } from ?_)
  refine wpAny_bind (wpAny_load (get?_update_seq new _) ?_)
  have e : ((#[] : Array Value) ++ us.toArray).toList = us := by simp
  refine (show wpAny _ _ (pure ((#[] : Array Value) ++ us.toArray).toList) Q E _ from ?_)
  rw [e]
  exact wpAny_pure fin
theorem my_sorted_tupI {l : Addr} {us : List Value} {ns : List Int} {Q : Value → Shared → Prop} (hl : s.heap.IsTuple l us.toArray) (hI : IntsAre us ns) (hz : us.length ≤ sizeLine)
    (fin : ∀ (out : Array Value) (ns' : List Int), IntsAre out.toList ns' → ns'.Perm ns → ns'.Pairwise (· ≤ ·) → Q (.ref (s.heap.objs.size + 1)) { s with heap := sortedAll s.heap us out }) : wpAny (model prog w) A (call (.builtin "sorted") [.ref l]) Q E s := by
  refine Calls.call_function_entry kind_sorted plain_sorted entry_sorted (args_sorted1 _) ?_
  unfold Builtin.«sorted»
  refine wpAny_bind (m := checkCount "sorted" 1 1 _) (wpAny_pure (wpAny_bind (my_collect_tup hl hz (wpAny_bind (wpAny_newList ?_)))))
  have z1 : ((s.heap.push (seqObj "list" #[] 0)).update s.heap.objs.size (Obj.mapSeq (· ++ us.toArray))).objs.size = s.heap.objs.size + 1 := by rw [Heap.size_update, size_push']
  have z2 : (((s.heap.push (seqObj "list" #[] 0)).update s.heap.objs.size (Obj.mapSeq (· ++ us.toArray))).push (seqObj "list" us.toArray 0)).get? (s.heap.objs.size + 1) = some (seqObj "list" us.toArray 0) := by
    rw [← z1]
    exact Heap.get?_push_size _ rfl
  refine (show wpAny _ _ _ _ _ { s with heap := ((s.heap.push (seqObj "list" #[] 0)).update s.heap.objs.size (Obj.mapSeq (· ++ us.toArray))).push (seqObj "list" us.toArray 0) } from ?_)
  rw [z1]
  exact wpAny_bind (wpAny_holding (wpAny_call_entry slot_list_sort ⟨_, z2, rfl⟩ entry_list_sort (list_sort_treeAny z2 hI hz fun out ns' a1 a2 a3 => ⟨_, rfl, wpAny_pure ⟨_, rfl, fin out ns' a1 a2 a3⟩⟩) (args_list_sort _)))
end
section
variable {X : Cx}
def cSortA : List V → Hp → VK → Prop := fun vs H Q => ∃ (a : Addr) (ns : List Int), vs = [V.ref a] ∧ (H a = some (.lst (ns.map V.int)) ∨ H a = some (.tup (ns.map V.int))) ∧
  ∀ p H', H p = none → Same H H' → H' p = some (.lst ((isort ns).map V.int)) → Q (.ref p) H'
theorem k_sortA : CallR X (.builtin "sorted") cSortA := by
  intro pins s σ H vs us Q I r h
  obtain ⟨a, ns, rfl, ha, q⟩ := h
  rw [Vals.ref1 r]
  have fin : ∀ (its : List Value), its.length ≤ sizeLine → IntsAre its ns → ∀ (out : Array Value) (ns' : List Int), IntsAre out.toList ns' → ns'.Perm ns → ns'.Pairwise (· ≤ ·) → EP X pins σ Q (.ref (s.heap.objs.size + 1)) { s with heap := sortedAll s.heap its out } := by
    intro its hz hI out ns' a1 a2 a3
    have en := isort_is a2 a3
    subst en
    obtain ⟨ep, he'⟩ := sortedAll_at s.heap its out
    have hl : ((isort ns).map V.int).length ≤ sizeLine := by rw [List.length_map, a2.length_eq]; rw [hI.length] at hz; exact hz
    exact ⟨.ref _, _, I.laid (t' := s.toks) (fun _ _ => sortedAll_old) (Nat.le_succ _) (show ObjOk X.prog X.w _ _ _ (.lst _) from ⟨hl, out.toList, ep, vals_ints a1, by rw [he']⟩), rfl, q _ _ (I.hok.fresh (Nat.le_succ _)) (Same.new (I.hok.fresh (Nat.le_succ _)) _) upd_same⟩
  rcases ha with ha | ha
  · obtain ⟨its, rv, p, hz⟩ := I.list (SqL.of ha)
    exact sorted_intsAny p.isList (intsAre_of rv) (by rw [← rv.length]; exact hz) (fin its (by rw [← rv.length]; exact hz) (intsAre_of rv))
  · obtain ⟨its, rv, p, hz⟩ := I.tuple (SqT.of ha)
    exact my_sorted_tupI p (intsAre_of rv) (by rw [← rv.length]; exact hz) (fin its (by rw [← rv.length]; exact hz) (intsAre_of rv))
end
section
variable {H : Hp} {Q : VK}
theorem r_sortAL {a : Addr} {ns : List Int} (e : H a = some (.lst (ns.map V.int))) (h : ∀ p H', H p = none → Same H H' → H' p = some (.lst ((isort ns).map V.int)) → Q (.ref p) H') : cSortA [V.ref a] H Q := ⟨a, ns, rfl, .inl e, h⟩
end
end L2
set_option Elab.async false
set_option linter.all false
set_option maxRecDepth 100000
namespace PySem
open PyProof.Rows
section
variable {prog : Program} {w : World} {A : Around} {E : Value → Shared → Prop} {s : Shared}
def SetSt (w : World) (it a : Addr) (es : Array (Int × Value)) (ep : Nat) (t : SetTable) (i : Nat) (h : Heap) : Prop :=
  ∃ slot, h.IsSetIter it a slot i es.size ep ∧ h.SetW w a es ep t ∧ (byText w = false → SetTable.below t.place slot = i)
end
end PySem
set_option Elab.async false
set_option linter.all false
set_option maxRecDepth 100000
namespace PySem
namespace SetTable
structure Own (mask : Nat) (owner : Array (Option Nat)) (hs : List Int) (sl : List Nat) : Prop where
  sz : owner.size = mask + 1
  len : sl.length = hs.length
  to : ∀ (i j : Nat), sl[i]? = some j → j ≤ mask ∧ owner[j]? = some (some i)
  of : ∀ (j i : Nat), owner[j]? = some (some i) → sl[i]? = some j
  reach : ∀ (i j : Nat) (h : Int), sl[i]? = some j → hs[i]? = some h → Reach mask sl h j
theorem Own.none_iff {mask : Nat} {owner : Array (Option Nat)} {hs : List Int} {sl : List Nat} (o : Own mask owner hs sl) {j : Nat} (hj : j ≤ mask) : (owner.getD j (some 0)).isNone = true ↔ j ∉ sl := by
  have hl : j < owner.size := by rw [o.sz]; omega
  have eg : owner.getD j (some 0) = owner[j] := by simp [Array.getD, hl]
  rw [eg]
  constructor
  · intro h z
    obtain ⟨i, hi⟩ := List.getElem?_of_mem z
    have := (o.to i j hi).2
    rw [Array.getElem?_eq_getElem hl] at this
    rw [Option.some.inj this] at h
    cases h
  · intro h
    cases e : owner[j] with
    | none => rfl
    | some i => exact absurd (List.mem_of_getElem? (o.of j i (by rw [Array.getElem?_eq_getElem hl, e]))) h
theorem free_spec {mask : Nat} {owner : Array (Option Nat)} {hs : List Int} {sl : List Nat} (o : Own mask owner hs sl) (h : Int) : ∀ fuel n,
    (∃ n', n ≤ n' ∧ n' < n + fuel ∧ (lp mask h n').1 ∉ sl) → (∀ m', m' < ls mask h n → (pr mask h m').j ∈ sl) →
    ∃ m, layClean.free mask owner fuel (lp mask h n).1 (lp mask h n).2 = some (pr mask h m).j ∧ (pr mask h m).j ∉ sl ∧ ∀ m', m' < m → (pr mask h m').j ∈ sl := by
  intro fuel
  induction fuel with
  | zero => rintro n ⟨n', a, b, _⟩; omega
  | succ fuel ih =>
    intro n hex hbe
    have li : (lp mask h n).1 ≤ mask := Nat.lt_succ_iff.mp (lp_lt mask h n)
    have rb : (lp mask h n).1 + (runEnd mask (lp mask h n).1 - (lp mask h n).1) ≤ mask := by unfold runEnd; split <;> omega
    have rg := run_ge mask (lp mask h n).1
    have sg := seg mask h _ _ (ls_at mask h n)
    have jn : ∀ x, x ≤ runEnd mask (lp mask h n).1 - (lp mask h n).1 → (pr mask h (ls mask h n + x)).j = (lp mask h n).1 + x := fun x hx => by rw [sg x hx]
    unfold layClean.free
    cases e : (List.range (runEnd mask (lp mask h n).1 + 1 - (lp mask h n).1)).find? (fun k => (owner.getD ((lp mask h n).1 + k) (some 0)).isNone) with
    | some k =>
      obtain ⟨h1, h2, h3⟩ := List.find?_range_eq_some.mp e
      have hk : k ≤ runEnd mask (lp mask h n).1 - (lp mask h n).1 := by have := List.mem_range.mp h2; omega
      refine ⟨ls mask h n + k, by show some _ = _; rw [jn k hk], ?_, fun m' hm => ?_⟩
      · rw [jn k hk]; exact (o.none_iff (by omega)).mp h1
      · by_cases c : m' < ls mask h n
        · exact hbe m' c
        · have h4 := h3 (m' - ls mask h n) (by omega)
          have e5 : m' = ls mask h n + (m' - ls mask h n) := by omega
          rw [e5, jn _ (by omega)]
          refine Classical.byContradiction fun z => ?_
          rw [(o.none_iff (by omega)).mpr z] at h4
          cases h4
    | none =>
      have all : ∀ x, x ≤ runEnd mask (lp mask h n).1 - (lp mask h n).1 → (lp mask h n).1 + x ∈ sl := fun x hx => by
        have := List.find?_eq_none.mp e x (List.mem_range.mpr (by omega))
        exact Classical.byContradiction fun z => this ((o.none_iff (by omega)).mpr z)
      refine ih (n + 1) ?_ fun m' hm => ?_
      · obtain ⟨n', a, b, c⟩ := hex
        refine ⟨n', ?_, by omega, c⟩
        by_cases z : n' = n
        · subst z; exact absurd (by have := all 0 (Nat.zero_le _); rwa [Nat.add_zero] at this) c
        · omega
      · by_cases c : m' < ls mask h n
        · exact hbe m' c
        · have hm : m' < ls mask h n + (runEnd mask (lp mask h n).1 - (lp mask h n).1) + 1 := hm
          have e5 : m' = ls mask h n + (m' - ls mask h n) := by omega
          rw [e5, jn _ (by omega)]
          exact all _ (by omega)
theorem free_ok {mask k : Nat} (hm : mask + 1 = 2 ^ k) {owner : Array (Option Nat)} {hs : List Int} {sl : List Nat} (o : Own mask owner hs sl) (h : Int) (hl : hs.length ≤ mask) :
    ∃ m, layClean.free mask owner (turns mask) (bits h % (mask + 1)) (bits h) = some (pr mask h m).j ∧ (pr mask h m).j ∉ sl ∧ ∀ m', m' < m → (pr mask h m').j ∈ sl := by
  obtain ⟨s, s1, s2⟩ := free_slot (pl := sl) (mask := mask) (by rw [o.len]; exact hl)
  obtain ⟨n, n1, n2⟩ := cover hm h s1
  exact free_spec o h (turns mask) 0 ⟨n, Nat.zero_le _, by unfold turns; omega, by rw [n2]; exact s2⟩ fun m' hm => absurd hm (Nat.not_lt_zero _)
theorem Own.add {mask : Nat} {owner : Array (Option Nat)} {hs : List Int} {sl : List Nat} (o : Own mask owner hs sl) {h : Int} {m : Nat} (h1 : (pr mask h m).j ∉ sl) (h2 : ∀ m', m' < m → (pr mask h m').j ∈ sl) :
    Own mask (owner.setIfInBounds (pr mask h m).j (some hs.length)) (hs ++ [h]) (sl ++ [(pr mask h m).j]) := by
  have hj := pr_le mask h m
  have hjs : (pr mask h m).j < owner.size := by rw [o.sz]; omega
  have ls' := o.len
  refine ⟨by simp [o.sz], by simp [o.len], fun i j e => ?_, fun j i e => ?_, fun i j h' e1 e2 => ?_⟩
  · by_cases c : i < sl.length
    · rw [List.getElem?_append_left c] at e
      obtain ⟨a, b⟩ := o.to i j e
      refine ⟨a, ?_⟩
      have : (pr mask h m).j ≠ j := fun z => h1 (z ▸ List.mem_of_getElem? e)
      rw [Array.getElem?_setIfInBounds_ne this]; exact b
    · have hi : i = sl.length := by
        have := (List.getElem?_eq_some_iff.mp e).1
        rw [List.length_append] at this
        simp at this; omega
      subst hi
      rw [List.getElem?_append_right (Nat.le_refl _), Nat.sub_self] at e
      cases e
      refine ⟨hj, ?_⟩
      rw [Array.getElem?_setIfInBounds_self_of_lt hjs, o.len]
  · by_cases c : (pr mask h m).j = j
    · subst c
      rw [Array.getElem?_setIfInBounds_self_of_lt hjs] at e
      have : i = sl.length := by rw [o.len]; simpa using e.symm
      subst this
      rw [List.getElem?_append_right (Nat.le_refl _), Nat.sub_self]; rfl
    · rw [Array.getElem?_setIfInBounds_ne c] at e
      have e3 := o.of j i e
      rw [List.getElem?_append_left (List.getElem?_eq_some_iff.mp e3).1]; exact e3
  · have sub : ∀ y ∈ sl, y ∈ sl ++ [(pr mask h m).j] := fun y hy => List.mem_append_left _ hy
    by_cases c : i < sl.length
    · rw [List.getElem?_append_left c] at e1
      rw [List.getElem?_append_left (by omega)] at e2
      exact (o.reach i j h' e1 e2).mono sub
    · have hi : i = sl.length := by
        have := (List.getElem?_eq_some_iff.mp e1).1
        rw [List.length_append] at this
        simp at this; omega
      subst hi
      rw [List.getElem?_append_right (Nat.le_refl _), Nat.sub_self] at e1
      rw [ls', List.getElem?_append_right (Nat.le_refl _), Nat.sub_self] at e2
      cases e1; cases e2
      exact ⟨m, rfl, fun m' hm => sub _ (h2 m' hm)⟩
def layStep (mask : Nat) (acc : Option (Array (Option Nat) × Nat)) (h : Int) : Option (Array (Option Nat) × Nat) := do
  let (owner, k) ← acc
  let j ← layClean.free mask owner (turns mask) (bits h % (mask + 1)) (bits h)
  pure (owner.setIfInBounds j (some k), k + 1)
structure Laid (mask : Nat) (hs : List Int) (live : List (Nat × Nat)) : Prop where
  ris : (live.map (·.1)).Pairwise (· < ·)
  le : ∀ p ∈ live, p.1 ≤ mask
  perm : (live.map (·.2)).Perm (List.range hs.length)
  reach : ∀ p ∈ live, ∀ h, hs[p.2]? = some h → Reach mask (live.map (·.1)) h p.1
end SetTable
end PySem
set_option Elab.async false
set_option linter.all false
set_option maxRecDepth 100000
namespace PySem
namespace SetTable
end SetTable
open PySem.SetTable PyProof.Rows
section
variable {prog : Program} {w : World} {A : Around} {E : Value → Shared → Prop} {s : Shared}
def IE (e : Int × Value) (k : Int) : Prop := e.1 = hashInt k ∧ ∃ tk, e.2 = .int k tk
structure ISet (w : World) (h : Heap) (S : Addr) (kl : List Int) : Prop where
  ex : ∃ o es ep t, h.get? S = some o ∧ o.ExactSet ∧ o.data = .set es ep t ∧ TOk t es.toList ∧ t.plain = true ∧ (byText w = true ∨ t.led = true) ∧ Paired IE es.toList kl
  nd : kl.Nodup
end
end PySem
set_option Elab.async false
set_option linter.all false
set_option maxRecDepth 100000
namespace PySem
open PySem.SetTable PyProof.Rows
section
variable {prog : Program} {w : World} {A : Around} {E : Value → Shared → Prop} {s : Shared}
abbrev TKey (prog : Program) (w : World) (h : Heap) (k : List Int) (q : Addr) : Prop := IsTupleKey (intKind prog w) h k q
abbrev tHash (prog : Program) (w : World) (k : List Int) : Int := tupleKeyHash (intKind prog w) k
end
end PySem
set_option Elab.async false
set_option linter.all false
set_option maxRecDepth 100000
namespace PySem
end PySem
namespace L2
open PySem PySem.Spec PyProof.Rows
section
variable {X : Cx}
def cSetL : List V → Hp → VK → Prop := fun vs H Q => ∃ (a : Addr) (ns : List Int), vs = [V.ref a] ∧ H a = some (.lst (ns.map V.int)) ∧ ns.length ≤ 4000 ∧ ∀ p H', H p = none → Same H H' → H' p = some (.set (fun k => ns.contains k) (sizOf ns)) → Q (.ref p) H'
def cLenS : List V → Hp → VK → Prop := fun vs H Q => ∃ (a : Addr) (S : Int → Bool) (n : Nat), vs = [V.ref a] ∧ H a = some (.set S n) ∧ n ≤ 4000 ∧ Q (.int (n : Nat)) H
def rCountF : V → List V → Hp → VK → Prop := fun x xs H Q => ∃ (a : Addr) (ys : List V) (y : V), x = V.ref a ∧ xs = [y] ∧ H a = some (.lst ys) ∧ flatV y = true ∧ ys.all flatV = true ∧ Q (.int (ys.countP (fun z => eqV z y) : Nat)) H
theorem count_rel {y : V} : ∀ {ys : List V} {us : List Value}, Vals ys us → ys.all flatV = true → us.countP (eqU y) = ys.countP (fun z => eqV z y)
  | _, _, .nil, _ => rfl
  | _, _, .cons r t, f => by
    rw [List.all_cons, Bool.and_eq_true] at f
    rw [List.countP_cons, List.countP_cons, count_rel t f.2, eqU_of r f.1]
theorem mt_countF : MtR X "list.count" rCountF := by
  intro pins s σ H x xs v us Q I rx rxs h
  obtain ⟨a, ys, y, rfl, rfl, ha, fy, fys, q⟩ := h
  cases rx
  cases rxs with
  | cons ry rt =>
    rename_i uy ut
    cases rt
    obtain ⟨its, rv, ⟨⟨cls, dd, data, sl⟩, n, ho, hc, hdn, hd⟩, hlen⟩ := I.list (SqL.of ha)
    simp only at hc hd
    subst hc hd
    refine call_meets PySem.F.slot_list_count ⟨_, ho, rfl⟩ PySem.F.entry_list_count (PySem.F.args_list_count_2 _ _)
      (SeqAt.list_countAt a its.toArray n dd sl uy (eqU y)) ⟨ho, fun u' hu' => mem_eqAt ry fy rv fys u' (by simpa using hu'), ?_⟩
    rw [List.toList_toArray, count_rel rv fys]
    exact ⟨.int _, H, I.tok _, ⟨_, rfl⟩, q⟩
end
end L2
set_option Elab.async false
set_option linter.all false
set_option maxRecDepth 100000
namespace L2
open PySem
def colR (c : Nat) (rows : List (List Int)) : List Int := rows.map fun r => r.getD c 0
structure SqOk (n : Nat) (rows : List (List Int)) : Prop where
  len : rows.length = n
  pos : 0 < n
  row : ∀ r ∈ rows, Turng n r
  col : ∀ c, c < n → Turng n (colR c rows)
theorem turng_of_perm {n : Nat} {l : List Int} (p : l.Perm (rngV 0 n)) : Turng n l :=
  ⟨by rw [p.length_eq, rngV_length], p.nodup_iff.mpr (rngNd 0 n), fun x hx => by have := mem_rngV_iff.mp (p.mem_iff.mp hx); omega⟩
structure Both (n : Nat) (g : Int → Int → Int) : Prop where
  rg : ∀ i j : Int, 0 ≤ i → i < (n : Int) → 0 ≤ j → j < (n : Int) → 0 ≤ g i j ∧ g i j < (n : Int)
  ro : ∀ i x y : Int, 0 ≤ i → i < (n : Int) → 0 ≤ x → x < (n : Int) → 0 ≤ y → y < (n : Int) → g i x = g i y → x = y
  co : ∀ j x y : Int, 0 ≤ j → j < (n : Int) → 0 ≤ x → x < (n : Int) → 0 ≤ y → y < (n : Int) → g x j = g y j → x = y
def sqOf (o p q : List Int) (g : Int → Int → Int) : List (List Int) := p.map fun i => q.map fun j => atZ o (g i j)
def UnitF (n : Nat) (a : Int) : Prop := ((rngV 0 n).map fun k => a * k % (n : Int)).Nodup
instance (n : Nat) (a : Int) : Decidable (UnitF n a) := inferInstanceAs (Decidable (List.Nodup _))
def off (h d : Addr) (H : Hp) : Hp := fun p => if p = h ∨ p = d then none else H p
def HandAt (k : Nat) (H : Hp) (h d : Addr) : Prop := h ≠ d ∧ ∃ (ds : List Int) (sd c : Int), H h = some (.lst [.ref d, .int sd, .int c]) ∧ H d = some (.lst (ds.map V.int)) ∧ 0 ≤ sd ∧ sd < 2305843009213693951 ∧ 0 ≤ c ∧ c ≤ (k : Int)
end L2
set_option Elab.async false
set_option linter.all false
set_option maxRecDepth 100000
namespace L2
open PySem PySem.Spec PyProof.Rows
section
variable {α : Type} {R : Addr → Hp → V → α → Prop} {K : PySem.W.Frag} {g : TG} {tt : TT} {te : TE} {vs : List Nat} {σ : St} {H1 : Hp} {D : Addr} {Qd : Hp → Prop}
end
section
variable {α : Type} {R : Hp → Addr → α → Prop} {K : PySem.W.Frag} {g : TG} {tt : TT} {te : TE} {vs : List Nat} {σ : St} {H1 : Hp} {D : Addr} {Qd : Hp → Prop}
end
structure SqCnt (rows : List (List Int)) : Prop where
  pos : 0 < rows.length
  len : ∀ r ∈ rows, r.length = rows.length
  cnt : ∀ (t k : Nat), t < rows.length → k < rows.length → (rows.getD k []).count (t : Int) = 1 ∧ (colR k rows).count (t : Int) = 1
end L2
set_option Elab.async false
set_option linter.all false
set_option maxRecDepth 100000
namespace L2
open PySem PySem.Spec PyProof.Rows
def hot (i : Nat) : List Bool := [decide (0 = i), decide (1 = i), decide (2 = i), decide (3 = i), decide (4 = i), decide (5 = i), decide (6 = i), decide (7 = i), decide (8 = i), decide (9 = i), decide (10 = i), decide (11 = i), decide (12 = i), decide (13 = i), decide (14 = i), decide (15 = i), decide (16 = i)]
def wordOf (i : Nat) : Str := ["square", "unlike", "size", "net", "field", "other", "other", "other", "other", "other", "other", "other", "other", "other", "other", "other", "other"].getD i "other"
structure Wd (K : PySem.W.Frag) (cs : List Addr) (R : Addr) (i : Nat) : Prop where
  isi : XIsi K R
  lt : i < 17
  o : ∀ (j : Nat) (c : Addr) (b : Bool), cs[j]? = some c → (hot i)[j]? = some b → PySem.W.kitOne K (.ref R) (.ref c) = some b
  v : PySem.W.kitOne K (.ref R) (.type "ValueError") = some true
theorem hot_count : ∀ i : Fin 17, ((hot i.val).map V.bl).countP (fun z => eqV z (.bl true)) = 1 := by decide
theorem hot_at : ∀ i : Fin 17, (hot i.val)[i.val]? = some true := by decide
theorem hot_no : ∀ i m : Fin 17, m.val < i.val → (hot i.val)[m.val]? = some false := by decide
theorem hot_flat (i : Nat) : ((hot i).map V.bl).all flatV = true := by
  rw [List.all_eq_true]
  intro x hx
  obtain ⟨z, _, rfl⟩ := List.mem_map.mp hx
  rfl
end L2
set_option Elab.async false
set_option linter.all false
set_option maxRecDepth 100000
namespace L2
open PySem PySem.Spec PyProof.Rows
structure SomeAt (H : Hp) (D : Addr) (ps : List Addr) (rows : List (List Int)) : Prop where
  own : H D = some (.lst (ps.map V.ref))
  nd : ps.Nodup
  ne : ∀ p ∈ ps, p ≠ D
  pr : Paired (LI H) ps rows
theorem pd_upd {H : Hp} {D : Addr} {o : HO} : ∀ {ps : List Addr} {rows : List (List Int)}, (∀ p ∈ ps, p ≠ D) → Paired (LI H) ps rows → Paired (LI (upd H D o)) ps rows
  | _, _, _, .nil => .nil
  | _, _, n, .cons r t => .cons (by unfold LI; rw [upd_ne (n _ List.mem_cons_self)]; exact r) (pd_upd (fun q hq => n q (List.mem_cons_of_mem _ hq)) t)
structure SomeSt (k : Nat) (H0 H : Hp) (h d D : Addr) (ps : List Addr) (rows : List (List Int)) : Prop where
  hand : HandAt k H h d
  same : Same (off h d H0) (off h d H)
  own : SomeAt (off h d H) D ps rows
  newD : off h d H0 D = none
  new : ∀ p ∈ ps, off h d H0 p = none
section
variable {k : Nat} {H0 H : Hp} {h d D : Addr} {ps : List Addr} {rows : List (List Int)}
end
def AllK (K : PySem.W.Frag) (R : Addr) : List Addr → List Bool → Prop
  | c :: cs, b :: bs => PySem.W.kitOne K (.ref R) (.ref c) = some b ∧ AllK K R cs bs
  | _, _ => True
theorem AllK.o {K : PySem.W.Frag} {R : Addr} : ∀ {cs : List Addr} {bs : List Bool}, AllK K R cs bs → ∀ (j : Nat) (c : Addr) (b : Bool), cs[j]? = some c → bs[j]? = some b → PySem.W.kitOne K (.ref R) (.ref c) = some b
  | [], _, _, _, _, _, h, _ => by simp at h
  | _ :: _, [], _, _, _, _, _, h => by simp at h
  | _ :: _, _ :: _, a, 0, _, _, h1, h2 => by cases h1; cases h2; exact a.1
  | _ :: _, _ :: _, a, j + 1, c, b, h1, h2 => AllK.o a.2 j c b (by simpa using h1) (by simpa using h2)
theorem wd_mk {K : PySem.W.Frag} {cs : List Addr} {R : Addr} {i : Nat} (isi : XIsi K R) (lt : i < 17) (a : AllK K R cs (hot i)) (v : PySem.W.kitOne K (.ref R) (.type "ValueError") = some true) : Wd K cs R i := ⟨isi, lt, a.o, v⟩
def rIsB : R2 := fun x y H Q => ∃ c d, x = .bl c ∧ y = .bl d ∧ Q (.bl (c == d)) H
def rNotB : R2 := fun x y H Q => ∃ c d, x = .bl c ∧ y = .bl d ∧ Q (.bl (c != d)) H
end L2
set_option Elab.async false
set_option linter.all false
set_option maxRecDepth 100000
namespace PySem
open PySem.SetTable PyProof.Rows
section
variable {prog : Program} {w : World} {A : Around} {E : Value → Shared → Prop} {s : Shared}
def EK (prog : Program) (w : World) (h : Heap) (e : Int × Value) (k : List Int) : Prop := ∃ q, e = (tHash prog w k, .ref q) ∧ TKey prog w h k q
end
end PySem
set_option Elab.async false
set_option linter.all false
set_option maxRecDepth 100000
namespace PySem
open PySem.SetTable PyProof.Rows
section
variable {prog : Program} {w : World} {A : Around} {E : Value → Shared → Prop} {s : Shared}
structure TSet (prog : Program) (w : World) (h : Heap) (S : Addr) (kl : List (List Int)) : Prop where
  ex : ∃ o es ep t, h.get? S = some o ∧ o.ExactSet ∧ o.data = .set es ep t ∧ TOk t es.toList ∧ Paired (EK prog w h) es.toList kl
  nd : kl.Nodup
end
end PySem
set_option Elab.async false
set_option linter.all false
set_option maxRecDepth 100000
namespace PySem
section
variable {prog : Program} {w : World} {A : Around} {R : Result → Shared → Prop} {s : Shared}
end
end PySem
namespace L2
open PySem PySem.Spec PyProof.Rows PySem.SetTable
def RawSet (D : Addr) (es : Array (Int × Value)) (ep : Nat) (t : SetTable) (h : Heap) : Prop := ∃ o, h.get? D = some o ∧ o.ExactSet ∧ o.data = .set es ep t
def SetH {κ : Type} (w : World) (R : Hp → Int × Value → κ → Prop) (H : Hp) (D : Addr) (kl : List κ) : Prop :=
  ∃ es ep t, H D = some (.ext (RawSet D es ep t)) ∧ TOk t es.toList ∧ t.plain = true ∧ (byText w = true ∨ t.led = true) ∧ Paired (R H) es.toList kl ∧ kl.Nodup
def Set0 (w : World) (D : Addr) (H : Hp) : Prop := ∃ ep t, H D = some (.ext (RawSet D #[] ep t)) ∧ TOk t [] ∧ t.plain = true ∧ (byText w = true ∨ t.led = true)
abbrev ISetH (w : World) : Hp → Addr → List Int → Prop := SetH w fun _ => IE
def AddR (X : Cx) (r : Addr → V → Hp → (Hp → Prop) → Prop) : Prop :=
  ∀ (D : Addr) (pins : List (Addr × Obj)) (s : Shared) (σ : St) (H : Hp) (y : V) (u : Value) (Q : Hp → Prop) (E : Value → Shared → Prop), Inv X pins σ H s → RelV y u → r D y H Q →
    wpAny (model X.prog X.w) X.A (call (.builtin "set.add") [.ref D, u]) (fun _ s' => ∃ H', Inv X pins σ H' s' ∧ Q H') E s
def rAddI (w : World) (D : Addr) (y : V) (H : Hp) (Q : Hp → Prop) : Prop := ∃ (k : Int) (kl : List Int), y = .int k ∧ ISetH w H D kl ∧ kl.length + 1 < 4096 ∧ ∀ o kl', (∀ x, x ∈ kl' ↔ x = k ∨ x ∈ kl) → ISetH w (upd H D o) D kl' → Q (upd H D o)
section
variable {X : Cx}
end
section
variable {X : Cx}
def tSc (w : World) (r : Addr → V → Hp → (Hp → Prop) → Prop) (wi : TI) (g : TG) (tt : TT) (te : TE) (vs : List Nat) : TE := fun σ H Q => wi σ H fun J H1 => ∀ D, H1 D = none → ∀ o, Set0 w D (upd H1 D o) → ∃ W : Nat → Nat → Hp → Prop, (∃ m, W 0 m (upd H1 D o)) ∧ ∀ i m H, W i m H →
  (J.stop i H ∧ Q (.ref D) H) ∨ (J.go i H ∧ ∃ Nx : Hp → Prop, (∀ H', Nx H' → ∃ m', m' < m ∧ W (i + 1) m' H') ∧ ∀ x H', J.yld i H x H' → g x (wipe σ vs) H' fun σ2 H2 => wipe σ2 vs = wipe σ vs ∧ tt σ2 H2 fun b H3 =>
    if b = true then te σ2 H3 fun y H4 => r D y H4 Nx else Nx H3)
end
end L2
set_option Elab.async false
set_option linter.all false
set_option maxRecDepth 100000
namespace L2
open PySem PySem.Spec PyProof.Rows
section
variable {X : Cx} {pins : List (Addr × Obj)} {σ : St} {H : Hp} {s : Shared} {a : Addr} {y v : V} {u r : Value} {A : Around} {E : Value → Shared → Prop}
theorem d_dictSet {H' : Hp} {Q : Unit → Shared → Prop} (hu : A.units + 1 < cLine) (I : Inv X pins σ H s) (g : DPut H a y v H') (ry : RelV y u) (rv : RelV v r) (h : ∀ s', Inv X pins σ H' s' → Q () s') :
    wpAny (model X.prog X.w) A (dictSet a u r) Q E s := by
  rcases g with ⟨kvs, k, e, ey, l, eH⟩ | ⟨kvs, k, b, e, ey, eb, l, eH⟩
  · subst ey eH
    obtain ⟨z, hd, vs, rel, dd⟩ := dk_of I.hok e
    have hz : vs.length ≤ sizeLine := by rw [← rel.length]; exact z
    have hl : (putK kvs k v).length ≤ sizeLine := by have := length_putK kvs k v; omega
    refine wpAny_dictSet_pairs (hsz := hz) (kV_is ry) dd fun h' dd' hs => h _ ?_
    have he : ∃ q, h'.get? a = some q := let ⟨q, _, _, hq, _⟩ := dd'; ⟨q, hq⟩
    exact d_write I (by rw [e]; exact True.intro) hs he (dk_new hl hd (rel.put k rv) dd')
  · subst ey eH
    cases (show u = Value.ref b from ry)
    obtain ⟨z, hd, xs, rel, dd⟩ := dt_of I.hok e
    have hz : xs.length ≤ sizeLine := by rw [← Paired.length rel]; exact z
    have hl : (putK kvs k v).length ≤ sizeLine := by have := length_putK kvs k v; omega
    refine wpAny_dictSet_heap (hsz := hz) (show A.units < cLine by omega) (key_of I.hok eb) dd fun h' dd' hs => h _ ?_
    obtain ⟨q, es, ep, hq, h2, h3, h4, _, h5⟩ := dd'
    refine d_write I (by rw [e]; exact True.intro) hs ⟨q, hq⟩ ⟨hl, hd, _, (rel.put k eb rv).keeps fun c ys ec => ?_, q, es, ep, hq, h2, h3, h4, h5⟩
    rw [upd_ne (ne_of ec e (fun z => nomatch z))]
    exact ec
end
theorem compLoopD_any {prog : Program} {w : World} {A : Around} {R : Result → Shared → Prop} {s : Shared} {kx vx target iter : Expr} {ifs : List Expr} {scope : Scope} {pos : Pos} {it : Value} {D : Addr} {env : Env} (I : Nat → Shared → Prop)
    (turn : ∀ n s, I n s → wpAny (model prog w) A (pyNext it) (fun r s₁ => match r with
      | none => R (.ok .next) s₁
      | some v => wpAny (model prog w) A (letOwnedTupleGo target it v) (fun _ s₁' => wpAny (model prog w) A (assign target env v) (fun _ s₂ =>
          wpAny (model prog w) A (forIn ifs true fun c r => if r = true then do let ok ← isTrue c env (eval c env); pure (ForInStep.yield ok) else pure (ForInStep.yield r)) (fun ok s₃ =>
            if ok = true then wpAny (model prog w) A (eval kx env) (fun kv s₄ => wpAny (model prog w) A (eval vx env) (fun vv s₅ =>
              wpAny (model prog w) A (dictSet D kv vv) (fun _ s₆ => ∃ m, m < n ∧ I m s₆) (notedBy (model prog w) A env fun e s' => R (.error e) s') s₅) (notedBy (model prog w) A env fun e s' => R (.error e) s') s₄) (notedBy (model prog w) A env fun e s' => R (.error e) s') s₃
            else ∃ m, m < n ∧ I m s₃) (notedBy (model prog w) A env fun e s' => R (.error e) s') s₂) (notedBy (model prog w) A env fun e s' => R (.error e) s') s₁') (notedBy (model prog w) A env fun e s' => R (.error e) s') s₁) (notedBy (model prog w) A env fun e s' => R (.error e) s') s)
    (n : Nat) (h : I n s) :
    codeAny (model prog w) A (.compLoop (.DictComp kx vx [⟨target, iter, ifs, 0⟩] scope pos) 0 it (.ref D) env) R s := by
  refine codeAny_loop rfl I (fun n s hI => ?_) n h
  show wpAny _ A ((compTurn (.DictComp kx vx [⟨target, iter, ifs, 0⟩] scope pos) 0 it (.ref D) env).onRaise (fun x => do noteFrame x env; theTreesLotGoes x)) _ _ s
  refine wpAny_noted ?_
  rw [compTurn_dict]
  refine wpAny_bind (wpAny_standAt (wpAny_bind (wpAny_mono (turn n s hI) (fun r s₁ h₁ => ?_) fun _ _ h' => h')))
  cases r with
  | none => exact wpAny_pure h₁
  | some v =>
    refine wpAny_bind (wpAny_mono h₁ (fun _ s₁' h₁' => ?_) fun _ _ h' => h')
    refine wpAny_bind (wpAny_mono h₁' (fun _ s₂ h₂ => wpAny_bind (wpAny_mono h₂ (fun ok s₃ h₃ => ?_) fun _ _ h' => h')) fun _ _ h' => h')
    cases ok with
    | false => exact wpAny_pure ⟨rfl, h₃⟩
    | true =>
      exact wpAny_bind (wpAny_bind (wpAny_mono h₃ (fun kv s₄ h₄ => wpAny_bind (wpAny_holding (wpAny_mono h₄ (fun vv s₅ h₅ => wpAny_bind (wpAny_standAt (wpAny_holding (wpAny_mono h₅ (fun _ s₆ h₆ => wpAny_pure ⟨rfl, h₆⟩) fun _ _ h' => h')))) fun _ _ h' => h'))) fun _ _ h' => h'))
section
variable {X : Cx}
def tDc (wi : TI) (g : TG) (tt : TT) (tk tv : TE) (vs : List Nat) : TE := fun σ H Q => wi σ H fun J H1 => ∀ D, H1 D = none → ∃ W : Nat → Nat → Hp → Prop, (∃ m, W 0 m (upd H1 D (.dK []))) ∧ ∀ i m H, W i m H →
  (J.stop i H ∧ Q (.ref D) H) ∨ (J.go i H ∧ ∃ Nx : Hp → Prop, (∀ H', Nx H' → ∃ m', m' < m ∧ W (i + 1) m' H') ∧ ∀ x H', J.yld i H x H' → g x (wipe σ vs) H' fun σ2 H2 => wipe σ2 vs = wipe σ vs ∧ tt σ2 H2 fun b H3 =>
    if b = true then tk σ2 H3 fun y H4 => tv σ2 H4 fun z H5 => ∃ H6, DPut H5 D y z H6 ∧ Nx H6 else Nx H3)
theorem dc_core {pins : List (Addr × Obj)} {s : Shared} {σ : St} {H : Hp} {Q : VK} {kx vx tg iter : Expr} {ifs : List Expr} {scope : Scope} {own : List (Str × Nat)} {pos pos' : Pos} {wi : TI} {g : TG} {tt : TT} {tk tv : TE} {use : Option (Value → Sem Unit)} {Qf : Value → Shared → Prop}
    (hu : X.A.units + 1 < cLine) (hc : X.calm = true) (hN : X.N.Nodup) (I : Inv X pins σ H s) (hi : PI X tg iter wi) (ok : BlkOk X.N X.env.scope scope own)
    (hg : ∀ (s : Shared) (H : Hp) (C : Addr) (cl : List (Str × Addr)) (fp : List Addr), PG (X.blk s H scope (compEnvC scope cl C X.env) fp) tg g) (ht : ∀ (s : Shared) (H : Hp) (C : Addr) (cl : List (Str × Addr)) (fp : List Addr), PTs (X.blk s H scope (compEnvC scope cl C X.env) fp) ifs tt)
    (hk : ∀ (s : Shared) (H : Hp) (C : Addr) (cl : List (Str × Addr)) (fp : List Addr), PE (X.blk s H scope (compEnvC scope cl C X.env) fp) kx tk) (hv : ∀ (s : Shared) (H : Hp) (C : Addr) (cl : List (Str × Addr)) (fp : List Addr), PE (X.blk s H scope (compEnvC scope cl C X.env) fp) vx tv) (hs : ∀ x, foldedSetIterable iter X.env x = pure x)
    (h : tDc wi g tt tk tv (own.map (·.2)) σ H Q)
    (hRR : ∀ D C s' m H', Inv X pins σ H' s' → Q (.ref D) H' → s'.heap.Ns C m → FpOk X pins H' C → compPost (model X.prog X.w) X.A X.xe use Qf (.ref D) C (.ok .next) s') :
    wpAny (model X.prog X.w) X.A (comprehension (.DictComp kx vx [⟨tg, iter, ifs, 0⟩] scope pos) scope X.env pos' newDict false (eval iter X.env) use) Qf X.xe s := by
  have hfree : ∀ y ∈ scope.names, y.2 = .free → ∃ c, X.env.cells.lookup y.1 = some c := fun y hy e => by
    rcases ok.free y hy e with k | k
    · exact I.ok.has _ (.inl k)
    · exact I.ok.has _ (.inr k)
  refine wpAny_comprehension_free (use := use) rfl hs (closure_ok hfree) ok.kind (fun y hy e => by rw [ok.uniq y hy, e])
    (thn (hi pins s σ H _ I h) fun xv s1 hx => thn hx fun itv s2 h2 => ?_)
  obtain ⟨it, fp, tn, J, H2, e, I2, T, st2, f2, q⟩ := h2
  subst e
  refine wpAny_newObj_type (newEnv_comp ?_)
  generalize hD : s2.heap.objs.size = D
  have hDn : H2 D = none := I2.hok.fresh (Nat.le_of_eq hD)
  obtain ⟨W, ⟨m0, w0⟩, turn⟩ := q D hDn
  -- the new dict
  generalize hs3 : ({ s2 with heap := s2.heap.push { cls := .type "dict", dict := none, data := .dict #[] } } : Shared) = s3
  have I3 : Inv X pins σ (upd H2 D (.dK [])) s3 := by
    rw [← hs3]
    refine I2.laid (t' := s2.toks) (fun b o e => Heap.get?_push_of_some _ e) (Nat.le_of_eq hD) ?_
    rw [← hD]
    exact dk_empty s2.heap I2.big
  have h3 : s3.heap = s2.heap.push { cls := .type "dict", dict := none, data := .dict #[] } := by rw [← hs3]
  have sz : ∀ b ∈ fp, b < s2.heap.objs.size := fun b hb => by
    obtain ⟨o, e, _⟩ := T.obj _ _ st2 b hb
    exact Heap.lt_size e
  have f3 : ∀ b ∈ fp, FpOk X pins (upd H2 D (.dK [])) b ∧ b < s3.heap.objs.size := fun b hb => by
    have hlt := sz b hb
    refine ⟨⟨?_, (f2 b hb).2⟩, by rw [h3, Heap.size_push]; exact Nat.lt_succ_of_lt hlt⟩
    rw [upd_ne (by rw [← hD]; exact Nat.ne_of_lt hlt)]
    exact (f2 b hb).1
  have st3 : tn 0 s3.heap := T.keep _ _ _ st2 fun b _ o e => by rw [h3]; exact Heap.get?_push_of_some _ e
  have I4 := block_start I3 ok hN f3
  have pg := hg s3 (upd H2 D (.dK [])) s3.heap.objs.size (cellsFrom (s3.heap.objs.size + 1) scope.names (cloFrom X.env.cells scope.names [])) fp
  have pt := ht s3 (upd H2 D (.dK [])) s3.heap.objs.size (cellsFrom (s3.heap.objs.size + 1) scope.names (cloFrom X.env.cells scope.names [])) fp
  have pk := hk s3 (upd H2 D (.dK [])) s3.heap.objs.size (cellsFrom (s3.heap.objs.size + 1) scope.names (cloFrom X.env.cells scope.names [])) fp
  have pv := hv s3 (upd H2 D (.dK [])) s3.heap.objs.size (cellsFrom (s3.heap.objs.size + 1) scope.names (cloFrom X.env.cells scope.names [])) fp
  show codeAny _ _ (.compStart (.DictComp kx vx [⟨tg, iter, ifs, 0⟩] scope pos) 0 (.ref it) (.ref D) (compEnvC scope (cellsFrom (s3.heap.objs.size + 1) scope.names (cloFrom X.env.cells scope.names [])) s3.heap.objs.size X.env)) (compPost (model X.prog X.w) X.A X.xe use Qf (.ref D) s3.heap.objs.size) { s3 with heap := pushCells (s3.heap.push { cls := .type "dict", data := .dict #[] }) scope.names }
  have nfp : ∀ b ∈ fp, (upd H2 D (.dK [])) b = none := fun b hb => (f3 b hb).1.1
  generalize hce : compEnvC scope (cellsFrom (s3.heap.objs.size + 1) scope.names (cloFrom X.env.cells scope.names [])) s3.heap.objs.size X.env = ce at I4 pg pt pk pv ⊢
  have cL : ce.locals = s3.heap.objs.size := by subst hce; rfl
  generalize hH3 : upd H2 D (.dK []) = H3 at I3 I4 pg pt pk pv w0 nfp f3
  generalize hs4 : ({ s3 with heap := pushCells (s3.heap.push { cls := .type "dict", data := .dict #[] }) scope.names } : Shared) = s4 at I4 ⊢
  have st4 : tn 0 s4.heap := T.keep _ _ _ st3 fun b _ o e => by rw [← hs4]; exact pushCells_keeps _ _ _ _ (Heap.get?_push_of_some _ e)
  have stat : ∀ {σ' : St} {H' : Hp} {s' : Shared}, Inv (X.blk s3 H3 scope ce fp) [] σ' H' s' → (∀ b ∈ fp, H' b = none) → ∀ b ∈ fp, FpOk (X.blk s3 H3 scope ce fp) [] H' b := fun {σ' H' s'} I' hn b hb =>
    ⟨hn b hb, (I'.ok.exf b hb).1, I'.ok.exfs b hb, .inl hb, fun x c e => (I'.ok.exf b hb).2 x c e, fun p hp => absurd (show p ∈ ([] : List (Addr × Obj)) ++ [] from hp) (by simp)⟩
  have loop : codeAny (model X.prog X.w) X.A (.compLoop (.DictComp kx vx [⟨tg, iter, ifs, 0⟩] scope pos) 0 (.ref it) (.ref D) ce) (compPost (model X.prog X.w) X.A X.xe use Qf (.ref D) s3.heap.objs.size) s4 := by
    refine compLoopD_any (fun n s' => ∃ i H', Inv (X.blk s3 H3 scope ce fp) [] (wipe σ (own.map (·.2))) H' s' ∧ tn i s'.heap ∧ (∀ b ∈ fp, H' b = none) ∧ W i n H') ?_ m0 ⟨0, H3, I4, st4, nfp, w0⟩
    rintro n s5 ⟨i, H5, I5, st5, n5, w5⟩
    rcases turn i n H5 w5 with ⟨stop, qq⟩ | ⟨go, Nx, hNx, step⟩
    · have td := T.done (X.blk s3 H3 scope ce fp) rfl rfl rfl hc i [] s5 _ H5 (fun _ _ => False) I5 (stat I5 n5) st5 stop
      refine thnF td fun r s6 ⟨hr, I6⟩ => ?_
      subst hr
      -- back in the def's context
      have I7 : Inv X pins σ H5 s6 := I3.call' (ch := fp) I6.os I6.base I6.hok I6.bare fun b hb => ⟨(f3 b hb).1.2.2.2.1, (f3 b hb).1.2.1, (f3 b hb).1.2.2.2.2.1, (f3 b hb).1.2.2.2.2.2⟩
      have nC : H5 s3.heap.objs.size = none := by
        have z : H5 ce.locals = none := I6.free
        rw [cL] at z
        exact z
      obtain ⟨m, hn, _⟩ := I6.loc
      have hn : s6.heap.Ns ce.locals m := hn
      rw [cL] at hn
      exact hRR D s3.heap.objs.size s6 m H5 I7 qq hn (I3.fpOk (Nat.le_refl _) nC)
    · have ti := T.item (X.blk s3 H3 scope ce fp) rfl rfl rfl hc i [] s5 _ H5 (fun _ _ => False) I5 (stat I5 n5) st5 go
      refine thnF ti fun r s6 ⟨u, hr, h6⟩ => ?_
      subst hr
      refine thnF h6 fun _ s7 ⟨x, H7, I7, r7, y7, st7, n7⟩ => ?_
      have I7' := I7.pinned (stat I7 n7) (T.obj _ _ st7)
      refine thnF (pg _ s7 _ H7 x u _ I7' r7 (step x H7 y7)) fun _ s8 ⟨σ8, H8, I8, hw8, q8⟩ => ?_
      refine thnF (pt _ s8 σ8 H8 _ I8 q8) fun b s9 ⟨H9, I9, q9⟩ => ?_
      -- the turn's end
      have fin : ∀ {s' : Shared} {H' : Hp}, Inv (X.blk s3 H3 scope ce fp) ([] ++ pinsAt fp s7.heap) σ8 H' s' → Nx H' → ∃ m, m < n ∧ ∃ i H', Inv (X.blk s3 H3 scope ce fp) [] (wipe σ (own.map (·.2))) H' s' ∧ tn i s'.heap ∧ (∀ b ∈ fp, H' b = none) ∧ W i m H' := fun {s' H'} I' nx => by
        obtain ⟨m', hm, w'⟩ := hNx H' nx
        have pin' : ∀ b ∈ fp, ∀ o, s7.heap.get? b = some o → s'.heap.get? b = some o ∧ H' b = none := fun b hb o e =>
          let z := I'.pin (b, o) (List.mem_append_right _ (List.mem_append_right _ (mem_pinsAt hb e)))
          ⟨z.1, z.2.1⟩
        have hl : (wipe σ (own.map (·.2))).length = σ8.length := by rw [← hw8, wipe_length]
        refine ⟨m', hm, i + 1, H', (I'.unpinned (pins := [])).weak hl (fun j v e => ?_), T.keep _ _ _ st7 fun b hb o e => (pin' b hb o e).1, fun b hb => ?_, w'⟩
        · rw [← hw8] at e
          exact (wipe_some e).1
        · obtain ⟨o, e, _⟩ := T.obj _ _ st7 b hb
          exact (pin' b hb o e).2
      cases b with
      | false =>
        simp only [Bool.false_eq_true, if_false] at q9 ⊢
        exact fin I9 q9
      | true =>
        simp only [if_true] at q9 ⊢
        refine thnF (pk _ s9 σ8 H9 _ I9 q9) fun z s10 ⟨yv, H10, I10, r10, rd⟩ => ?_
        refine thnF (pv _ s10 σ8 H10 _ I10 rd) fun z2 s11 ⟨yv2, H11, I11, r11, H12, dp, nx⟩ => ?_
        exact d_dictSet (X := X.blk s3 H3 scope ce fp) hu I11 dp r10 r11 fun s12 I12 => fin I12 nx
  exact codeAny_compStart_dict loop (T.self X.A 0 _ _ _ st4 loop)
theorem pe_dc {kx vx tg iter : Expr} {ifs : List Expr} {scope : Scope} {own : List (Str × Nat)} {pos : Pos} {wi : TI} {g : TG} {tt : TT} {tk tv : TE} (hu : X.A.units + 1 < cLine) (hc : X.calm = true) (hN : X.N.Nodup) (hi : PI X tg iter wi) (ok : BlkOk X.N X.env.scope scope own)
    (hg : ∀ (s : Shared) (H : Hp) (C : Addr) (cl : List (Str × Addr)) (fp : List Addr), PG (X.blk s H scope (compEnvC scope cl C X.env) fp) tg g) (ht : ∀ (s : Shared) (H : Hp) (C : Addr) (cl : List (Str × Addr)) (fp : List Addr), PTs (X.blk s H scope (compEnvC scope cl C X.env) fp) ifs tt)
    (hk : ∀ (s : Shared) (H : Hp) (C : Addr) (cl : List (Str × Addr)) (fp : List Addr), PE (X.blk s H scope (compEnvC scope cl C X.env) fp) kx tk) (hv : ∀ (s : Shared) (H : Hp) (C : Addr) (cl : List (Str × Addr)) (fp : List Addr), PE (X.blk s H scope (compEnvC scope cl C X.env) fp) vx tv) (hs : ∀ x, foldedSetIterable iter X.env x = pure x := by intro _; rfl) :
    PE X (.DictComp kx vx [⟨tg, iter, ifs, 0⟩] scope pos) (tDc wi g tt tk tv (own.map (·.2))) := by
  intro pins s σ H Q I h
  show wpAny _ _ (comprehension (.DictComp kx vx [⟨tg, iter, ifs, 0⟩] scope pos) scope X.env (firstIterPos [⟨tg, iter, ifs, 0⟩] pos) newDict false (eval iter X.env)) _ _ s
  refine dc_core hu hc hN I hi ok hg ht hk hv hs h fun D C s' m H' I' q hn f => ⟨m, hn, fun h'' sb => ?_⟩
  obtain ⟨f0, f1, f2, f3, f4, f5⟩ := f
  exact ⟨.ref D, H', I'.turned (t' := s'.toks) (fun b o hb e => (sb.2 b hb).trans e) f0 f1 f3 f4 f5, rfl, q⟩
theorem r_dc {wi : TI} {g : TG} {tt : TT} {tk tv : TE} {vs : List Nat} {σ : St} {H : Hp} {Q : VK} (h : wi σ H fun J H1 => ∀ D, H1 D = none → ∃ W : Nat → Nat → Hp → Prop, (∃ m, W 0 m (upd H1 D (.dK []))) ∧ ∀ i m H, W i m H →
  (J.stop i H ∧ Q (.ref D) H) ∨ (J.go i H ∧ ∃ Nx : Hp → Prop, (∀ H', Nx H' → ∃ m', m' < m ∧ W (i + 1) m' H') ∧ ∀ x H', J.yld i H x H' → g x (wipe σ vs) H' fun σ2 H2 => wipe σ2 vs = wipe σ vs ∧ tt σ2 H2 fun b H3 =>
    if b = true then tk σ2 H3 fun y H4 => tv σ2 H4 fun z H5 => ∃ H6, DPut H5 D y z H6 ∧ Nx H6 else Nx H3)) : tDc wi g tt tk tv vs σ H Q := h
end
end L2
set_option Elab.async false
set_option linter.all false
set_option maxRecDepth 100000
namespace L2
open PySem PySem.W PyProof.Rows
def Tr (n : Nat) (lt : Nat → Nat → Bool) {α : Type} : KasT α → (α → Prop) → Prop
  | .ret a, P => P a
  | .ask i j k, P => i < n ∧ j < n ∧ Tr n lt (k (lt i j)) P
section
variable {n : Nat} {lt : Nat → Nat → Bool} {α β : Type}
theorem Tr.mono {P P' : α → Prop} (h : ∀ a, P a → P' a) : ∀ {t : KasT α}, Tr n lt t P → Tr n lt t P'
  | .ret a, x => h a x
  | .ask _ _ _, x => ⟨x.1, x.2.1, Tr.mono h x.2.2⟩
theorem Tr.bind {f : α → KasT β} {P : β → Prop} : ∀ {t : KasT α}, Tr n lt t (fun a => Tr n lt (f a) P) → Tr n lt (t.bind f) P
  | .ret _, x => x
  | .ask _ _ _, x => ⟨x.1, x.2.1, Tr.bind x.2.2⟩
theorem Tr.wp {cmp : Nat → Nat → (Bool → Shared → Prop) → Shared → Prop} {P : α → Prop} {Q : α → Shared → Prop} {s : Shared} (hc : ∀ i j C, i < n → j < n → C (lt i j) s → cmp i j C s) (hq : ∀ a, P a → Q a s) : ∀ {t : KasT α}, Tr n lt t P → t.kasWp cmp Q s
  | .ret a, x => hq a x
  | .ask i j k, x => hc i j _ x.1 x.2.1 (Tr.wp hc hq x.2.2)
end
structure Ord (lt : Nat → Nat → Bool) : Prop where
  asym : ∀ x y, lt x y = true → lt y x = false
  tr : ∀ x y z, lt y x = false → lt z y = false → lt z x = false
theorem Ord.irr {lt : Nat → Nat → Bool} (o : Ord lt) (x : Nat) : lt x x = false := by
  cases h : lt x x with
  | false => rfl
  | true => exact absurd (o.asym x x h) (by rw [h]; simp)
abbrev ga (p : Array Nat) (k : Nat) : Nat := p.getD k 0
def PermN (n : Nat) (p : Array Nat) : Prop := p.Perm (List.range n).toArray
theorem PermN.size {n : Nat} {p : Array Nat} (h : PermN n p) : p.size = n := by have := h.size_eq; simpa using this
theorem PermN.lt {n : Nat} {p : Array Nat} (h : PermN n p) (hn : 0 < n) (k : Nat) : ga p k < n := by
  by_cases hk : k < p.size
  · have e : ga p k = p[k] := by simp [ga, Array.getD, hk]
    rw [e]
    have hm : p[k] ∈ p.toList := by simp
    have hp : p.toList.Perm (List.range n) := by have := h.toList; simpa using this
    exact List.mem_range.mp (hp.mem_iff.mp hm)
  · have e : ga p k = 0 := by simp [ga, Array.getD, hk]
    rw [e]; exact hn
theorem ga_of {p p' : Array Nat} {k k' : Nat} (h : p'[k']? = p[k]?) : ga p' k' = ga p k := by
  unfold ga
  rw [Array.getD_eq_getD_getElem?, Array.getD_eq_getD_getElem?, h]
theorem ga_rev {p : Array Nat} {i j : Nat} (hj : j ≤ p.size) (k : Nat) : ga (kas_rev p i j) k = if i ≤ k ∧ k < j then ga p (i + j - 1 - k) else ga p k := by
  have h := getElem?_mirror_all (xs := p) (i := i) hj k
  by_cases c : i ≤ k ∧ k < j
  · rw [if_pos c] at h ⊢; exact ga_of h
  · rw [if_neg c] at h ⊢; exact ga_of h
theorem PermN.rev {n : Nat} {p : Array Nat} (h : PermN n p) (i j : Nat) : PermN n (kas_rev p i j) := (mirror_perm _ _ _ _).trans h
theorem PermN.bub {n : Nat} {p : Array Nat} (h : PermN n p) (k d : Nat) : PermN n (bubble p k d) := (bubble_perm _ _ _).trans h
section
variable {lt : Nat → Nat → Bool}
def Asc (lt : Nat → Nat → Bool) (p : Array Nat) (r : Nat) : Prop := ∀ a b, a < b → b < r → lt (ga p b) (ga p a) = false
def Dsc (lt : Nat → Nat → Bool) (p : Array Nat) (r : Nat) : Prop := ∀ a b, a < b → b < r → lt (ga p a) (ga p b) = false
def EqB (lt : Nat → Nat → Bool) (p : Array Nat) (i j : Nat) : Prop := ∀ a b, i ≤ a → a < j → i ≤ b → b < j → lt (ga p a) (ga p b) = false
theorem Asc.one (p : Array Nat) : Asc lt p 1 := fun a b h1 h2 => by omega
theorem Asc.step (o : Ord lt) {p : Array Nat} {m : Nat} (hm : 1 ≤ m) (h : Asc lt p m) (e : lt (ga p m) (ga p (m - 1)) = false) : Asc lt p (m + 1) := by
  intro a b hab hb
  by_cases c : b < m
  · exact h a b hab c
  · have : b = m := by omega
    subst this
    by_cases d : a = b - 1
    · rw [d]; exact e
    · exact o.tr _ _ _ (h a (b - 1) (by omega) (by omega)) e
theorem Dsc.step (o : Ord lt) {p : Array Nat} {m : Nat} (hm : 1 ≤ m) (h : Dsc lt p m) (e : lt (ga p (m - 1)) (ga p m) = false) : Dsc lt p (m + 1) := by
  intro a b hab hb
  by_cases c : b < m
  · exact h a b hab c
  · have : b = m := by omega
    subst this
    by_cases d : a = b - 1
    · rw [d]; exact e
    · exact o.tr _ _ _ e (h a (b - 1) (by omega) (by omega))
theorem Dsc.revB {p : Array Nat} {i j r : Nat} (hp : r ≤ p.size) (hj : j ≤ r) (h : Dsc lt p r) (e : EqB lt p i j) : Dsc lt (kas_rev p i j) r := by
  intro a b hab hb
  rw [ga_rev (by omega), ga_rev (by omega)]
  by_cases ca : i ≤ a ∧ a < j
  · rw [if_pos ca]
    by_cases cb : i ≤ b ∧ b < j
    · rw [if_pos cb]; exact e _ _ (by omega) (by omega) (by omega) (by omega)
    · rw [if_neg cb]; exact h _ _ (by omega) hb
  · rw [if_neg ca]
    by_cases cb : i ≤ b ∧ b < j
    · rw [if_pos cb]; exact h _ _ (by omega) (by omega)
    · rw [if_neg cb]; exact h _ _ hab hb
theorem Dsc.asc {p : Array Nat} {r : Nat} (hp : r ≤ p.size) (h : Dsc lt p r) : Asc lt (kas_rev p 0 r) r := by
  intro a b hab hb
  rw [ga_rev hp, ga_rev hp, if_pos ⟨Nat.zero_le _, hb⟩, if_pos ⟨Nat.zero_le _, by omega⟩]
  exact h _ _ (by omega) (by omega)
variable {n : Nat}
theorem tr_asc (o : Ord lt) {p : Array Nat} (hp : PermN n p) (hn : 0 < n) : ∀ (f m : Nat), 1 ≤ m → Asc lt p m → Tr n lt (kas_asc p f m) fun r => m ≤ r ∧ r ≤ m + f ∧ Asc lt p r ∧ (r < m + f → lt (ga p r) (ga p (r - 1)) = true)
  | 0, m, _, h => ⟨Nat.le_refl _, by omega, h, fun z => by omega⟩
  | f + 1, m, hm, h => by
    refine ⟨hp.lt hn _, hp.lt hn _, ?_⟩
    cases c : lt (p.getD m 0) (p.getD (m - 1) 0) with
    | true =>
      show Tr n lt (if true = true then _ else _) _; rw [if_pos rfl]
      exact ⟨Nat.le_refl _, by omega, h, fun _ => c⟩
    | false =>
      show Tr n lt (if false = true then _ else _) _; rw [if_neg Bool.false_ne_true]
      refine Tr.mono (fun r hr => ?_) (tr_asc o hp hn f (m + 1) (by omega) (h.step o hm c))
      exact ⟨by omega, by omega, hr.2.2.1, fun z => hr.2.2.2 (by omega)⟩
theorem tr_desc (o : Ord lt) (hn : 0 < n) : ∀ (f : Nat) (p : Array Nat) (m q : Nat), PermN n p → 1 ≤ m → m + f ≤ n → q + 1 ≤ m → Dsc lt p m → EqB lt p (m - (q + 1)) m →
    Tr n lt (kas_desc f p m q) fun r => PermN n r.1 ∧ 1 ≤ r.2.1 ∧ r.2.1 ≤ m + f ∧ m ≤ r.2.1 ∧ r.2.2 + 1 ≤ r.2.1 ∧ Dsc lt r.1 r.2.1 ∧ EqB lt r.1 (r.2.1 - (r.2.2 + 1)) r.2.1
  | 0, p, m, q, hp, hm, _, hq, hD, hE => ⟨hp, hm, Nat.le_refl _, Nat.le_refl _, hq, hD, hE⟩
  | f + 1, p, m, q, hp, hm, hf, hq, hD, hE => by
    have hz := hp.size
    refine ⟨hp.lt hn _, hp.lt hn _, ?_⟩
    cases c : lt (p.getD m 0) (p.getD (m - 1) 0) with
    | true =>
      show Tr n lt (if true = true then _ else _) _; rw [if_pos rfl]
      have c1 : lt (ga p (m - 1)) (ga p m) = false := o.asym _ _ c
      by_cases q0 : q > 0
      · rw [if_pos q0]
        have hD' := hD.revB (by omega) (Nat.le_refl _) hE
        have e1 : ga (kas_rev p (m - (q + 1)) m) (m - 1) = ga p (m - (q + 1)) := by
          rw [ga_rev (by omega), if_pos ⟨by omega, by omega⟩]
          congr 1
          omega
        have e2 : ga (kas_rev p (m - (q + 1)) m) m = ga p m := by rw [ga_rev (by omega), if_neg (by omega)]
        have s : lt (ga (kas_rev p (m - (q + 1)) m) (m - 1)) (ga (kas_rev p (m - (q + 1)) m) m) = false := by
          rw [e1, e2]
          exact o.tr _ _ _ c1 (hE _ _ (Nat.le_refl _) (by omega) (by omega) (by omega))
        refine Tr.mono (fun r hr => ?_) (tr_desc o hn f _ (m + 1) 0 (hp.rev _ _) (by omega) (by omega) (by omega) (hD'.step o hm s) (fun a b h1 h2 h3 h4 => ?_))
        · exact ⟨hr.1, hr.2.1, by omega, by omega, hr.2.2.2.2⟩
        · have : a = b := by omega
          rw [this]; exact o.irr _
      · rw [if_neg q0]
        refine Tr.mono (fun r hr => ?_) (tr_desc o hn f p (m + 1) 0 hp (by omega) (by omega) (by omega) (hD.step o hm c1) (fun a b h1 h2 h3 h4 => ?_))
        · exact ⟨hr.1, hr.2.1, by omega, by omega, hr.2.2.2.2⟩
        · have : a = b := by omega
          rw [this]; exact o.irr _
    | false =>
      show Tr n lt (if false = true then _ else _) _; rw [if_neg Bool.false_ne_true]
      refine ⟨hp.lt hn _, hp.lt hn _, ?_⟩
      cases d : lt (p.getD (m - 1) 0) (p.getD m 0) with
      | true =>
        show Tr n lt (if true = true then _ else _) _; rw [if_pos rfl]
        exact ⟨hp, hm, by show m ≤ m + (f + 1); omega, Nat.le_refl _, hq, hD, hE⟩
      | false =>
        show Tr n lt (if false = true then _ else _) _; rw [if_neg Bool.false_ne_true]
        refine Tr.mono (fun r hr => ?_) (tr_desc o hn f p (m + 1) (q + 1) hp (by omega) (by omega) (by omega) (hD.step o hm d) (fun a b h1 h2 h3 h4 => ?_))
        · exact ⟨hr.1, hr.2.1, by omega, by omega, hr.2.2.2.2⟩
        · by_cases ca : a < m
          · by_cases cb : b < m
            · exact hE a b (by omega) ca (by omega) cb
            · have : b = m := by omega
              subst this
              exact o.tr _ _ _ d (hE a (b - 1) (by omega) ca (by omega) (by omega))
          · have : a = m := by omega
            subst this
            by_cases cb : b < a
            · exact o.tr _ _ _ (hE (a - 1) b (by omega) (by omega) (by omega) cb) c
            · have : b = a := by omega
              rw [this]; exact o.irr _
theorem tr_tail3 (o : Ord lt) {p : Array Nat} (hp : PermN n p) (hn : 0 < n) {m : Nat} (h1 : 1 ≤ m) (h2 : m ≤ n) (hD : Dsc lt p m) : Tr n lt (kas_tail3 m n p) fun r => PermN n r.2 ∧ 1 ≤ r.1 ∧ r.1 ≤ n ∧ Asc lt r.2 r.1 := by
  unfold kas_tail3
  refine Tr.bind (Tr.mono (fun r hr => ?_) (tr_asc o (hp.rev 0 m) hn (n - m) m h1 (hD.asc (by rw [hp.size]; exact h2))))
  exact ⟨hp.rev 0 m, by have := hr.1; show 1 ≤ r; omega, by have := hr.2.1; show r ≤ n; omega, hr.2.2.1⟩
theorem tr_descPart (o : Ord lt) {p : Array Nat} (hp : PermN n p) {m : Nat} (h1 : 1 ≤ m) (h2 : m + 1 ≤ n) (hD : Dsc lt p (m + 1)) : Tr n lt (kas_descPart m n p) fun r => PermN n r.2 ∧ 1 ≤ r.1 ∧ r.1 ≤ n ∧ Asc lt r.2 r.1 := by
  have hn : 0 < n := by omega
  unfold kas_descPart
  refine Tr.bind (Tr.mono (fun r hr => ?_) (tr_desc o hn (n - (m + 1)) p (m + 1) 0 hp (by omega) (by omega) (by omega) hD (fun a b h1 h2 h3 h4 => ?_)))
  · obtain ⟨x1, x2, x3, x4, x5, x6, x7⟩ := hr
    by_cases q0 : r.2.2 > 0
    · rw [if_pos q0]
      exact tr_tail3 o (x1.rev _ _) hn x2 (by omega) (x6.revB (by rw [x1.size]; omega) (Nat.le_refl _) x7)
    · rw [if_neg q0]
      exact tr_tail3 o x1 hn x2 (by omega) x6
  · have : a = b := by omega
    rw [this]; exact o.irr _
theorem tr_count (o : Ord lt) {p : Array Nat} (hp : PermN n p) (hn : 0 < n) : Tr n lt (kas_count n p) fun r => PermN n r.2 ∧ 1 ≤ r.1 ∧ r.1 ≤ n ∧ Asc lt r.2 r.1 := by
  unfold kas_count
  refine Tr.bind (Tr.mono (fun m hm => ?_) (tr_asc o hp hn (n - 1) 1 (Nat.le_refl _) (Asc.one p)))
  obtain ⟨m1, m2, hA, hs⟩ := hm
  by_cases c : (m == n) = true
  · rw [if_pos c]
    exact ⟨hp, m1, by show m ≤ n; omega, hA⟩
  · rw [if_neg c]
    have mn : m ≠ n := fun z => c (by rw [z]; simp)
    have st := hs (by omega)
    have st2 := o.asym _ _ st
    by_cases c1 : m > 1
    · rw [if_pos c1]
      refine ⟨hp.lt hn _, hp.lt hn _, ?_⟩
      cases d : lt (p.getD 0 0) (p.getD (m - 1) 0) with
      | true =>
        show Tr n lt (if true = true then _ else _) _; rw [if_pos rfl]
        exact ⟨hp, m1, by show m ≤ n; omega, hA⟩
      | false =>
        show Tr n lt (if false = true then _ else _) _; rw [if_neg Bool.false_ne_true]
        have eq : EqB lt p 0 m := by
          intro a b _ h2 _ h4
          by_cases hab : a < b
          · -- b ≤ m-1 ≤ 0 ≤ a
            have u1 : lt (ga p (m - 1)) (ga p b) = false := by
              by_cases z : b = m - 1
              · rw [z]; exact o.irr _
              · exact hA b (m - 1) (by omega) (by omega)
            have u2 : lt (ga p 0) (ga p b) = false := o.tr _ _ _ u1 d
            have u3 : lt (ga p a) (ga p 0) = false := by
              by_cases z : a = 0
              · rw [z]; exact o.irr _
              · exact hA 0 a (by omega) h2
            exact o.tr _ _ _ u2 u3
          · by_cases z : a = b
            · rw [z]; exact o.irr _
            · exact hA b a (by omega) h2
        refine tr_descPart o (hp.rev 0 m) m1 (by omega) ?_
        have hsz := hp.size
        intro a b hab hb
        rw [ga_rev (by omega), ga_rev (by omega), if_pos ⟨Nat.zero_le _, by omega⟩]
        by_cases cb : b < m
        · rw [if_pos ⟨Nat.zero_le _, cb⟩]; exact eq _ _ (Nat.zero_le _) (by omega) (Nat.zero_le _) (by omega)
        · rw [if_neg (by omega)]
          have : b = m := by omega
          subst this
          exact o.tr _ _ _ st2 (eq _ _ (Nat.zero_le _) (by omega) (Nat.zero_le _) (by omega))
    · rw [if_neg c1]
      have : m = 1 := by omega
      subst this
      refine tr_descPart o hp (Nat.le_refl _) (by omega) ?_
      intro a b hab hb
      have : b = 1 := by omega
      have : a = 0 := by omega
      subst b a
      exact st2
theorem tr_place (o : Ord lt) {p : Array Nat} (hp : PermN n p) (hn : 0 < n) {k : Nat} : ∀ (f l r : Nat), r - l ≤ f → l ≤ r → r ≤ k → (∀ a, a < l → lt (ga p k) (ga p a) = false) → (∀ a, r ≤ a → a < k → lt (ga p k) (ga p a) = true) → Asc lt p k →
    Tr n lt (kas_place p k f l r) fun l' => l' ≤ k ∧ (∀ a, a < l' → lt (ga p k) (ga p a) = false) ∧ ∀ a, l' ≤ a → a < k → lt (ga p k) (ga p a) = true
  | 0, l, r, hf, hl, hr, h1, h2, _ => by
    have : l = r := by omega
    subst this
    exact ⟨hr, h1, h2⟩
  | f + 1, l, r, hf, hl, hr, h1, h2, hA => by
    unfold kas_place
    by_cases c : l ≥ r
    · rw [if_pos c]
      have : l = r := by omega
      subst this
      exact ⟨hr, h1, h2⟩
    · rw [if_neg c]
      refine ⟨hp.lt hn _, hp.lt hn _, ?_⟩
      cases d : lt (p.getD k 0) (p.getD ((l + r) / 2) 0) with
      | true =>
        show Tr n lt (if true = true then _ else _) _; rw [if_pos rfl]
        refine tr_place o hp hn f l ((l + r) / 2) (by omega) (by omega) (by omega) h1 (fun a ha hak => ?_) hA
        by_cases z : a = (l + r) / 2
        · rw [z]; exact d
        · cases e : lt (ga p k) (ga p a) with
          | true => rfl
          | false =>
            have := o.tr _ _ _ (hA ((l + r) / 2) a (by omega) hak) e
            rw [show lt (ga p k) (ga p ((l + r) / 2)) = true from d] at this
            cases this
      | false =>
        show Tr n lt (if false = true then _ else _) _; rw [if_neg Bool.false_ne_true]
        refine tr_place o hp hn f ((l + r) / 2 + 1) r (by omega) (by omega) hr (fun a ha => ?_) h2 hA
        by_cases z : a = (l + r) / 2
        · rw [z]; exact d
        · exact o.tr _ _ _ (hA a ((l + r) / 2) (by omega) (by omega)) d
theorem ga_bub {p : Array Nat} {k d : Nat} (hk : k < p.size) (hd : d ≤ k) (x : Nat) : ga (bubble p k d) x = if x = k - d then ga p k else if k - d < x ∧ x ≤ k then ga p (x - 1) else ga p x := by
  have h := getElem?_bubble hk d hd x
  by_cases c : x = k - d
  · rw [if_pos c] at h ⊢; exact ga_of h
  · rw [if_neg c] at h ⊢
    by_cases c2 : k - d < x ∧ x ≤ k
    · rw [if_pos c2] at h ⊢; exact ga_of h
    · rw [if_neg c2] at h ⊢; exact ga_of h
theorem tr_bin (o : Ord lt) (hn : 0 < n) : ∀ (f : Nat) (p : Array Nat) (k : Nat), PermN n p → 1 ≤ k → k + f = n → Asc lt p k → Tr n lt (kas_bin f p k) fun p' => PermN n p' ∧ Asc lt p' n
  | 0, p, k, hp, _, hk, hA => by
    have : k = n := by omega
    subst this
    exact ⟨hp, hA⟩
  | f + 1, p, k, hp, h1, hk, hA => by
    have hz := hp.size
    refine Tr.bind (Tr.mono (fun l hl => ?_) (tr_place o hp hn k 0 k (by omega) (Nat.zero_le _) (Nat.le_refl _) (fun a ha => by omega) (fun a ha hb => by omega) hA))
    obtain ⟨lk, hlo, hhi⟩ := hl
    refine tr_bin o hn f _ (k + 1) (hp.bub _ _) (by omega) (by omega) ?_
    intro a b hab hb
    rw [ga_bub (by omega) (by omega), ga_bub (by omega) (by omega)]
    have e : k - (k - l) = l := by omega
    rw [e]
    by_cases cb : b = l
    · rw [if_pos cb, if_neg (by omega), if_neg (by omega)]
      exact hlo a (by omega)
    · rw [if_neg cb]
      by_cases cb2 : l < b ∧ b ≤ k
      · rw [if_pos cb2]
        by_cases ca : a = l
        · rw [if_pos ca]
          exact o.asym _ _ (hhi _ (by omega) (by omega))
        · rw [if_neg ca]
          by_cases ca2 : l < a ∧ a ≤ k
          · rw [if_pos ca2]; exact hA _ _ (by omega) (by omega)
          · rw [if_neg ca2]; exact hA _ _ (by omega) (by omega)
      · rw [if_neg cb2, if_neg (by omega), if_neg (by omega)]
        exact hA _ _ hab (by omega)
theorem tr_sort (o : Ord lt) (hn : 0 < n) : Tr n lt (kas_sort n) fun p => PermN n p ∧ Asc lt p n := by
  unfold kas_sort
  refine Tr.bind (Tr.mono (fun r hr => ?_) (tr_count o (p := (List.range n).toArray) (Array.Perm.refl _) hn))
  obtain ⟨h1, h2, h3, h4⟩ := hr
  by_cases c : r.1 < n
  · rw [if_pos c]
    have : max r.1 1 = r.1 := by omega
    rw [this]
    exact tr_bin o hn _ _ _ h1 h2 (by omega) h4
  · rw [if_neg c]
    have : r.1 = n := by omega
    rw [this] at h4
    exact ⟨h1, h4⟩
end
end L2
set_option Elab.async false
set_option linter.all false
set_option maxRecDepth 100000
namespace L2
open PySem PySem.W PySem.Spec PyProof.Rows
theorem lex_same : ∀ b c : List Int, (listOrd itemOrd).blt (b.map Sum.inl) (c.map Sum.inl) = HT.lexLt b c
  | [], [] => rfl
  | [], _ :: _ => rfl
  | _ :: _, [] => rfl
  | x :: b, y :: c => by
    have ih := lex_same b c
    show (decide (x < y) || (!decide (y < x) && (listOrd itemOrd).blt (b.map Sum.inl) (c.map Sum.inl))) = if x = y then HT.lexLt b c else decide (x < y)
    rw [ih]
    by_cases e : x = y
    · subst e; simp
    · rw [if_neg e]
      by_cases l : x < y
      · simp [l]
      · have : y < x := by omega
        simp [l, this]
theorem leB_of {b c : List Int} (h : HT.lexLt c b = false) : leB b c := by
  unfold leB KeyOrd.kle
  rw [lex_same]; exact h
theorem lex_ord (key : Nat → List Int) : Ord fun i j => HT.lexLt (key i) (key j) := by
  refine ⟨fun x y h => ?_, fun x y z h1 h2 => ?_⟩
  · cases e : HT.lexLt (key y) (key x) with
    | false => rfl
    | true =>
      rw [← lex_same] at h e
      have := (listOrd itemOrd).trans _ _ _ h e
      rw [(listOrd itemOrd).irrefl] at this
      cases this
  · rw [← lex_same] at h1 h2 ⊢
    exact KeyOrd.kle_trans (O := listOrd itemOrd) h1 h2
section
variable {prog : Program} {w : World} {A : Around} {E : Value → Shared → Prop} {s : Shared}
theorem ask_gen {x y : Addr} {xs ys : Array Value} {b c : List Int} {Q : Bool → Shared → Prop} (hx : IsTup s.heap x xs) (hy : IsTup s.heap y ys) (hb : IntsAre xs.toList b) (hc : IntsAre ys.toList c) (hu : A.units < cLine) (h : Q (HT.lexLt b c) s) :
    wpAny (model prog w) A (keyLt' general' (.ref x) (.ref y)) Q E s := kat_one _ _ (HT.lt_tupInts hx hy hb hc hu h)
theorem ask_one {x y : Addr} {xs ys : Array Value} {b c : List Int} {Q : Bool → Shared → Prop} (hx : IsTup s.heap x xs) (hy : IsTup s.heap y ys) (hb : IntsAre xs.toList b) (hc : IntsAre ys.toList c) (hu : A.units < cLine) (h : Q (HT.lexLt b c) s) :
    wpAny (model prog w) A (keyLt' oneType' (.ref x) (.ref y)) Q E s := by
  obtain ⟨⟨c1, d1, e1, l1⟩, ho, k1, n1, g1⟩ := id hx
  obtain ⟨⟨c2, d2, e2, l2⟩, ho2, k2, n2, g2⟩ := id hy
  simp only at k1 g1 k2 g2
  subst k1 g1 k2 g2
  rw [keyLt'_oneType, oneLt'_eq]
  simp only [if_true]
  refine wpAny_bind (wpAny_cRoomFor hu ?_)
  refine wpAny_bind (wpAny_callSpecialIfBound?_slot ⟨_, ho, rfl⟩ PySem.F.slot_tuple_lt (call_meets PySem.F.slot_tuple_lt ⟨_, ho, rfl⟩ PySem.F.entry_tuple_lt (PySem.F.args_tuple_lt_2 _ _) (HT.tuple_lt_ints x y xs ys n1 n2 d1 d2 l1 l2 b c hb hc) ⟨ho, ho2, ?_⟩))
  exact wpAny_truthy_bool h
theorem map_det {M : Model} {α β : Type} {f : α → Sem β} (r : α → β) : ∀ (l : List α) {Q : List β → Shared → Prop}, (∀ v ∈ l, ∀ (Q' : β → Shared → Prop), Q' (r v) s → wpAny M A (f v) Q' E s) → Q (l.map r) s → wpAny M A (l.mapM f) Q E s
  | [], _, _, h => by rw [List.mapM_nil]; exact wpAny_pure h
  | x :: l, Q, hf, h => by
    rw [List.mapM_cons]
    refine wpAny_bind (hf x (.head _) _ ?_)
    refine wpAny_bind (map_det r l (fun v hv => hf v (.tail _ hv)) ?_)
    exact wpAny_pure h
theorem kind_mixed {M : Model} {ps : List Addr} {Q : SortKind → Shared → Prop} (h2 : 2 ≤ ps.length) (ht : ∀ p ∈ ps, ∃ xs : Array Value, IsTup s.heap p xs) (he : ∃ p ∈ ps, IsTup s.heap p #[]) (hg : Q general' s) (ho : Q oneType' s) :
    wpAny M A (keyKind' (ps.map Value.ref).toArray) Q E s := by
  let fst : Value → Option Value := fun v => match v with
    | .ref p => (match s.heap.get? p with
      | some o => (match o.data with
        | .seq xs _ => xs[0]?
        | _ => none)
      | none => none)
    | _ => none
  rw [kat_kind_eq, List.mapM_toArray, map_eq_pure_bind]
  refine wpAny_bind (wpAny_bind (map_det fst _ (fun v hv Q' hq => ?_) (wpAny_pure ?_)))
  · obtain ⟨p, hp, rfl⟩ := List.mem_map.mp hv
    obtain ⟨xs, o, e, hc, n, hd⟩ := ht p hp
    rw [kas_first_eq]
    refine wpAny_bind (Looks.here (show Looks M s.heap (typeOf (.ref p)) o.cls from (Looks.ld e).andThen .now) ?_)
    rw [hc, if_neg (by first | decide | simp)]
    refine wpAny_bind (listItems_at e hd (wpAny_pure ?_))
    have : fst (.ref p) = xs[0]? := by
      show (match s.heap.get? p with
        | some o => (match o.data with
          | .seq xs _ => xs[0]?
          | _ => none)
        | none => none) = _
      rw [e]
      simp only [hd]
    rw [← this]; exact hq
  · have na : ¬ (((ps.map Value.ref).map fst).toArray.all fun x => x.isSome) = true := by
      obtain ⟨p, hp, o, e, hc, n, hd⟩ := he
      rw [List.all_toArray, List.all_eq_true]
      intro h
      have h1 := h (fst (.ref p)) (List.mem_map.mpr ⟨.ref p, List.mem_map.mpr ⟨p, hp, rfl⟩, rfl⟩)
      have : fst (.ref p) = none := by
        show (match s.heap.get? p with
          | some o => (match o.data with
            | .seq xs _ => xs[0]?
            | _ => none)
          | none => none) = _
        rw [e]
        simp [hd]
      rw [this] at h1
      cases h1
    rw [if_neg na]
    by_cases hf : ((((ps.map Value.ref).map fst).toArray[0]?).bind id).isSome = true
    · rw [if_pos hf]; exact wpAny_pure hg
    · rw [if_neg hf, oneTypeOnly'_eq, List.mapM_toArray, map_eq_pure_bind]
      refine wpAny_bind (wpAny_bind (wpAny_bind (map_det (fun _ => Value.type "tuple") _ (fun v hv Q' hq => ?_) (wpAny_pure ?_))))
      · obtain ⟨p, hp, rfl⟩ := List.mem_map.mp hv
        obtain ⟨xs, o, e, hc, n, hd⟩ := ht p hp
        refine Looks.here (show Looks M s.heap (typeOf (.ref p)) o.cls from (Looks.ld e).andThen .now) ?_
        rw [hc]; exact hq
      · have h0 : ((ps.map Value.ref).map fun _ => Value.type "tuple").toArray[0]? = some (.type "tuple") := by
          cases ps with
          | nil => simp at h2
          | cons p r => simp
        rw [h0]
        have hall : (((ps.map Value.ref).map fun _ => Value.type "tuple").toArray.all fun x => x == Value.type "tuple") = true := by
          rw [List.all_toArray, List.all_eq_true]
          intro x hx
          obtain ⟨_, _, rfl⟩ := List.mem_map.mp hx
          first | rfl | decide | simp
        simp only [hall, if_true]
        exact wpAny_pure (wpAny_pure ho)
end
end L2
set_option Elab.async false
set_option linter.all false
set_option maxRecDepth 100000
namespace L2
open PySem PySem.W PySem.Spec PyProof.Rows
section
variable {prog : Program} {w : World} {A : Around} {E : Value → Shared → Prop} {s : Shared}
theorem sort_any {a : Addr} {vs : List Value} {n : Nat} {P : Fin → Shared → Prop} (G : Array Nat → Prop) (ho : s.heap.get? a = some (seqObj "list" vs.toArray n)) (hz : vs.length < 64)
    (hk : 2 ≤ vs.length → ∀ h6 : Heap, (∀ b o, b ≠ a → s.heap.get? b = some o → h6.get? b = some o) → wpAny (model prog w) A (keyKind' vs.toArray) (fun κ s' => (kas_sort vs.length).kasWp (kas_ask prog w A κ vs) (fun p s'' => s'' = { s with heap := h6 } ∧ G p) s') (fun _ _ => False) { s with heap := h6 })
    (h : ∀ (out : List Value) (h' : Heap) (c : Nat), ((vs.length < 2 ∧ out = vs) ∨ ∃ p : Array Nat, p.size = vs.length ∧ G p ∧ out = p.toList.map fun i => vs.getD i Value.none) → h'.get? a = some (seqObj "list" out.toArray c) → (∀ b o, b ≠ a → s.heap.get? b = some o → h'.get? b = some o) → P (.done (.ret .none)) { s with heap := h' }) :
    wpAny (model prog w) A (Builtin.«list.sort» ⟨[.ref a], []⟩) P E s := by
  have la := Heap.lt_size ho
  have ls := sizeLine_eq
  obtain ⟨k, g1⟩ : ∃ k, (s.heap.update a (Obj.mapSeq fun _ => (#[] : Array Value))).get? a = some (seqObj "list" #[] k) := ⟨_, get?_update_seq ho fun _ => #[]⟩
  have u1 : ∀ b o, b ≠ a → s.heap.get? b = some o → (s.heap.update a (Obj.mapSeq fun _ => (#[] : Array Value))).get? b = some o := fun b o hb e => by rw [Heap.get?_update_ne _ _ _ _ hb]; exact e
  rw [list_sort_plain]
  refine wpAny_bind (listItems_at ho rfl (wpAny_bind (listUpdate_at ho rfl ?_ (by rw [List.size_toArray]; omega) (by simp))))
  refine wpAny_bind (seqEpoch_at g1 rfl (wpAny_bind (wpAny_newTuple ?_ (by show vs.length ≤ _; omega))))
  refine wpAny_bind (wpAny_newList (wpAny_holding ?_) (by simp))
  show wpAny (model prog w) A _ P E { s with heap := ((s.heap.update a (Obj.mapSeq fun _ => (#[] : Array Value))).push (seqObj "tuple" vs.toArray 0)).push (seqObj "list" #[] 0) }
  generalize hM : ((s.heap.update a (Obj.mapSeq fun _ => (#[] : Array Value))).push (seqObj "tuple" vs.toArray 0)).push (seqObj "list" #[] 0) = h6
  have g6 : h6.get? a = some (seqObj "list" #[] k) := by rw [← hM]; exact Heap.get?_push_of_some _ (Heap.get?_push_of_some _ g1)
  have u6 : ∀ b o, b ≠ a → s.heap.get? b = some o → h6.get? b = some o := fun b o hb e => by rw [← hM]; exact Heap.get?_push_of_some _ (Heap.get?_push_of_some _ (u1 b o hb e))
  dsimp only
  by_cases hs2 : vs.toArray.size < 2
  · rw [if_pos hs2, if_pos hs2]
    refine wpAny_bind (wpAny_pure ?_)
    rw [StateT.run_pure]
    refine wpAny_bind (wpAny_pure ?_)
    dsimp only
    have out : (arrOf (SortSt.mk' general' (vs.toArray.zip vs.toArray) #[] 7 none)).map (·.2) = vs.toArray := by
      show (vs.toArray.zip vs.toArray).map (·.2) = vs.toArray
      apply Array.toList_inj.mp
      rw [Array.toList_map, Array.toList_zip]
      exact List.map_snd_zip (Nat.le_refl _)
    rw [out]
    refine wpAny_bind (seqEpoch_at g6 rfl ?_)
    refine wpAny_bind (listUpdate_at g6 rfl ?_ (by simp) (by rw [List.size_toArray]; omega))
    simp only [bne_self_eq_false, Bool.false_eq_true, if_false]
    exact wpAny_pure (h vs _ _ (.inl ⟨by simpa using hs2, rfl⟩) (get?_update_seq g6 fun _ => vs.toArray) fun b o hb e => by rw [Heap.get?_update_ne _ _ _ _ hb]; exact u6 b o hb e)
  · rw [if_neg hs2, if_neg hs2]
    have l2 : 2 ≤ vs.length := by rw [List.size_toArray] at hs2; omega
    refine wpAny_bind (wpAny_mono (hk l2 h6 u6) (fun κ s0 hq => ?_) fun _ _ x => x.elim)
    refine wpAny_bind (wpAny_mono (kat_run (Q := fun st' s' => s' = { s with heap := h6 } ∧ failedOf st' = none ∧ ∃ p : Array Nat, p.size = vs.length ∧ arrOf st' = p.map (kas_item (vs.toArray.zip vs.toArray)) ∧ G p) rfl l2 hz (fun p st' s' z1 z2 z3 z4 => ⟨z4.1, z3, p, z1, z2, z4.2⟩) hq) ?_ fun _ _ x => x)
    rintro ⟨⟨⟩, st'⟩ s' ⟨rfl, hf, p, hp, har, hg⟩
    dsimp only
    rw [kat_snds rfl har]
    refine wpAny_bind (seqEpoch_at g6 rfl ?_)
    refine wpAny_bind (listUpdate_at g6 rfl ?_ (by simp) (by rw [List.size_toArray, List.length_map, Array.length_toList]; omega))
    rw [hf]
    simp only [bne_self_eq_false, Bool.false_eq_true, if_false]
    exact wpAny_pure (h _ _ _ (.inr ⟨p, hp, hg, rfl⟩) (get?_update_seq g6 fun _ => (p.toList.map fun i => vs.getD i Value.none).toArray) fun b o hb e => by rw [Heap.get?_update_ne _ _ _ _ hb]; exact u6 b o hb e)
theorem sorted_any {l : Addr} {vs : List Value} {Q : Value → Shared → Prop} (G : Array Nat → Prop) (hl : s.heap.IsList l vs.toArray) (hz : vs.length < 64)
    (hk : 2 ≤ vs.length → ∀ h6 : Heap, (∀ b o, s.heap.get? b = some o → h6.get? b = some o) → wpAny (model prog w) A.in1.in1 (keyKind' vs.toArray) (fun κ s' => (kas_sort vs.length).kasWp (kas_ask prog w A.in1.in1 κ vs) (fun p s'' => s'' = { s with heap := h6 } ∧ G p) s') (fun _ _ => False) { s with heap := h6 })
    (h : ∀ (out : List Value) (h' : Heap) (c : Nat), ((vs.length < 2 ∧ out = vs) ∨ ∃ p : Array Nat, p.size = vs.length ∧ G p ∧ out = p.toList.map fun i => vs.getD i Value.none) → h'.get? (s.heap.objs.size + 1) = some (seqObj "list" out.toArray c) → (∀ b o, s.heap.get? b = some o → h'.get? b = some o) → Q (.ref (s.heap.objs.size + 1)) { s with heap := h' }) : wpAny (model prog w) A (call (.builtin "sorted") [.ref l]) Q E s := by
  have ls := sizeLine_eq
  refine Calls.call_function_entry kind_sorted plain_sorted entry_sorted (args_sorted1 _) ?_
  unfold Builtin.«sorted»
  refine wpAny_bind (m := checkCount "sorted" 1 1 _) (wpAny_pure (wpAny_bind (collect_list hl ?_ (by omega))))
  refine wpAny_bind (wpAny_newList ?_ (by omega))
  have z1 : ((s.heap.push (seqObj "list" #[] 0)).update s.heap.objs.size (Obj.mapSeq (· ++ vs.toArray))).objs.size = s.heap.objs.size + 1 := by rw [Heap.size_update, size_push']
  have kp : ∀ b o, s.heap.get? b = some o → (((s.heap.push (seqObj "list" #[] 0)).update s.heap.objs.size (Obj.mapSeq (· ++ vs.toArray))).push (seqObj "list" vs.toArray 0)).get? b = some o := fun b o e => by
    have lb := Heap.lt_size e
    exact Heap.get?_push_of_some _ (by rw [Heap.get?_update_ne _ _ _ _ (Nat.ne_of_lt lb)]; exact Heap.get?_push_of_some _ e)
  have g1 : (((s.heap.push (seqObj "list" #[] 0)).update s.heap.objs.size (Obj.mapSeq (· ++ vs.toArray))).push (seqObj "list" vs.toArray 0)).get? (s.heap.objs.size + 1) = some (seqObj "list" vs.toArray 0) := by rw [← z1]; exact Heap.get?_push_size _ rfl
  show wpAny _ _ _ _ _ { s with heap := ((s.heap.push (seqObj "list" #[] 0)).update s.heap.objs.size (Obj.mapSeq (· ++ vs.toArray))).push (seqObj "list" vs.toArray 0) }
  rw [z1]
  generalize ((s.heap.push (seqObj "list" #[] 0)).update s.heap.objs.size (Obj.mapSeq (· ++ vs.toArray))).push (seqObj "list" vs.toArray 0) = h2 at kp g1
  refine wpAny_bind (wpAny_holding (wpAny_call_entry slot_list_sort ⟨_, g1, rfl⟩ entry_list_sort ?_ (args_list_sort _)))
  have ne : ∀ b o, s.heap.get? b = some o → b ≠ s.heap.objs.size + 1 := fun b o eb => Nat.ne_of_lt (Nat.lt_succ_of_lt (Heap.lt_size eb))
  refine sort_any (s := { s with heap := h2 }) G g1 hz (fun z2 h6 k6 => hk z2 h6 fun b o eb => k6 b o (ne b o eb) (kp b o eb)) fun out h' c z e k => ?_
  exact ⟨_, rfl, wpAny_pure ⟨_, rfl, h out h' c z e fun b o eb => k b o (ne b o eb) (kp b o eb)⟩⟩
end
section
variable {X : Cx}
def cSortE : List V → Hp → VK → Prop := fun vs H Q => ∃ (a : Addr) (ps : List Addr) (bs : List (List Int)), vs = [V.ref a] ∧ H a = some (.lst (ps.map V.ref)) ∧ TupsAt H ps bs ∧ ps.length < 64 ∧
  ∀ (ps' : List Addr) (bs' : List (List Int)) (p : Addr) (H' : Hp), bs'.Perm bs → bs'.Pairwise leB → H p = none → Same H H' → H' p = some (.lst (ps'.map V.ref)) → TupsAt H' ps' bs' → Q (.ref p) H'
theorem k_sortE (hu : X.A.units + 64 < cLine) : CallR X (.builtin "sorted") cSortE := by
  intro pins s σ H vs us Q I r h
  obtain ⟨a, ps, bs, rfl, ha, tu, h64, q⟩ := h
  by_cases hne : ∀ b ∈ bs, b ≠ []
  · exact k_sortT2 pins s σ H _ us Q I r ⟨a, ps, bs, rfl, ha, tu, hne, fun ps' bs' p h1 h2 h3 h4 => q ps' bs' p _ h1 h2 h4 (Same.new h4 _) upd_same (h3.same (Same.new h4 _))⟩
  obtain ⟨z, its, n, rv, hl, e⟩ := I.lstM ha
  rw [Vals.ref1 r]
  have ei := refs_vals rv
  subst ei
  have len : (ps.map Value.ref).length = ps.length := List.length_map ..
  have obj : ∀ p ∈ ps, ∃ us : List Value, H p = some (.tup ((intsAt H p).map V.int)) ∧ Vals ((intsAt H p).map V.int) us ∧ IsTup s.heap p us.toArray := by
    intro p hp
    obtain ⟨b, hb, eb⟩ := tu.mem hp
    obtain ⟨_, us, rb, tp⟩ := (show ObjOk X.prog X.w H s.heap p (.tup (b.map V.int)) from I.hok p _ eb)
    rw [intsAt_of eb]
    exact ⟨us, eb, rb, tp⟩
  have hu1 : X.A.in1.in1.units < cLine := by
    show X.A.units + 1 + 1 < cLine
    omega
  let key : Nat → List Int := fun i => intsAt H (ps.getD i 0)
  have fr : H (s.heap.objs.size + 1) = none := I.hok.fresh (Nat.le_succ _)
  refine sorted_any (fun p => PermN ps.length p ∧ Asc (fun i j => HT.lexLt (key i) (key j)) p ps.length) (vs := ps.map Value.ref) ⟨_, e, rfl, n, rfl⟩ (by omega) (fun l2 h6 k6 => ?_) fun out h' c hout e' k => ?_
  · rw [len] at l2 ⊢
    have tup6 : ∀ p ∈ ps, ∃ us : List Value, IntsAre us (intsAt H p) ∧ IsTup h6 p us.toArray := fun p hp => by
      obtain ⟨us, _, rb, o, eo, co⟩ := obj p hp
      exact ⟨us, rb.ints, o, k6 _ _ eo, co⟩
    have ask : ∀ κ : SortKind, κ = general' ∨ κ = oneType' → (kas_sort ps.length).kasWp (kas_ask X.prog X.w X.A.in1.in1 κ (ps.map Value.ref)) (fun p s'' => s'' = { s with heap := h6 } ∧ PermN ps.length p ∧ Asc (fun i j => HT.lexLt (key i) (key j)) p ps.length) { s with heap := h6 } := by
      intro κ hκ
      refine Tr.wp (n := ps.length) (lt := fun i j => HT.lexLt (key i) (key j)) (fun i j C hi hj hC => ?_) (fun p hp => ⟨rfl, hp⟩) (tr_sort (lex_ord key) (by omega))
      have ei : (ps.map Value.ref).getD i Value.none = .ref (ps.getD i 0) := by simp [List.getD, List.getElem?_map, List.getElem?_eq_getElem hi]
      have ej : (ps.map Value.ref).getD j Value.none = .ref (ps.getD j 0) := by simp [List.getD, List.getElem?_map, List.getElem?_eq_getElem hj]
      unfold kas_ask
      rw [ei, ej]
      obtain ⟨u1, i1, t1⟩ := tup6 (ps.getD i 0) (by simp [List.getD, List.getElem?_eq_getElem hi])
      obtain ⟨u2, i2, t2⟩ := tup6 (ps.getD j 0) (by simp [List.getD, List.getElem?_eq_getElem hj])
      rcases hκ with rfl | rfl
      · exact ask_gen t1 t2 i1 i2 hu1 hC
      · exact ask_one t1 t2 i1 i2 hu1 hC
    refine kind_mixed l2 (fun p hp => ?_) ?_ (ask _ (.inl rfl)) (ask _ (.inr rfl))
    · obtain ⟨us, _, t⟩ := tup6 p hp
      exact ⟨_, t⟩
    · obtain ⟨b, hb, be⟩ : ∃ b ∈ bs, b = [] := by
        refine Classical.byContradiction fun hn => hne fun b hb z => hn ⟨b, hb, z⟩
      obtain ⟨i, hi⟩ := List.mem_iff_getElem?.mp hb
      have hil : i < ps.length := by rw [tu.1]; exact (List.getElem?_eq_some_iff.mp hi).1
      have ep := tu.2 i ps[i] b (List.getElem?_eq_getElem hil) hi
      obtain ⟨us, iu, t⟩ := tup6 ps[i] (List.getElem_mem _)
      rw [intsAt_of ep, be] at iu
      cases iu
      exact ⟨_, List.getElem_mem _, t⟩
  · have done' : ∀ qs : List Addr, out = qs.map Value.ref → qs.Perm ps → (qs.map (intsAt H)).Pairwise leB → EP X pins σ Q (.ref (s.heap.objs.size + 1)) { s with heap := h' } := by
      intro qs eo hq hs
      have hlen : (qs.map V.ref).length ≤ sizeLine := by rw [List.length_map, hq.length_eq]; rw [List.length_map] at z; exact z
      have tq : TupsAt H qs (qs.map (intsAt H)) := TupsAt.of_all fun p hp => by
        obtain ⟨b, _, eb⟩ := tu.mem (hq.mem_iff.mp hp)
        exact ⟨b, eb⟩
      refine ⟨.ref _, _, I.laid (t' := s.toks) (a := s.heap.objs.size + 1) (o := .lst (qs.map V.ref)) k (Nat.le_succ _) ⟨hlen, qs.map Value.ref, c, vals_refs qs, by rw [← eo]; exact e'⟩, rfl, q qs (qs.map (intsAt H)) _ _ ?_ hs fr (Same.new fr _) upd_same (tq.same (Same.new fr _))⟩
      rw [tu.eq]
      exact hq.map _
    rcases hout with ⟨h2, rfl⟩ | ⟨p, hp, ⟨pp, as⟩, rfl⟩
    · refine done' ps rfl (List.Perm.refl _) ?_
      rw [len] at h2
      match ps, h2 with
      | [], _ => exact List.Pairwise.nil
      | [x], _ => exact List.pairwise_singleton _ _
    · have hl : p.toList.Perm (List.range ps.length) := by have := pp.toList; simpa using this
      have psz := pp.size
      refine done' (p.toList.map fun i => ps.getD i 0) ?_ ?_ ?_
      · rw [List.map_map]
        apply List.map_congr_left
        intro i hi
        have hi := List.mem_range.mp (hl.mem_iff.mp hi)
        simp [List.getD, List.getElem?_map, List.getElem?_eq_getElem hi]
      · have := hl.map fun i => ps.getD i 0
        refine this.trans (List.Perm.of_eq ?_)
        apply List.ext_getElem?
        intro i
        by_cases hi : i < ps.length
        · simp [List.getElem?_map, List.getElem?_range hi, List.getD, List.getElem?_eq_getElem hi]
        · rw [List.getElem?_eq_none (by simp; omega), List.getElem?_eq_none (by omega)]
      · rw [List.map_map, List.pairwise_map, List.pairwise_iff_getElem]
        intro i j hi hj hij
        have hj' : j < p.size := by simpa using hj
        have hi' : i < p.size := by omega
        have := as i j hij (by omega)
        have g1 : ga p i = p.toList[i] := by simp [ga, Array.getD, hi']
        have g2 : ga p j = p.toList[j] := by simp [ga, Array.getD, hj']
        rw [g1, g2] at this
        exact leB_of this
end
end L2
set_option Elab.async false
set_option linter.all false
set_option maxRecDepth 100000
namespace L2
open PySem PySem.W PySem.Spec PyProof.Rows
section
variable {X : Cx}
def cSortM : List V → Hp → VK → Prop := fun vs H Q => ∃ (a : Addr) (bs : List (List Int)), vs = [V.ref a] ∧ Blks H a bs ∧ (bs.length < 64 ∨ ∀ b ∈ bs, b ≠ []) ∧
  ∀ (bs' : List (List Int)) (p : Addr) (H' : Hp), bs'.Perm bs → bs'.Pairwise leB → H p = none → Same H H' → Blks H' p bs' → Q (.ref p) H'
theorem k_sortM (hu : X.A.units + 64 < cLine) : CallR X (.builtin "sorted") cSortM := by
  intro pins s σ H vs us Q I r h
  obtain ⟨a, bs, rfl, ⟨ps, ha, tu⟩, c, q⟩ := h
  rcases c with c | c
  · exact k_sortE hu pins s σ H _ us Q I r ⟨a, ps, bs, rfl, ha, tu, by rw [tu.1]; exact c, fun ps' bs' p H' h1 h2 h3 h4 h5 h6 => q bs' p H' h1 h2 h3 h4 ⟨ps', h5, h6⟩⟩
  · exact k_sortT2 pins s σ H _ us Q I r ⟨a, ps, bs, rfl, ha, tu, c, fun ps' bs' p h1 h2 h3 h4 => q bs' p _ h1 h2 h4 (Same.new h4 _) ⟨ps', upd_same, h3.same (Same.new h4 _)⟩⟩
def rIndexI : V → List V → Hp → VK → Prop := fun x xs H Q => ∃ (a : Addr) (ns : List Int) (t : Int) (j : Nat), x = .ref a ∧ xs = [.int t] ∧ H a = some (.lst (ns.map V.int)) ∧ ns[j]? = some t ∧ (∀ (k : Nat), k < j → ∀ z, ns[k]? = some z → z ≠ t) ∧ Q (.int (j : Nat)) H
end
end L2
set_option Elab.async false
set_option linter.all false
set_option maxRecDepth 100000
namespace L2
open PySem PySem.W PySem.Calls PyProof.Rows
theorem wp_load' {α : Type} {M : Model} {Γ : Ctx} {a : Addr} {k : Obj → Sem α} {Q : α → Pos → Shared → Prop} {E : Value → Pos → Shared → Prop} {p : Pos} {s : Shared} : Sem.wp M Γ (PySem.load a >>= k) Q E p s ↔ ∃ o, s.heap.get? a = some o ∧ Sem.wp M Γ (k o) Q E p s := by
  rw [Sem.wp_bind']
  unfold PySem.load
  simp only [Sem.wp]
theorem inv_items {M : Model} {Γ : Ctx} {a : Addr} {xs : Array Value} {n : Nat} {o : Obj} {Q : Array Value → Pos → Shared → Prop} {E : Value → Pos → Shared → Prop} {p : Pos} {s : Shared} (h : s.heap.get? a = some o) (d : o.data = .seq xs n) (w : Sem.wp M Γ (Builtin.List.listItems (.ref a)) Q E p s) : Q xs p s := by
  unfold Builtin.List.listItems seqItems? at w
  rw [Sem.wp_bind'] at w
  dsimp only at w
  rw [wp_load'] at w
  obtain ⟨o', ho', w⟩ := w
  rw [h] at ho'
  cases ho'
  rw [d] at w
  simpa [Sem.wp] using w
theorem inv_eq {M : Model} {Γ : Ctx} {t : Tok} {Q : Bool → Pos → Shared → Prop} {E : Value → Pos → Shared → Prop} {p : Pos} {s : Shared} (w : Sem.wp M Γ (eqBool (.int 0 t) (.int 0 t)) Q E p s) : Q true p s := by
  unfold eqBool at w
  have e : (holding [Value.int 0 t, Value.int 0 t] : Sem Bool → Sem Bool) = id := rfl
  rw [e] at w
  have c : (Value.int 0 t == Value.int 0 t) = true := beq_self_eq_true _
  simp only [c, if_true, id] at w
  simpa [Sem.wp, rule] using w
theorem inv_loop {M : Model} {Γ : Ctx} {t : Tok} {Q : Option Bool × Unit → Pos → Shared → Prop} {E : Value → Pos → Shared → Prop} {p : Pos} {s : Shared} {body : (Value × Value) × Nat → Option Bool × Unit → Sem (ForInStep (Option Bool × Unit))}
    (hb : ∀ i (Q' : ForInStep (Option Bool × Unit) → Pos → Shared → Prop), Sem.wp M Γ (body ((.int 0 t, .int 0 t), i) (none, ())) Q' E p s → Q' (.yield (none, ())) p s) : ∀ (l : List ((Value × Value) × Nat)), (∀ x ∈ l, x.1 = (.int 0 t, .int 0 t)) →
    Sem.wp M Γ (forIn l (none, ()) body) Q E p s → Q (none, ()) p s
  | [], _, w => by simpa [Sem.wp] using w
  | ((u, v), i) :: l, h, w => by
    have hx : (u, v) = (.int 0 t, .int 0 t) := h _ List.mem_cons_self
    cases hx
    rw [List.forIn_cons, Sem.wp_bind'] at w
    have w := hb _ _ w
    exact inv_loop hb l (fun y hy => h y (List.mem_cons_of_mem _ hy)) w
theorem inv_lt {M : Model} {Γ : Ctx} {t : Tok} {b : Bool} {x y : Addr} {i j n m : Nat} {ox oy : Obj} {Q : Bool → Pos → Shared → Prop} {E : Value → Pos → Shared → Prop} {p : Pos} {s : Shared}
    (hx : s.heap.get? x = some ox) (dx : ox.data = .seq (Array.replicate i (.int 0 t)) n) (hy : s.heap.get? y = some oy) (dy : oy.data = .seq (Array.replicate j (.int 0 t)) m)
    (w : Sem.wp M Γ (keyLt' (tuples' b) (.ref x) (.ref y)) Q E p s) : Q (decide (i < j)) p s := by
  rw [kat_lt_eq] at w
  rw [Sem.wp_bind'] at w
  have w := inv_items hx dx w
  rw [Sem.wp_bind'] at w
  have w := inv_items hy dy w
  rw [Sem.wp_bind'] at w
  have w := inv_loop (t := t) (fun i' Q' w' => ?_) _ (fun z hz => ?_) w
  · simpa [Sem.wp] using w
  · dsimp only at w'
    rw [Sem.wp_bind'] at w'
    have w' := inv_eq w'
    simpa [Sem.wp] using w'
  · obtain ⟨⟨u, v⟩, k⟩ := z
    have hm : (u, v) ∈ (Array.replicate i (Value.int 0 t)).toList.zip (Array.replicate j (Value.int 0 t)).toList := by
      have := List.mem_map_of_mem (f := Prod.fst) hz
      rw [List.zipIdx_map_fst] at this
      exact this
    have h1 := (List.of_mem_zip hm).1
    have h2 := (List.of_mem_zip hm).2
    simp at h1 h2
    rw [h1.2, h2.2]
structure Prq where
  n : Nat
  k1 : Nat → Keyed
  k2 : Nat → Keyed
  d1 : SortKind
  d2 : SortKind
def RKq (X : Prq) (a b : Keyed) : Prop := ∃ i, i < X.n ∧ a = X.k1 i ∧ b = X.k2 i
def RAq (X : Prq) (a b : Array Keyed) : Prop := ∃ l : List Nat, (∀ i ∈ l, i < X.n) ∧ a = (l.map X.k1).toArray ∧ b = (l.map X.k2).toArray
structure RSq (X : Prq) (s1 s2 : SortSt) : Prop where
  arr : RAq X (arrOf s1) (arrOf s2)
  k1 : kindOf s1 = X.d1
  k2 : kindOf s2 = X.d2
  pend : pendingOf s1 = pendingOf s2
  gal : gallopOf s1 = gallopOf s2
  f1 : failedOf s1 = none
  f2 : failedOf s2 = none
section
variable {X : Prq}
theorem RAq.size {a b : Array Keyed} (h : RAq X a b) : a.size = b.size := by obtain ⟨l, _, rfl, rfl⟩ := h; simp
theorem RAq.get {a b : Array Keyed} (h : RAq X a b) (i : Nat) : (a[i]? = none ∧ b[i]? = none) ∨ ∃ x y, a[i]? = some x ∧ b[i]? = some y ∧ RKq X x y := by
  obtain ⟨l, hl, rfl, rfl⟩ := h
  by_cases c : i < l.length
  · exact .inr ⟨X.k1 l[i], X.k2 l[i], by simp [c], by simp [c], l[i], hl _ (List.getElem_mem c), rfl, rfl⟩
  · exact .inl ⟨by simp [Nat.le_of_not_lt c], by simp [Nat.le_of_not_lt c]⟩
theorem RAq.one {x y : Keyed} (h : RKq X x y) : RAq X #[x] #[y] := by
  obtain ⟨i, hi, rfl, rfl⟩ := h
  exact ⟨[i], fun j hj => by rw [List.mem_singleton.mp hj]; exact hi, rfl, rfl⟩
theorem RAq.app {a b c d : Array Keyed} (h : RAq X a b) (k : RAq X c d) : RAq X (a ++ c) (b ++ d) := by
  obtain ⟨l, hl, rfl, rfl⟩ := h
  obtain ⟨m, hm, rfl, rfl⟩ := k
  exact ⟨l ++ m, fun i hi => (List.mem_append.mp hi).elim (hl i) (hm i), by simp, by simp⟩
theorem RAq.push {a b : Array Keyed} {x y : Keyed} (h : RAq X a b) (k : RKq X x y) : RAq X (a.push x) (b.push y) := by
  rw [Array.push_eq_append, Array.push_eq_append]
  exact h.app (.one k)
theorem RAq.ext {a b : Array Keyed} (h : RAq X a b) (i j : Nat) : RAq X (a.extract i j) (b.extract i j) := by
  obtain ⟨l, hl, rfl, rfl⟩ := h
  refine ⟨(l.take j).drop i, fun k hk => hl k (List.mem_of_mem_take (List.mem_of_mem_drop hk)), ?_, ?_⟩ <;>
  · rw [List.extract_toArray, List.extract_eq_drop_take', List.map_drop, List.map_take]
theorem RAq.rev {a b : Array Keyed} (h : RAq X a b) : RAq X a.reverse b.reverse := by
  obtain ⟨l, hl, rfl, rfl⟩ := h
  exact ⟨l.reverse, fun i hi => hl i (List.mem_reverse.mp hi), by simp, by simp⟩
theorem RAq.swap {a b : Array Keyed} (h : RAq X a b) (i j : Nat) : RAq X (a.swapIfInBounds i j) (b.swapIfInBounds i j) := by
  obtain ⟨l, hl, rfl, rfl⟩ := h
  by_cases c : i < l.length ∧ j < l.length
  · obtain ⟨ci, cj⟩ := c
    refine ⟨(l.set i l[j]).set j l[i], fun k hk => ?_, ?_, ?_⟩
    · rcases List.mem_or_eq_of_mem_set hk with z | z
      · rcases List.mem_or_eq_of_mem_set z with z | z
        · exact hl k z
        · rw [z]; exact hl _ (List.getElem_mem cj)
      · rw [z]; exact hl _ (List.getElem_mem ci)
    all_goals
      apply Array.ext'
      rw [Array.swapIfInBounds_def, dif_pos (by simpa using ci), dif_pos (by simpa using cj)]
      simp [Array.toList_swap, List.map_set]
  · have e : ∀ (k : Nat → Keyed), (l.map k).toArray.swapIfInBounds i j = (l.map k).toArray := fun k => by
      rw [Array.swapIfInBounds_def]
      by_cases ci : i < l.length
      · have cj : ¬ j < l.length := fun z => c ⟨ci, z⟩
        rw [dif_pos (by simpa using ci), dif_neg (by simpa using cj)]
      · rw [dif_neg (by simpa using ci)]
    rw [e, e]
    exact ⟨l, hl, rfl, rfl⟩
theorem RAq.mir {a b : Array Keyed} (h : RAq X a b) (i j : Nat) : ∀ d, RAq X (mirror a i j d) (mirror b i j d)
  | 0 => h
  | d + 1 => by rw [mirror_succ, mirror_succ]; exact (RAq.mir h i j d).swap _ _
theorem RAq.bub {a b : Array Keyed} (h : RAq X a b) (k : Nat) : ∀ d, RAq X (bubble a k d) (bubble b k d)
  | 0 => h
  | d + 1 => by rw [bubble_succ, bubble_succ]; exact (RAq.bub h k d).swap _ _
theorem RAq.set {a b : Array Keyed} {x y : Keyed} (h : RAq X a b) (k : RKq X x y) (i : Nat) : RAq X (a.setIfInBounds i x) (b.setIfInBounds i y) := by
  obtain ⟨l, hl, rfl, rfl⟩ := h
  obtain ⟨j, hj, rfl, rfl⟩ := k
  refine ⟨l.set i j, fun k hk => ?_, ?_, ?_⟩
  · rcases List.mem_or_eq_of_mem_set hk with z | z
    · exact hl k z
    · rw [z]; exact hj
  all_goals
    apply Array.ext'
    simp [List.map_set]
theorem RAq.fold {c d : Array Keyed} (k : RAq X c d) (sa : Nat) {a b : Array Keyed} (h : RAq X a b) : RAq X (c.toList.zipIdx.foldl (fun a (p : Keyed × Nat) => a.setIfInBounds (sa + p.2) p.1) a) (d.toList.zipIdx.foldl (fun a (p : Keyed × Nat) => a.setIfInBounds (sa + p.2) p.1) b) := by
  obtain ⟨l, hl, rfl, rfl⟩ := k
  have key : ∀ (l : List Nat) (o : Nat) (a b : Array Keyed), (∀ i ∈ l, i < X.n) → RAq X a b → RAq X (((l.map X.k1).zipIdx o).foldl (fun a (p : Keyed × Nat) => a.setIfInBounds (sa + p.2) p.1) a) (((l.map X.k2).zipIdx o).foldl (fun a (p : Keyed × Nat) => a.setIfInBounds (sa + p.2) p.1) b) := by
    intro l
    induction l with
    | nil => exact fun _ _ _ _ h => h
    | cons i l ih =>
      intro o a b hl h
      exact ih (o + 1) _ _ (fun j hj => hl j (List.mem_cons_of_mem _ hj)) (h.set ⟨i, hl i List.mem_cons_self, rfl, rfl⟩ _)
  exact key l 0 a b hl h
end
structure CxQ where
  M : Model
  Γ : Ctx
  s1 : Shared
  s2 : Shared
  E : Value → Shared → Prop
def LwQ (C : CxQ) {α : Type} (m : StateT SortSt Sem α) (K : α → SortSt → Pos → Shared → Prop) (st : SortSt) (p : Pos) : Prop := Sem.wp C.M C.Γ (m.run st) (fun r p' s' => K r.1 r.2 p' s') (fun _ _ _ => False) p C.s1
def RwQ (C : CxQ) {α : Type} (m : StateT SortSt Sem α) (K : α → SortSt → Pos → Shared → Prop) (st : SortSt) (p : Pos) : Prop := Sem.wp C.M C.Γ (m.run st) (fun r p' s' => K r.1 r.2 p' s') (fun e _ s' => C.E e s') p C.s2
def SimQ (C : CxQ) (X : Prq) {α : Type} (R : α → α → Prop) (m1 m2 : StateT SortSt Sem α) : Prop := ∀ st1 st2 p1 p2 K1 K2, RSq X st1 st2 → LwQ C m1 K1 st1 p1 → (∀ a b st1' st2' p1' p2', R a b → RSq X st1' st2' → K1 a st1' p1' C.s1 → K2 b st2' p2' C.s2) → RwQ C m2 K2 st2 p2
section
variable {C : CxQ} {X : Prq} {α β : Type}
theorem SimQ.pure {R : α → α → Prop} {a b : α} (h : R a b) : SimQ C X R (Pure.pure a) (Pure.pure b) := by
  intro st1 st2 p1 p2 K1 K2 r l k
  unfold LwQ at l
  unfold RwQ
  rw [StateT.run_pure, Sem.wp_pure'] at l ⊢
  exact k _ _ _ _ _ _ h r l
theorem SimQ.bind {R : α → α → Prop} {R' : β → β → Prop} {m1 m2 : StateT SortSt Sem α} {f1 f2 : α → StateT SortSt Sem β} (h : SimQ C X R m1 m2) (hf : ∀ a b, R a b → SimQ C X R' (f1 a) (f2 b)) : SimQ C X R' (m1 >>= f1) (m2 >>= f2) := by
  intro st1 st2 p1 p2 K1 K2 r l k
  unfold LwQ at l
  unfold RwQ
  rw [StateT.run_bind, Sem.wp_bind'] at l ⊢
  exact h st1 st2 p1 p2 (fun a st p s => Sem.wp C.M C.Γ ((f1 a).run st) (fun r p' s' => K1 r.1 r.2 p' s') (fun _ _ _ => False) p s) (fun b st p s => Sem.wp C.M C.Γ ((f2 b).run st) (fun r p' s' => K2 r.1 r.2 p' s') (fun e _ s' => C.E e s') p s) r l fun a b st1' st2' p1' p2' hab r' l' => hf a b hab st1' st2' p1' p2' K1 K2 r' l' k
theorem SimQ.get : SimQ C X (RSq X) (get : StateT SortSt Sem SortSt) get := by
  intro st1 st2 p1 p2 K1 K2 r l k
  unfold LwQ at l
  unfold RwQ
  rw [StateT.run_get, Sem.wp_pure'] at l ⊢
  exact k _ _ _ _ _ _ r r l
theorem SimQ.modify {f1 f2 : SortSt → SortSt} (h : ∀ a b, RSq X a b → RSq X (f1 a) (f2 b)) : SimQ C X (fun _ _ => True) (modify f1 : StateT SortSt Sem PUnit) (modify f2) := by
  intro st1 st2 p1 p2 K1 K2 r l k
  unfold LwQ at l
  unfold RwQ
  rw [StateT.run_modify, Sem.wp_pure'] at l ⊢
  exact k _ _ _ _ _ _ trivial (h _ _ r) l
theorem SimQ.set {a b : SortSt} (h : RSq X a b) : SimQ C X (fun _ _ => True) (set a : StateT SortSt Sem PUnit) (set b) := by
  intro st1 st2 p1 p2 K1 K2 r l k
  unfold LwQ at l
  unfold RwQ
  rw [StateT.run_set, Sem.wp_pure'] at l ⊢
  exact k _ _ _ _ _ _ trivial h l
theorem SimQ.rule {n1 n2 : String} : SimQ C X (fun _ _ => True) (liftM (PySem.rule n1) : StateT SortSt Sem Unit) (liftM (PySem.rule n2)) := by
  intro st1 st2 p1 p2 K1 K2 r l k
  have l : Sem.wp C.M C.Γ ((StateT.lift (PySem.rule n1) : StateT SortSt Sem Unit).run st1) _ _ p1 C.s1 := l
  show Sem.wp C.M C.Γ ((StateT.lift (PySem.rule n2) : StateT SortSt Sem Unit).run st2) _ _ p2 C.s2
  rw [StateT.run_lift, Sem.wp_bind'] at l ⊢
  unfold PySem.rule at l ⊢
  simp only [Sem.wp, Sem.wp_pure'] at l ⊢
  exact k _ _ _ _ _ _ trivial r l
theorem SimQ.uns {n1 : String} {R : α → α → Prop} {m2 : StateT SortSt Sem α} : SimQ C X R (liftM (unsupported n1 : Sem α) : StateT SortSt Sem α) m2 := by
  intro st1 st2 p1 p2 K1 K2 r l k
  have l : Sem.wp C.M C.Γ ((StateT.lift (unsupported n1) : StateT SortSt Sem α).run st1) _ _ p1 C.s1 := l
  rw [StateT.run_lift, Sem.wp_bind'] at l
  exact absurd l (by simp [unsupported, Sem.wp])
theorem SimQ.ite {R : α → α → Prop} {c : Prop} [Decidable c] {a1 a2 b1 b2 : StateT SortSt Sem α} (h1 : c → SimQ C X R a1 a2) (h2 : ¬ c → SimQ C X R b1 b2) : SimQ C X R (if c then a1 else b1) (if c then a2 else b2) := by
  by_cases h : c
  · rw [if_pos h, if_pos h]; exact h1 h
  · rw [if_neg h, if_neg h]; exact h2 h
inductive RStq (R : β → β → Prop) : ForInStep β → ForInStep β → Prop
  | done {a b : β} : R a b → RStq R (.done a) (.done b)
  | yield {a b : β} : R a b → RStq R (.yield a) (.yield b)
theorem SimQ.list {R : β → β → Prop} {f1 f2 : Nat → β → StateT SortSt Sem (ForInStep β)} (h : ∀ i a b, R a b → SimQ C X (RStq R) (f1 i a) (f2 i b)) : ∀ (l : List Nat) (a b : β), R a b → SimQ C X R (forIn l a f1) (forIn l b f2)
  | [], a, b, hab => by rw [List.forIn_nil, List.forIn_nil]; exact SimQ.pure hab
  | i :: l, a, b, hab => by
    rw [List.forIn_cons, List.forIn_cons]
    refine SimQ.bind (h i a b hab) fun x y hxy => ?_
    cases hxy with
    | done z => exact SimQ.pure z
    | yield z => exact SimQ.list h l _ _ z
theorem SimQ.range {R : β → β → Prop} {f1 f2 : Nat → β → StateT SortSt Sem (ForInStep β)} {lo hi : Nat} {a b : β} (hab : R a b) (h : ∀ i a b, R a b → SimQ C X (RStq R) (f1 i a) (f2 i b)) : SimQ C X R (forIn [lo:hi] a f1) (forIn [lo:hi] b f2) := by
  rw [Std.Legacy.Range.forIn_eq_forIn_range', Std.Legacy.Range.forIn_eq_forIn_range']
  exact SimQ.list h _ _ _ hab
theorem SimQ.elem {a b : Array Keyed} (h : RAq X a b) (i : Nat) : SimQ C X (RKq X) (elem' a i) (elem' b i) := by
  rw [elem'_eq, elem'_eq]
  rcases h.get i with ⟨e1, e2⟩ | ⟨x, y, e1, e2, r⟩
  · rw [e1, e2]; exact SimQ.uns
  · rw [e1, e2]; exact SimQ.pure r
structure AsksQ (C : CxQ) (X : Prq) (c : Nat → Nat → Bool) : Prop where
  left : ∀ i j, i < X.n → j < X.n → ∀ (Q : Bool → Pos → Shared → Prop) (E : Value → Pos → Shared → Prop) p, Sem.wp C.M C.Γ (keyLt' X.d1 (X.k1 i).1 (X.k1 j).1) Q E p C.s1 → Q (c i j) p C.s1
  right : ∀ i j, i < X.n → j < X.n → ∀ p, Sem.wp C.M C.Γ (keyLt' X.d2 (X.k2 i).1 (X.k2 j).1) (fun b _ s => b = c i j ∧ s = C.s2) (fun _ _ _ => False) p C.s2
variable {c : Nat → Nat → Bool}
theorem SimQ.lt (A : AsksQ C X c) {x y x' y' : Keyed} (h : RKq X x y) (h' : RKq X x' y') : SimQ C X (fun a b => a = b ∧ a.isSome = true) (lt' x x') (lt' y y') := by
  obtain ⟨i, hi, rfl, rfl⟩ := h
  obtain ⟨j, hj, rfl, rfl⟩ := h'
  rw [lt'_eq, lt'_eq]
  refine SimQ.bind SimQ.get fun a b hab => ?_
  rw [hab.k1, hab.k2]
  intro st1 st2 p1 p2 K1 K2 r l k
  have l : Sem.wp C.M C.Γ ((StateT.lift (keyLt' X.d1 (X.k1 i).1 (X.k1 j).1).attempt >>= fun r => (match r with
    | .ok b => Pure.pure (some b)
    | .error e => (do _root_.modify (fun s => SortSt.mk' (kindOf s) (arrOf s) (pendingOf s) (gallopOf s) (some e)); Pure.pure none) : StateT SortSt Sem (Option Bool)) : StateT SortSt Sem (Option Bool)).run st1) _ _ p1 C.s1 := l
  show Sem.wp C.M C.Γ ((StateT.lift (keyLt' X.d2 (X.k2 i).1 (X.k2 j).1).attempt >>= fun r => (match r with
    | .ok b => Pure.pure (some b)
    | .error e => (do _root_.modify (fun s => SortSt.mk' (kindOf s) (arrOf s) (pendingOf s) (gallopOf s) (some e)); Pure.pure none) : StateT SortSt Sem (Option Bool)) : StateT SortSt Sem (Option Bool)).run st2) _ _ p2 C.s2
  rw [StateT.run_bind, StateT.run_lift, Sem.wp_bind', Sem.wp_bind'] at l ⊢
  rw [Sem.wp_attempt] at l ⊢
  have l := A.left i j hi hj _ _ _ l
  refine Sem.wp_mono _ _ _ (fun b p s hb => ?_) (fun _ _ _ h => h.elim) _ _ (A.right i j hi hj p2)
  obtain ⟨rfl, rfl⟩ := hb
  simp only [Sem.wp_pure', StateT.run_pure] at l ⊢
  exact k _ _ _ _ _ _ ⟨rfl, rfl⟩ r l
theorem SimQ.ltAt (A : AsksQ C X c) (i j : Nat) : SimQ C X (fun a b => a = b ∧ a.isSome = true) (ltAt' i j) (ltAt' i j) := by
  rw [ltAt'_eq]
  refine SimQ.bind SimQ.get fun a b hab => ?_
  exact SimQ.bind (SimQ.elem hab.arr _) fun x y h => SimQ.bind (SimQ.elem hab.arr _) fun x' y' h' => SimQ.lt A h h'
end
end L2
set_option Elab.async false
set_option linter.all false
set_option maxRecDepth 100000
namespace L2
open PySem PySem.W PySem.Calls PyProof.Rows
section
variable {C : CxQ} {X : Prq} {α β γ : Type} {c : Nat → Nat → Bool}
theorem SimQ.revS (i j : Nat) : SimQ C X (fun _ _ => True) (reverseSlice' i j) (reverseSlice' i j) := by
  rw [reverseSlice'_eq]
  exact SimQ.modify fun a b h => ⟨h.arr.mir _ _ _, h.k1, h.k2, h.pend, h.gal, h.f1, h.f2⟩
theorem SimQ.movD (i j : Nat) : SimQ C X (fun _ _ => True) (moveDown' i j) (moveDown' i j) := by
  rw [moveDown'_eq]
  exact SimQ.modify fun a b h => ⟨h.arr.bub _ _, h.k1, h.k2, h.pend, h.gal, h.f1, h.f2⟩
theorem SimQ.setG (g : Nat) : SimQ C X (fun _ _ => True) (setMinGallop' g) (setMinGallop' g) := by
  rw [setMinGallop'_eq]
  exact SimQ.modify fun a b h => ⟨h.arr, h.k1, h.k2, h.pend, rfl, h.f1, h.f2⟩
variable {R : β → β → Prop}
theorem SimQ.bLtAt (A : AsksQ C X c) {i j : Nat} {f1 f2 : Option Bool → StateT SortSt Sem β} (h : ∀ b, SimQ C X R (f1 (some b)) (f2 (some b))) : SimQ C X R (ltAt' i j >>= f1) (ltAt' i j >>= f2) :=
  SimQ.bind (SimQ.ltAt A i j) fun a b ⟨e, s⟩ => by
    subst e
    cases a with
    | none => cases s
    | some b => exact h b
theorem SimQ.bLt (A : AsksQ C X c) {x y x' y' : Keyed} (k : RKq X x y) (k' : RKq X x' y') {f1 f2 : Option Bool → StateT SortSt Sem β} (h : ∀ b, SimQ C X R (f1 (some b)) (f2 (some b))) : SimQ C X R (lt' x x' >>= f1) (lt' y y' >>= f2) :=
  SimQ.bind (SimQ.lt A k k') fun a b ⟨e, s⟩ => by
    subst e
    cases a with
    | none => cases s
    | some b => exact h b
theorem SimQ.bRange {lo hi : Nat} {a : Option α × γ} {g1 g2 : Nat → Option α × γ → StateT SortSt Sem (ForInStep (Option α × γ))} {f1 f2 : Option α × γ → StateT SortSt Sem β} (hg : ∀ i o c, SimQ C X (RStq Eq) (g1 i (o, c)) (g2 i (o, c))) (hs : ∀ r c, SimQ C X R (f1 (some r, c)) (f2 (some r, c))) (hn : ∀ c, SimQ C X R (f1 (none, c)) (f2 (none, c))) :
    SimQ C X R (forIn [lo:hi] a g1 >>= f1) (forIn [lo:hi] a g2 >>= f2) :=
  SimQ.bind (SimQ.range (R := Eq) rfl fun i a b h => by subst h; exact hg i a.1 a.2) fun a b h => by
    subst h
    obtain ⟨o, d⟩ := a
    cases o with
    | none => exact hn d
    | some r => exact hs r d
theorem SimQ.bEq {m1 m2 : StateT SortSt Sem α} (k : SimQ C X Eq m1 m2) {f1 f2 : α → StateT SortSt Sem β} (h : ∀ a, SimQ C X R (f1 a) (f2 a)) : SimQ C X R (m1 >>= f1) (m2 >>= f2) := SimQ.bind k fun a b e => by subst e; exact h a
theorem SimQ.bUnit {m1 m2 : StateT SortSt Sem α} (k : SimQ C X (fun _ _ => True) m1 m2) {f1 f2 : α → StateT SortSt Sem β} (h : ∀ a b, SimQ C X R (f1 a) (f2 b)) : SimQ C X R (m1 >>= f1) (m2 >>= f2) := SimQ.bind k fun a b _ => h a b
local macro_rules | `(tactic| walk_at "sim1") => `(tactic| first
  | with_reducible exact SimQ.pure rfl
  | with_reducible exact SimQ.pure (RStq.done rfl)
  | with_reducible exact SimQ.pure (RStq.yield rfl)
  | with_reducible refine SimQ.ite (fun _ => ?_) (fun _ => ?_)
  | with_reducible refine SimQ.bLtAt ‹_› (fun _ => ?_)
  | with_reducible refine SimQ.bUnit SimQ.rule (fun _ _ => ?_)
  | with_reducible refine SimQ.bUnit (SimQ.revS _ _) (fun _ _ => ?_)
  | with_reducible refine SimQ.bUnit (SimQ.movD _ _) (fun _ _ => ?_)
  | with_reducible refine SimQ.bRange (fun _ _ _ => ?_) (fun _ _ => ?_) (fun _ => ?_)
  | dsimp only)
local macro_rules | `(tactic| walk_at "sim") => `(tactic| repeat' walk_at "sim1")
theorem SimQ.bin (A : AsksQ C X c) (lo n ok : Nat) : SimQ C X Eq (binarySort' lo n ok) (binarySort' lo n ok) := by
  rw [binarySort'_eq]
  walk_at "sim"
set_option maxHeartbeats 1000000 in
theorem SimQ.cnt (A : AsksQ C X c) (lo n : Nat) : SimQ C X Eq (countRun' lo n) (countRun' lo n) := by
  rw [countRun'_eq]
  walk_at "sim"
theorem SimQ.bey (A : AsksQ C X c) (left : Bool) {key1 key2 : Keyed} {a1 a2 : Array Keyed} (k : RKq X key1 key2) (r : RAq X a1 a2) (j : Nat) :
    SimQ C X (fun a b => a = b ∧ a.isSome = true) (do let x ← elem' a1 j; if left = true then lt' x key1 else (do let r ← lt' key1 x; Pure.pure (r.map (!·)))) (do let x ← elem' a2 j; if left = true then lt' x key2 else (do let r ← lt' key2 x; Pure.pure (r.map (!·)))) := by
  refine SimQ.bind (SimQ.elem r j) fun x y h => ?_
  refine SimQ.ite (fun _ => SimQ.lt A h k) (fun _ => ?_)
  refine SimQ.bLt A k h fun b => SimQ.pure ⟨rfl, rfl⟩
theorem SimQ.bBey (A : AsksQ C X c) {left : Bool} {key1 key2 : Keyed} {a1 a2 : Array Keyed} (k : RKq X key1 key2) (r : RAq X a1 a2) {base j : Nat} {f1 f2 : Option Bool → StateT SortSt Sem β} (h : ∀ b, SimQ C X R (f1 (some b)) (f2 (some b))) : SimQ C X R (beyond' left key1 a1 base j >>= f1) (beyond' left key2 a2 base j >>= f2) :=
  SimQ.bind (SimQ.bey A left k r (base + j)) fun a b ⟨e, s⟩ => by
    subst e
    cases a with
    | none => cases s
    | some b => exact h b
set_option maxHeartbeats 1000000 in
theorem SimQ.gal (A : AsksQ C X c) {left : Bool} {key1 key2 : Keyed} {a1 a2 : Array Keyed} (k : RKq X key1 key2) (r : RAq X a1 a2) {base n hint : Nat} : SimQ C X Eq (gallop' left key1 a1 base n hint) (gallop' left key2 a2 base n hint) := by
  rw [gallop'_eq, gallop'_eq]
  repeat' first
    | walk_at "sim1"
    | with_reducible refine SimQ.bBey A k r (fun _ => ?_)
end
end L2
set_option Elab.async false
set_option linter.all false
set_option maxRecDepth 100000
namespace L2
open PySem PySem.W PySem.Calls PyProof.Rows
section
variable {C : CxQ} {X : Prq} {α β δ : Type} {c : Nat → Nat → Bool}
inductive RLq (X : Prq) : Option (Array Keyed) × (Array Keyed × δ) → Option (Array Keyed) × (Array Keyed × δ) → Prop
  | none {u v : Array Keyed} {d : δ} : RAq X u v → RLq X (.none, u, d) (.none, v, d)
  | some {r q u v : Array Keyed} {d : δ} : RAq X r q → RAq X u v → RLq X (.some r, u, d) (.some q, v, d)
variable {R : β → β → Prop}
theorem SimQ.bRangeA {lo hi : Nat} {u v : Array Keyed} {d : δ} {g1 g2 : Nat → Option (Array Keyed) × (Array Keyed × δ) → StateT SortSt Sem (ForInStep (Option (Array Keyed) × (Array Keyed × δ)))} {f1 f2 : Option (Array Keyed) × (Array Keyed × δ) → StateT SortSt Sem β} (h0 : RAq X u v)
    (hg : ∀ i o o' u v d, RAq X u v → SimQ C X (RStq (RLq X)) (g1 i (o, u, d)) (g2 i (o', v, d))) (hs : ∀ r q u v d, RAq X r q → RAq X u v → SimQ C X R (f1 (some r, u, d)) (f2 (some q, v, d))) (hn : ∀ u v d, RAq X u v → SimQ C X R (f1 (none, u, d)) (f2 (none, v, d))) :
    SimQ C X R (forIn [lo:hi] (none, u, d) g1 >>= f1) (forIn [lo:hi] (none, v, d) g2 >>= f2) :=
  SimQ.bind (SimQ.range (R := RLq X) (.none h0) fun i a b h => by
    cases h with
    | none h => exact hg i _ _ _ _ _ h
    | some _ h => exact hg i _ _ _ _ _ h) fun a b h => by
    cases h with
    | none h => exact hn _ _ _ h
    | some h h' => exact hs _ _ _ _ _ h h'
inductive RHq (X : Prq) : Option (Array Keyed) × (Nat × (Nat × (Array Keyed × δ))) → Option (Array Keyed) × (Nat × (Nat × (Array Keyed × δ))) → Prop
  | none {u v : Array Keyed} {n m : Nat} {d : δ} : RAq X u v → RHq X (.none, n, m, u, d) (.none, n, m, v, d)
  | some {r q u v : Array Keyed} {n m : Nat} {d : δ} : RAq X r q → RAq X u v → RHq X (.some r, n, m, u, d) (.some q, n, m, v, d)
theorem SimQ.bRangeH {lo hi : Nat} {u v : Array Keyed} {n m : Nat} {d : δ} {g1 g2 : Nat → Option (Array Keyed) × (Nat × (Nat × (Array Keyed × δ))) → StateT SortSt Sem (ForInStep (Option (Array Keyed) × (Nat × (Nat × (Array Keyed × δ)))))} {f1 f2 : Option (Array Keyed) × (Nat × (Nat × (Array Keyed × δ))) → StateT SortSt Sem β} (h0 : RAq X u v)
    (hg : ∀ i o o' n m u v d, RAq X u v → SimQ C X (RStq (RHq X)) (g1 i (o, n, m, u, d)) (g2 i (o', n, m, v, d))) (hs : ∀ r q n m u v d, RAq X r q → RAq X u v → SimQ C X R (f1 (some r, n, m, u, d)) (f2 (some q, n, m, v, d))) (hn : ∀ n m u v d, RAq X u v → SimQ C X R (f1 (none, n, m, u, d)) (f2 (none, n, m, v, d))) :
    SimQ C X R (forIn [lo:hi] (none, n, m, u, d) g1 >>= f1) (forIn [lo:hi] (none, n, m, v, d) g2 >>= f2) :=
  SimQ.bind (SimQ.range (R := RHq X) (.none h0) fun i a b h => by
    cases h with
    | none h => exact hg i _ _ _ _ _ _ _ h
    | some _ h => exact hg i _ _ _ _ _ _ _ h) fun a b h => by
    cases h with
    | none h => exact hn _ _ _ _ _ h
    | some h h' => exact hs _ _ _ _ _ _ _ h h'
theorem SimQ.bElem {a b : Array Keyed} (h : RAq X a b) {i : Nat} {f1 f2 : Keyed → StateT SortSt Sem β} (k : ∀ x y, RKq X x y → SimQ C X R (f1 x) (f2 y)) : SimQ C X R (elem' a i >>= f1) (elem' b i >>= f2) := SimQ.bind (SimQ.elem h i) k
theorem SimQ.bGal (A : AsksQ C X c) {left : Bool} {key1 key2 : Keyed} {a1 a2 : Array Keyed} (k : RKq X key1 key2) (r : RAq X a1 a2) {base n hint : Nat} {f1 f2 : Option Nat → StateT SortSt Sem β} (hs : ∀ a, SimQ C X R (f1 (some a)) (f2 (some a))) (hn : SimQ C X R (f1 none) (f2 none)) : SimQ C X R (gallop' left key1 a1 base n hint >>= f1) (gallop' left key2 a2 base n hint >>= f2) :=
  SimQ.bEq (SimQ.gal A k r) fun a => by
    cases a with
    | none => exact hn
    | some a => exact hs a
local macro_rules | `(tactic| walk_at "ra") => `(tactic| repeat' (first | assumption | with_reducible exact RAq.nil | with_reducible apply RAq.app | with_reducible apply RAq.push | with_reducible apply RAq.ext | with_reducible apply RAq.rev | with_reducible apply RAq.one))
local macro_rules | `(tactic| walk_at "sim1") => `(tactic| first
  | (with_reducible refine SimQ.pure (RStq.done (RLq.none ?_)); walk_at "ra"; done)
  | (with_reducible refine SimQ.pure (RStq.yield (RLq.none ?_)); walk_at "ra"; done)
  | (with_reducible refine SimQ.pure (RStq.done (RLq.some ?_ ?_)) <;> (walk_at "ra"; done))
  | (with_reducible refine SimQ.pure (RStq.done (RHq.none ?_)); walk_at "ra"; done)
  | (with_reducible refine SimQ.pure (RStq.yield (RHq.none ?_)); walk_at "ra"; done)
  | (with_reducible refine SimQ.pure (RStq.done (RHq.some ?_ ?_)) <;> (walk_at "ra"; done))
  | (with_reducible refine SimQ.pure (?_ : RAq _ _ _); walk_at "ra"; done)
  | with_reducible refine SimQ.ite (fun _ => ?_) (fun _ => ?_)
  | with_reducible refine SimQ.bUnit SimQ.rule (fun _ _ => ?_)
  | with_reducible refine SimQ.bUnit (SimQ.setG _) (fun _ _ => ?_)
  | with_reducible refine SimQ.bElem (by assumption) (fun _ _ _ => ?_)
  | with_reducible refine SimQ.bLt ‹_› (by assumption) (by assumption) (fun _ => ?_)
  | with_reducible refine SimQ.bGal ‹_› (by assumption) (by assumption) (fun _ => ?_) ?_
  | with_reducible refine SimQ.bRangeA (by walk_at "ra") (fun _ _ _ _ _ _ _ => ?_) (fun _ _ _ _ _ _ _ => ?_) (fun _ _ _ _ => ?_)
  | with_reducible refine SimQ.bRangeH (by walk_at "ra") (fun _ _ _ _ _ _ _ _ _ => ?_) (fun _ _ _ _ _ _ _ _ _ => ?_) (fun _ _ _ _ _ _ => ?_)
  | (with_reducible refine SimQ.bind SimQ.get (fun s1 s2 hs => ?_); rw [hs.gal])
  | with_reducible exact SimQ.uns
  | dsimp only)
set_option maxHeartbeats 2000000 in
theorem SimQ.mlo (A : AsksQ C X c) {a1 a2 b1 b2 : Array Keyed} (ra : RAq X a1 a2) (rb : RAq X b1 b2) : SimQ C X (RAq X) (mergeLo' a1 b1) (mergeLo' a2 b2) := by
  rw [mergeLo'_eq, mergeLo'_eq, ra.size, rb.size]
  repeat' walk_at "sim1"
set_option maxHeartbeats 2000000 in
theorem SimQ.mhi (A : AsksQ C X c) {a1 a2 b1 b2 : Array Keyed} (ra : RAq X a1 a2) (rb : RAq X b1 b2) : SimQ C X (RAq X) (mergeHi' a1 b1) (mergeHi' a2 b2) := by
  rw [mergeHi'_eq, mergeHi'_eq, ra.size, rb.size]
  repeat' walk_at "sim1"
set_option maxHeartbeats 2000000 in
theorem SimQ.mat (A : AsksQ C X c) (i : Nat) : SimQ C X Eq (mergeAt' i) (mergeAt' i) := by
  rw [mergeAt'_eq]
  refine SimQ.bind SimQ.get fun s1 s2 hs => ?_
  have ha := hs.arr
  rw [hs.pend]
  rcases (pendingOf s2)[i]? with _ | ⟨sa, na, pw⟩
  · exact SimQ.uns
  rcases (pendingOf s2)[i + 1]? with _ | ⟨sb, nb, pw2⟩
  · exact SimQ.uns
  dsimp only
  refine SimQ.bUnit (SimQ.set ?_) (fun _ _ => ?_)
  · exact ⟨ha, hs.k1, hs.k2, rfl, hs.gal, hs.f1, hs.f2⟩
  refine SimQ.bElem ha fun x y h => ?_
  refine SimQ.bGal A h ha (fun k => ?_) (SimQ.pure rfl)
  dsimp only
  refine SimQ.ite (fun _ => SimQ.pure rfl) (fun _ => ?_)
  refine SimQ.bElem ha fun x' y' h' => ?_
  refine SimQ.bGal A h' ha (fun k' => ?_) (SimQ.pure rfl)
  dsimp only
  refine SimQ.ite (fun _ => SimQ.pure rfl) (fun _ => ?_)
  have fin : ∀ m1 m2, RAq X m1 m2 → SimQ C X Eq (do
      _root_.modify (fun s => setArr s (List.foldl (fun a (p : Keyed × Nat) => a.setIfInBounds (sa + k + p.2) p.1) (arrOf s) m1.toList.zipIdx))
      let s ← (MonadState.get : StateT SortSt Sem SortSt)
      Pure.pure (failedOf s).isNone) (do
      _root_.modify (fun s => setArr s (List.foldl (fun a (p : Keyed × Nat) => a.setIfInBounds (sa + k + p.2) p.1) (arrOf s) m2.toList.zipIdx))
      let s ← (MonadState.get : StateT SortSt Sem SortSt)
      Pure.pure (failedOf s).isNone) := fun m1 m2 hm => by
    refine SimQ.bUnit (SimQ.modify ?_) (fun _ _ => ?_)
    · intro a b hab
      exact ⟨hm.fold _ hab.arr, hab.k1, hab.k2, hab.pend, hab.gal, hab.f1, hab.f2⟩
    refine SimQ.bind SimQ.get fun s1 s2 hs => ?_
    rw [hs.f1, hs.f2]
    exact SimQ.pure rfl
  refine SimQ.ite (fun _ => ?_) (fun _ => ?_)
  · exact SimQ.bind (SimQ.mlo A (ha.ext _ _) (ha.ext _ _)) fin
  · exact SimQ.bind (SimQ.mhi A (ha.ext _ _) (ha.ext _ _)) fin
theorem SimQ.bMod {f1 f2 : SortSt → SortSt} {g1 g2 : PUnit → StateT SortSt Sem β} (h : ∀ a b, RSq X a b → RSq X (f1 a) (f2 b)) (k : ∀ u v, SimQ C X R (g1 u) (g2 v)) : SimQ C X R (_root_.modify f1 >>= g1) (_root_.modify f2 >>= g2) := SimQ.bUnit (SimQ.modify h) k
theorem RSq.setP {a b : SortSt} (h : RSq X a b) {p q : Array (Nat × Nat × Nat)} (e : p = q) : RSq X (setPending a p) (setPending b q) := ⟨h.arr, h.k1, h.k2, e, h.gal, h.f1, h.f2⟩
theorem SimQ.bGetP {f1 f2 : SortSt → StateT SortSt Sem β} (h : ∀ s1 s2, RSq X s1 s2 → SimQ C X R (f1 s1) (f2 s2)) : SimQ C X R (MonadState.get >>= f1) (MonadState.get >>= f2) := SimQ.bind SimQ.get h
local macro_rules | `(tactic| walk_at "simM") => `(tactic| (
    refine SimQ.bGetP (fun s1 s2 hs => ?_)
    rw [hs.pend]
    generalize (pendingOf s2).back? = o
    rcases o with _ | ⟨x1, x2, x3⟩
    · try dsimp only
      exact SimQ.bMod (fun a b hab => RSq.setP hab (by rw [hab.pend])) fun _ _ => SimQ.pure (RStq.yield rfl)
    · try dsimp only
      refine SimQ.bRange (fun _ _ _ => ?_) (fun _ _ => SimQ.pure (RStq.done rfl)) (fun _ => ?_)
      · refine SimQ.bGetP (fun s3 s4 hs2 => ?_)
        rw [hs2.pend]
        try dsimp only
        generalize (if (pendingOf s4).size > 1 then (pendingOf s4)[(pendingOf s4).size - 2]? else none) = o2
        rcases o2 with _ | ⟨y1, y2, y3⟩
        · exact SimQ.pure (RStq.done rfl)
        · try dsimp only
          refine SimQ.ite (fun _ => SimQ.pure (RStq.done rfl)) (fun _ => ?_)
          refine SimQ.bEq (SimQ.mat ‹_› _) fun b => ?_
          exact SimQ.ite (fun _ => SimQ.pure (RStq.done rfl)) (fun _ => SimQ.pure (RStq.yield rfl))
      · refine SimQ.bMod (fun a b hab => RSq.setP hab (by rw [hab.pend])) fun _ _ => ?_
        exact SimQ.bMod (fun a b hab => RSq.setP hab (by rw [hab.pend])) fun _ _ => SimQ.pure (RStq.yield rfl)))
set_option maxHeartbeats 4000000 in
theorem SimQ.srt (A : AsksQ C X c) : SimQ C X (fun _ _ => True) sortRuns' sortRuns' := by
  rw [sortRuns'_eq]
  refine SimQ.bGetP fun s1 s2 hs => ?_
  rw [hs.arr.size]
  dsimp only
  generalize (arrOf s2).size = size
  refine SimQ.bRange (fun i o lo => ?_) (fun r lo => SimQ.pure trivial) (fun lo => ?_)
  · dsimp only
    refine SimQ.ite (fun _ => SimQ.pure (RStq.done rfl)) (fun _ => ?_)
    refine SimQ.bEq (SimQ.cnt A _ _) fun found => ?_
    cases found with
    | none => exact SimQ.pure (RStq.done rfl)
    | some found =>
      dsimp only
      refine SimQ.ite (fun _ => ?_) (fun _ => ?_)
      · refine SimQ.bUnit SimQ.rule fun _ _ => ?_
        refine SimQ.bEq (SimQ.bin A _ _ _) fun b => ?_
        refine SimQ.ite (fun _ => SimQ.pure (RStq.done rfl)) (fun _ => ?_)
        walk_at "simM"
      · walk_at "simM"
  · try dsimp only
    refine SimQ.bRange (fun _ _ _ => ?_) (fun _ _ => SimQ.pure trivial) (fun _ => SimQ.pure trivial)
    refine SimQ.bGetP fun s3 s4 hs2 => ?_
    rw [hs2.pend]
    try dsimp only
    refine SimQ.ite (fun _ => SimQ.pure (RStq.done rfl)) (fun _ => ?_)
    refine SimQ.bEq (SimQ.mat A _) fun b => ?_
    exact SimQ.ite (fun _ => SimQ.pure (RStq.done rfl)) (fun _ => SimQ.pure (RStq.yield rfl))
end
end L2
set_option Elab.async false
set_option linter.all false
set_option maxRecDepth 100000
namespace L2
open PySem PySem.W PySem.Calls PyProof.Rows
theorem cntP_lt {p q : Nat → Bool} : ∀ {l : List Nat}, (∀ k ∈ l, p k = true → q k = true) → (∃ k ∈ l, q k = true ∧ p k = false) → l.countP p < l.countP q
  | [], _, ⟨k, h, _⟩ => by cases h
  | x :: l, h, ⟨k, hk, a, b⟩ => by
    have m := List.countP_mono_left (l := l) fun k hk z => h k (List.mem_cons_of_mem _ hk) z
    rw [List.countP_cons, List.countP_cons]
    rcases List.mem_cons.mp hk with rfl | hk
    · rw [a, b]; simp; omega
    · have ih := cntP_lt (l := l) (fun k hk z => h k (List.mem_cons_of_mem _ hk) z) ⟨k, hk, a, b⟩
      have hx := h x List.mem_cons_self
      cases c : p x with
      | false => simp; split <;> omega
      | true => rw [hx c]; simp; omega
def rankN (lt : Nat → Nat → Bool) (n i : Nat) : Nat := (List.range n).countP fun k => lt k i
theorem rank_lt {lt : Nat → Nat → Bool} (o : Ord lt) {n i j : Nat} (hi : i < n) : lt i j = decide (rankN lt n i < rankN lt n j) := by
  cases c : lt i j with
  | true =>
    refine (decide_eq_true ?_).symm
    refine cntP_lt (fun k _ h => ?_) ⟨i, List.mem_range.mpr hi, c, o.irr i⟩
    cases d : lt k j with
    | true => rfl
    | false =>
      -- k above j, i above k
      have := o.tr _ _ _ d (o.asym _ _ h)
      rw [c] at this
      cases this
  | false =>
    refine (decide_eq_false ?_).symm
    refine Nat.not_lt.mpr (List.countP_mono_left fun k _ h => ?_)
    cases d : lt k i with
    | true => rfl
    | false =>
      have := o.tr _ _ _ c d
      rw [h] at this
      cases this
theorem keyC_of {h : Heap} {shape : Nat → Bool} {a : Addr} {o : Obj} {xs : Array Value} {n : Nat} {l : List (Int ⊕ List Nat)} (ho : h.get? a = some o) (hc : o.cls = .type "tuple") (hd : o.data = .seq xs n) (hi : tupItems shape 0 xs.toList = some l) : G.tupKeyC h shape (.ref a) = some l := by
  have e : G.isTupObj h (.ref a) = true := by simp [G.isTupObj, ho, hc]
  unfold G.tupKeyC
  rw [if_pos e]
  simp only [tupKey, ho, hd]
  exact hi
def zer (t : Tok) (r : Nat) : Obj := seqObj "tuple" (Array.replicate r (Value.int 0 t)) 0
theorem rows_heap (t : Tok) (r : Nat → Nat) (h : Heap) : ∀ n, ∃ h' : Heap, h'.objs.size = h.objs.size + n ∧ ∀ i, i < n → h'.get? (h.objs.size + i) = some (zer t (r i))
  | 0 => ⟨h, rfl, fun i hi => absurd hi (Nat.not_lt_zero _)⟩
  | n + 1 => by
    obtain ⟨h', hs, hh⟩ := rows_heap t r h n
    refine ⟨h'.push (zer t (r n)), by rw [size_push', hs]; rfl, fun i hi => ?_⟩
    by_cases c : i < n
    · exact Heap.get?_push_of_some _ (hh i c)
    · have : i = n := by omega
      subst this
      rw [← hs]
      exact Heap.get?_push_size _ rfl
theorem items_zer (t : Tok) : ∀ (r i : Nat), tupItems (fun _ => false) i (List.replicate r (Value.int 0 t)) = some ((List.replicate r (0 : Int)).map Sum.inl)
  | 0, _ => rfl
  | r + 1, i => by
    rw [List.replicate_succ, List.replicate_succ]
    unfold tupItems
    rw [if_neg Bool.false_ne_true, items_zer t r (i + 1)]
    rfl
theorem lex_zer : ∀ m k : Nat, HT.lexLt (List.replicate m (0 : Int)) (List.replicate k 0) = decide (m < k)
  | 0, 0 => rfl
  | 0, _ + 1 => rfl
  | _ + 1, 0 => rfl
  | m + 1, k + 1 => by
    rw [List.replicate_succ, List.replicate_succ]
    show (if (0 : Int) = 0 then HT.lexLt (List.replicate m (0 : Int)) (List.replicate k 0) else _) = _
    rw [if_pos rfl, lex_zer m k]
    simp
section
variable {prog : Program} {w : World} {A : Around} {E : Value → Shared → Prop} {s : Shared}
theorem run_any {κ : SortKind} {vs : List Value} {lt : Nat → Nat → Bool} (o : Ord lt) (h2 : 2 ≤ vs.length)
    (ask : ∀ i j, i < vs.length → j < vs.length → wpAny (model prog w) A (keyLt' κ (vs.getD i Value.none) (vs.getD j Value.none)) (fun b s' => b = lt i j ∧ s' = s) (fun _ _ => False) s) :
    wpAny (model prog w) A (sortRuns'.run (SortSt.mk' κ (vs.toArray.zip vs.toArray) #[] 7 none)) (fun r s' => s' = s ∧ failedOf r.2 = none ∧ ∃ p : Array Nat, p.size = vs.length ∧ arrOf r.2 = p.map (kas_item (vs.toArray.zip vs.toArray)) ∧ PermN vs.length p ∧ Asc lt p vs.length) E s := by
  intro Γ p hΓ
  let n := vs.length
  let t : Tok := (default : Tok)
  let rk : Nat → Nat := rankN lt n
  obtain ⟨h1, hs1, hh1⟩ := rows_heap t rk s.heap n
  let s1 : Shared := { s with heap := h1 }
  let ad : Nat → Addr := fun i => s.heap.objs.size + i
  let vs1 : List Value := (List.range n).map fun i => Value.ref (ad i)
  let X : Prq := { n := n, k1 := fun i => (.ref (ad i), .ref (ad i)), k2 := fun i => (vs.getD i Value.none, vs.getD i Value.none), d1 := tuples' false, d2 := κ }
  let C : CxQ := { M := model prog w, Γ := Γ, s1 := s1, s2 := s, E := E }
  have key : ∀ i, i < n → G.tupKeyC h1 (fun _ => false) (.ref (ad i)) = some ((List.replicate (rk i) (0 : Int)).map Sum.inl) := fun i hi => by
    refine keyC_of (hh1 i hi) rfl rfl ?_
    rw [Array.toList_replicate]
    exact items_zer t _ _
  have A1 : AsksQ C X lt := by
    refine ⟨fun i j hi hj Q E' p' hw => ?_, fun i j hi hj p' => ?_⟩
    · have := inv_lt (t := t) (hh1 i hi) rfl (hh1 j hj) rfl hw
      rw [rank_lt o (n := n) hi]
      exact this
    · exact ask i j hi hj Γ p' hΓ
  have e1 : pairsOf vs1 = ((List.range n).map X.k1).toArray := by
    apply Array.toList_inj.mp
    rw [pairsOf_toList]
    show List.zip ((List.range n).map _) ((List.range n).map _) = _
    rw [List.zip_map']
  have e2 : vs.toArray.zip vs.toArray = ((List.range n).map X.k2).toArray := by
    apply Array.toList_inj.mp
    have : vs = (List.range n).map fun i => vs.getD i Value.none := by
      apply List.ext_getElem?
      intro i
      by_cases hi : i < vs.length
      · simp [n, List.getElem?_map, List.getElem?_range hi, List.getD, List.getElem?_eq_getElem hi]
      · rw [List.getElem?_eq_none (by omega), List.getElem?_eq_none (by simp [n]; omega)]
    rw [Array.toList_zip]
    show vs.zip vs = _
    conv => lhs; rw [this]
    rw [List.zip_map']
  let st1 : SortSt := SortSt.mk' (tuples' false) (pairsOf vs1) #[] 7 none
  let st2 : SortSt := SortSt.mk' κ (vs.toArray.zip vs.toArray) #[] 7 none
  have rs : RSq X st1 st2 := ⟨⟨List.range n, fun i hi => List.mem_range.mp hi, e1, e2⟩, rfl, rfl, rfl, rfl, rfl, rfl⟩
  have lv : vs1.length = n := by simp [vs1]
  have left : wpS (model prog w) A (fun _ _ => False) s1 sortRuns' (fun _ st' => (arrOf st').Perm (pairsOf vs1) ∧ SortedToK (G.tupKindC h1 fun _ => false) (arrOf st') (pairsOf vs1).size) st1 := by
    refine G.wpS_sortRunsSt (κ := G.tupKindC h1 fun _ => false) (kd := tuples' false) (a₀ := pairsOf vs1) (st := st1) (G.tupC_ltAt (s := s1) (h := h1) false (G.KeepsTups.refl _)) (G.tupKeys fun v hv => ?_) ⟨Array.Perm.refl _, rfl, rfl⟩ rfl (Stable.refl _) (by rw [pairsOf_size, lv]; exact h2) fun st' a1 _ a3 _ => ⟨a1, a3⟩
    obtain ⟨i, hi, rfl⟩ := List.mem_map.mp hv
    exact ⟨_, key i (List.mem_range.mp hi)⟩
  have lw : LwQ C sortRuns' (fun _ st' _ s' => s' = s1 ∧ (arrOf st').Perm (pairsOf vs1) ∧ SortedToK (G.tupKindC h1 fun _ => false) (arrOf st') (pairsOf vs1).size) st1 p := left Γ p hΓ
  refine SimQ.srt A1 st1 st2 p p _ (fun _ st' _ s' => s' = s ∧ failedOf st' = none ∧ ∃ p : Array Nat, p.size = vs.length ∧ arrOf st' = p.map (kas_item (vs.toArray.zip vs.toArray)) ∧ PermN vs.length p ∧ Asc lt p vs.length) rs lw fun _ _ st1' st2' _ _ _ rs' hk => ?_
  obtain ⟨_, pm, so⟩ := hk
  obtain ⟨l, hl, a1, a2⟩ := rs'.arr
  refine ⟨rfl, rs'.f2, l.toArray, ?_⟩
  have pm' : (l.map X.k1).Perm ((List.range n).map X.k1) := by
    rw [a1, e1] at pm
    simpa using pm.toList
  have pl : l.Perm (List.range n) := by
    have := pm'.map fun e : Keyed => match e.1 with
      | .ref a => a - s.heap.objs.size
      | _ => 0
    rw [List.map_map, List.map_map] at this
    have id' : ∀ m : List Nat, m.map ((fun e : Keyed => match e.1 with
      | .ref a => a - s.heap.objs.size
      | _ => 0) ∘ X.k1) = m := fun m => by
      conv => rhs; rw [← List.map_id m]
      refine List.map_congr_left fun i _ => ?_
      show s.heap.objs.size + i - s.heap.objs.size = i
      omega
    rwa [id', id'] at this
  have ll : l.length = n := by rw [pl.length_eq]; simp
  have item : ∀ i, i < n → kas_item (vs.toArray.zip vs.toArray) i = X.k2 i := fun i hi => by
    rw [e2]
    unfold kas_item
    have : i < vs.length := hi
    simp [Array.getD, n, this]
  refine ⟨by simpa using ll, ?_, ?_, ?_⟩
  · rw [a2]
    apply Array.toList_inj.mp
    rw [Array.toList_map]
    exact List.map_congr_left fun i hi => (item i (hl i hi)).symm
  · show (l.toArray).Perm (List.range n).toArray
    exact pl.toArray
  · intro a b hab hb
    have ha' : a < l.length := by rw [ll]; show a < vs.length; omega
    have hb' : b < l.length := by rw [ll]; exact hb
    have ga' : ga l.toArray a = l[a] := by simp [ga, Array.getD, ha']
    have gb' : ga l.toArray b = l[b] := by simp [ga, Array.getD, hb']
    have la := hl _ (List.getElem_mem ha')
    have lb := hl _ (List.getElem_mem hb')
    rw [ga', gb', rank_lt o (n := n) lb]
    refine decide_eq_false (Nat.not_lt.mpr ?_)
    have z := so a b (Nat.le_of_lt hab) (by rw [pairsOf_size, lv]; exact hb)
    have kk : ∀ (i : Nat) (hi : i < l.length), KK (G.tupKindC h1 fun _ => false) (arrOf st1') i = (List.replicate (rk l[i]) (0 : Int)).map Sum.inl := fun i hi => by
      unfold KK
      rw [a1]
      have : ((l.map X.k1).toArray)[i]? = some (X.k1 l[i]) := by simp [hi]
      rw [this]
      show (G.tupKeyC h1 (fun _ => false) (.ref (ad l[i]))).getD _ = _
      rw [key _ (hl _ (List.getElem_mem hi))]
      rfl
    rw [kk a ha', kk b hb'] at z
    have z : (listOrd itemOrd).blt ((List.replicate (rk l[b]) (0 : Int)).map Sum.inl) ((List.replicate (rk l[a]) (0 : Int)).map Sum.inl) = false := z
    rw [lex_same, lex_zer] at z
    have := of_decide_eq_false z
    exact Nat.not_lt.mp this
end
end L2
set_option Elab.async false
set_option linter.all false
set_option maxRecDepth 100000
namespace L2
open PySem PySem.W PySem.Spec PyProof.Rows
section
variable {prog : Program} {w : World} {A : Around} {E : Value → Shared → Prop} {s : Shared}
theorem sort_anyL {a : Addr} {vs : List Value} {n : Nat} {P : Fin → Shared → Prop} (G : Array Nat → Prop) (ho : s.heap.get? a = some (seqObj "list" vs.toArray n)) (hz : vs.length ≤ sizeLine)
    (hk : 2 ≤ vs.length → ∀ h6 : Heap, (∀ b o, b ≠ a → s.heap.get? b = some o → h6.get? b = some o) → wpAny (model prog w) A (keyKind' vs.toArray) (fun κ s' => wpAny (model prog w) A (sortRuns'.run (SortSt.mk' κ (vs.toArray.zip vs.toArray) #[] 7 none)) (fun r s'' => s'' = { s with heap := h6 } ∧ failedOf r.2 = none ∧ ∃ p : Array Nat, p.size = vs.length ∧ arrOf r.2 = p.map (kas_item (vs.toArray.zip vs.toArray)) ∧ G p) (fun _ _ => False) s') (fun _ _ => False) { s with heap := h6 })
    (h : ∀ (out : List Value) (h' : Heap) (c : Nat), ((vs.length < 2 ∧ out = vs) ∨ ∃ p : Array Nat, p.size = vs.length ∧ G p ∧ out = p.toList.map fun i => vs.getD i Value.none) → h'.get? a = some (seqObj "list" out.toArray c) → (∀ b o, b ≠ a → s.heap.get? b = some o → h'.get? b = some o) → P (.done (.ret .none)) { s with heap := h' }) :
    wpAny (model prog w) A (Builtin.«list.sort» ⟨[.ref a], []⟩) P E s := by
  have la := Heap.lt_size ho
  have ls := sizeLine_eq
  obtain ⟨k, g1⟩ : ∃ k, (s.heap.update a (Obj.mapSeq fun _ => (#[] : Array Value))).get? a = some (seqObj "list" #[] k) := ⟨_, get?_update_seq ho fun _ => #[]⟩
  have u1 : ∀ b o, b ≠ a → s.heap.get? b = some o → (s.heap.update a (Obj.mapSeq fun _ => (#[] : Array Value))).get? b = some o := fun b o hb e => by rw [Heap.get?_update_ne _ _ _ _ hb]; exact e
  rw [list_sort_plain]
  refine wpAny_bind (listItems_at ho rfl (wpAny_bind (listUpdate_at ho rfl ?_ (by rw [List.size_toArray]; omega) (by simp))))
  refine wpAny_bind (seqEpoch_at g1 rfl (wpAny_bind (wpAny_newTuple ?_ (by show vs.length ≤ _; omega))))
  refine wpAny_bind (wpAny_newList (wpAny_holding ?_) (by simp))
  show wpAny (model prog w) A _ P E { s with heap := ((s.heap.update a (Obj.mapSeq fun _ => (#[] : Array Value))).push (seqObj "tuple" vs.toArray 0)).push (seqObj "list" #[] 0) }
  generalize hM : ((s.heap.update a (Obj.mapSeq fun _ => (#[] : Array Value))).push (seqObj "tuple" vs.toArray 0)).push (seqObj "list" #[] 0) = h6
  have g6 : h6.get? a = some (seqObj "list" #[] k) := by rw [← hM]; exact Heap.get?_push_of_some _ (Heap.get?_push_of_some _ g1)
  have u6 : ∀ b o, b ≠ a → s.heap.get? b = some o → h6.get? b = some o := fun b o hb e => by rw [← hM]; exact Heap.get?_push_of_some _ (Heap.get?_push_of_some _ (u1 b o hb e))
  dsimp only
  by_cases hs2 : vs.toArray.size < 2
  · rw [if_pos hs2, if_pos hs2]
    refine wpAny_bind (wpAny_pure ?_)
    rw [StateT.run_pure]
    refine wpAny_bind (wpAny_pure ?_)
    dsimp only
    have out : (arrOf (SortSt.mk' general' (vs.toArray.zip vs.toArray) #[] 7 none)).map (·.2) = vs.toArray := by
      show (vs.toArray.zip vs.toArray).map (·.2) = vs.toArray
      apply Array.toList_inj.mp
      rw [Array.toList_map, Array.toList_zip]
      exact List.map_snd_zip (Nat.le_refl _)
    rw [out]
    refine wpAny_bind (seqEpoch_at g6 rfl ?_)
    refine wpAny_bind (listUpdate_at g6 rfl ?_ (by simp) (by rw [List.size_toArray]; omega))
    simp only [bne_self_eq_false, Bool.false_eq_true, if_false]
    exact wpAny_pure (h vs _ _ (.inl ⟨by simpa using hs2, rfl⟩) (get?_update_seq g6 fun _ => vs.toArray) fun b o hb e => by rw [Heap.get?_update_ne _ _ _ _ hb]; exact u6 b o hb e)
  · rw [if_neg hs2, if_neg hs2]
    have l2 : 2 ≤ vs.length := by rw [List.size_toArray] at hs2; omega
    refine wpAny_bind (wpAny_mono (hk l2 h6 u6) (fun κ s0 hq => ?_) fun _ _ x => x.elim)
    refine wpAny_bind (wpAny_mono hq ?_ fun _ _ x => x.elim)
    rintro ⟨⟨⟩, st'⟩ s' ⟨rfl, hf, p, hp, har, hg⟩
    dsimp only
    rw [kat_snds rfl har]
    refine wpAny_bind (seqEpoch_at g6 rfl ?_)
    refine wpAny_bind (listUpdate_at g6 rfl ?_ (by simp) (by rw [List.size_toArray, List.length_map, Array.length_toList]; omega))
    rw [hf]
    simp only [bne_self_eq_false, Bool.false_eq_true, if_false]
    exact wpAny_pure (h _ _ _ (.inr ⟨p, hp, hg, rfl⟩) (get?_update_seq g6 fun _ => (p.toList.map fun i => vs.getD i Value.none).toArray) fun b o hb e => by rw [Heap.get?_update_ne _ _ _ _ hb]; exact u6 b o hb e)
theorem sorted_anyL {l : Addr} {vs : List Value} {Q : Value → Shared → Prop} (G : Array Nat → Prop) (hl : s.heap.IsList l vs.toArray) (hz : vs.length ≤ sizeLine)
    (hk : 2 ≤ vs.length → ∀ h6 : Heap, (∀ b o, s.heap.get? b = some o → h6.get? b = some o) → wpAny (model prog w) A.in1.in1 (keyKind' vs.toArray) (fun κ s' => wpAny (model prog w) A.in1.in1 (sortRuns'.run (SortSt.mk' κ (vs.toArray.zip vs.toArray) #[] 7 none)) (fun r s'' => s'' = { s with heap := h6 } ∧ failedOf r.2 = none ∧ ∃ p : Array Nat, p.size = vs.length ∧ arrOf r.2 = p.map (kas_item (vs.toArray.zip vs.toArray)) ∧ G p) (fun _ _ => False) s') (fun _ _ => False) { s with heap := h6 })
    (h : ∀ (out : List Value) (h' : Heap) (c : Nat), ((vs.length < 2 ∧ out = vs) ∨ ∃ p : Array Nat, p.size = vs.length ∧ G p ∧ out = p.toList.map fun i => vs.getD i Value.none) → h'.get? (s.heap.objs.size + 1) = some (seqObj "list" out.toArray c) → (∀ b o, s.heap.get? b = some o → h'.get? b = some o) → Q (.ref (s.heap.objs.size + 1)) { s with heap := h' }) : wpAny (model prog w) A (call (.builtin "sorted") [.ref l]) Q E s := by
  have ls := sizeLine_eq
  refine Calls.call_function_entry kind_sorted plain_sorted entry_sorted (args_sorted1 _) ?_
  unfold Builtin.«sorted»
  refine wpAny_bind (m := checkCount "sorted" 1 1 _) (wpAny_pure (wpAny_bind (collect_list hl ?_ (by omega))))
  refine wpAny_bind (wpAny_newList ?_ (by omega))
  have z1 : ((s.heap.push (seqObj "list" #[] 0)).update s.heap.objs.size (Obj.mapSeq (· ++ vs.toArray))).objs.size = s.heap.objs.size + 1 := by rw [Heap.size_update, size_push']
  have kp : ∀ b o, s.heap.get? b = some o → (((s.heap.push (seqObj "list" #[] 0)).update s.heap.objs.size (Obj.mapSeq (· ++ vs.toArray))).push (seqObj "list" vs.toArray 0)).get? b = some o := fun b o e => by
    have lb := Heap.lt_size e
    exact Heap.get?_push_of_some _ (by rw [Heap.get?_update_ne _ _ _ _ (Nat.ne_of_lt lb)]; exact Heap.get?_push_of_some _ e)
  have g1 : (((s.heap.push (seqObj "list" #[] 0)).update s.heap.objs.size (Obj.mapSeq (· ++ vs.toArray))).push (seqObj "list" vs.toArray 0)).get? (s.heap.objs.size + 1) = some (seqObj "list" vs.toArray 0) := by rw [← z1]; exact Heap.get?_push_size _ rfl
  show wpAny _ _ _ _ _ { s with heap := ((s.heap.push (seqObj "list" #[] 0)).update s.heap.objs.size (Obj.mapSeq (· ++ vs.toArray))).push (seqObj "list" vs.toArray 0) }
  rw [z1]
  generalize ((s.heap.push (seqObj "list" #[] 0)).update s.heap.objs.size (Obj.mapSeq (· ++ vs.toArray))).push (seqObj "list" vs.toArray 0) = h2 at kp g1
  refine wpAny_bind (wpAny_holding (wpAny_call_entry slot_list_sort ⟨_, g1, rfl⟩ entry_list_sort ?_ (args_list_sort _)))
  have ne : ∀ b o, s.heap.get? b = some o → b ≠ s.heap.objs.size + 1 := fun b o eb => Nat.ne_of_lt (Nat.lt_succ_of_lt (Heap.lt_size eb))
  refine sort_anyL (s := { s with heap := h2 }) G g1 hz (fun z2 h6 k6 => hk z2 h6 fun b o eb => k6 b o (ne b o eb) (kp b o eb)) fun out h' c z e k => ?_
  exact ⟨_, rfl, wpAny_pure ⟨_, rfl, h out h' c z e fun b o eb => k b o (ne b o eb) (kp b o eb)⟩⟩
end
section
variable {X : Cx}
def cSortL : List V → Hp → VK → Prop := fun vs H Q => ∃ (a : Addr) (ps : List Addr) (bs : List (List Int)), vs = [V.ref a] ∧ H a = some (.lst (ps.map V.ref)) ∧ TupsAt H ps bs ∧ ps.length ≤ 4000000 ∧
  ∀ (ps' : List Addr) (bs' : List (List Int)) (p : Addr) (H' : Hp), bs'.Perm bs → bs'.Pairwise leB → H p = none → Same H H' → H' p = some (.lst (ps'.map V.ref)) → TupsAt H' ps' bs' → Q (.ref p) H'
theorem k_sortL (hu : X.A.units + 64 < cLine) : CallR X (.builtin "sorted") cSortL := by
  intro pins s σ H vs us Q I r h
  obtain ⟨a, ps, bs, rfl, ha, tu, h64, q⟩ := h
  by_cases hne : ∀ b ∈ bs, b ≠ []
  · exact k_sortT2 pins s σ H _ us Q I r ⟨a, ps, bs, rfl, ha, tu, hne, fun ps' bs' p h1 h2 h3 h4 => q ps' bs' p _ h1 h2 h4 (Same.new h4 _) upd_same (h3.same (Same.new h4 _))⟩
  obtain ⟨z, its, n, rv, hl, e⟩ := I.lstM ha
  rw [Vals.ref1 r]
  have ei := refs_vals rv
  subst ei
  have len : (ps.map Value.ref).length = ps.length := List.length_map ..
  have obj : ∀ p ∈ ps, ∃ us : List Value, H p = some (.tup ((intsAt H p).map V.int)) ∧ Vals ((intsAt H p).map V.int) us ∧ IsTup s.heap p us.toArray := by
    intro p hp
    obtain ⟨b, hb, eb⟩ := tu.mem hp
    obtain ⟨_, us, rb, tp⟩ := (show ObjOk X.prog X.w H s.heap p (.tup (b.map V.int)) from I.hok p _ eb)
    rw [intsAt_of eb]
    exact ⟨us, eb, rb, tp⟩
  have hu1 : X.A.in1.in1.units < cLine := by
    show X.A.units + 1 + 1 < cLine
    omega
  let key : Nat → List Int := fun i => intsAt H (ps.getD i 0)
  have fr : H (s.heap.objs.size + 1) = none := I.hok.fresh (Nat.le_succ _)
  refine sorted_anyL (fun p => PermN ps.length p ∧ Asc (fun i j => HT.lexLt (key i) (key j)) p ps.length) (vs := ps.map Value.ref) ⟨_, e, rfl, n, rfl⟩ (by omega) (fun l2 h6 k6 => ?_) fun out h' c hout e' k => ?_
  · rw [len] at l2 ⊢
    have tup6 : ∀ p ∈ ps, ∃ us : List Value, IntsAre us (intsAt H p) ∧ IsTup h6 p us.toArray := fun p hp => by
      obtain ⟨us, _, rb, o, eo, co⟩ := obj p hp
      exact ⟨us, rb.ints, o, k6 _ _ eo, co⟩
    have ask : ∀ κ : SortKind, κ = general' ∨ κ = oneType' → wpAny (model X.prog X.w) X.A.in1.in1 (sortRuns'.run (SortSt.mk' κ ((ps.map Value.ref).toArray.zip (ps.map Value.ref).toArray) #[] 7 none)) (fun r s'' => s'' = { s with heap := h6 } ∧ failedOf r.2 = none ∧ ∃ p : Array Nat, p.size = ps.length ∧ arrOf r.2 = p.map (kas_item ((ps.map Value.ref).toArray.zip (ps.map Value.ref).toArray)) ∧ PermN ps.length p ∧ Asc (fun i j => HT.lexLt (key i) (key j)) p ps.length) (fun _ _ => False) { s with heap := h6 } := by
      intro κ hκ
      have run := run_any (prog := X.prog) (w := X.w) (A := X.A.in1.in1) (E := fun _ _ => False) (s := { s with heap := h6 }) (κ := κ) (vs := ps.map Value.ref) (lex_ord key) (by rw [len]; omega) (fun i j hi hj => by
        rw [len] at hi hj
        have ei : (ps.map Value.ref).getD i Value.none = .ref (ps.getD i 0) := by simp [List.getD, List.getElem?_map, List.getElem?_eq_getElem hi]
        have ej : (ps.map Value.ref).getD j Value.none = .ref (ps.getD j 0) := by simp [List.getD, List.getElem?_map, List.getElem?_eq_getElem hj]
        rw [ei, ej]
        obtain ⟨u1, i1, t1⟩ := tup6 (ps.getD i 0) (by simp [List.getD, List.getElem?_eq_getElem hi])
        obtain ⟨u2, i2, t2⟩ := tup6 (ps.getD j 0) (by simp [List.getD, List.getElem?_eq_getElem hj])
        rcases hκ with rfl | rfl
        · exact ask_gen t1 t2 i1 i2 hu1 ⟨rfl, rfl⟩
        · exact ask_one t1 t2 i1 i2 hu1 ⟨rfl, rfl⟩)
      rw [len] at run
      exact run
    refine kind_mixed l2 (fun p hp => ?_) ?_ (ask _ (.inl rfl)) (ask _ (.inr rfl))
    · obtain ⟨us, _, t⟩ := tup6 p hp
      exact ⟨_, t⟩
    · obtain ⟨b, hb, be⟩ : ∃ b ∈ bs, b = [] := by
        refine Classical.byContradiction fun hn => hne fun b hb z => hn ⟨b, hb, z⟩
      obtain ⟨i, hi⟩ := List.mem_iff_getElem?.mp hb
      have hil : i < ps.length := by rw [tu.1]; exact (List.getElem?_eq_some_iff.mp hi).1
      have ep := tu.2 i ps[i] b (List.getElem?_eq_getElem hil) hi
      obtain ⟨us, iu, t⟩ := tup6 ps[i] (List.getElem_mem _)
      rw [intsAt_of ep, be] at iu
      cases iu
      exact ⟨_, List.getElem_mem _, t⟩
  · have done' : ∀ qs : List Addr, out = qs.map Value.ref → qs.Perm ps → (qs.map (intsAt H)).Pairwise leB → EP X pins σ Q (.ref (s.heap.objs.size + 1)) { s with heap := h' } := by
      intro qs eo hq hs
      have hlen : (qs.map V.ref).length ≤ sizeLine := by rw [List.length_map, hq.length_eq]; rw [List.length_map] at z; exact z
      have tq : TupsAt H qs (qs.map (intsAt H)) := TupsAt.of_all fun p hp => by
        obtain ⟨b, _, eb⟩ := tu.mem (hq.mem_iff.mp hp)
        exact ⟨b, eb⟩
      refine ⟨.ref _, _, I.laid (t' := s.toks) (a := s.heap.objs.size + 1) (o := .lst (qs.map V.ref)) k (Nat.le_succ _) ⟨hlen, qs.map Value.ref, c, vals_refs qs, by rw [← eo]; exact e'⟩, rfl, q qs (qs.map (intsAt H)) _ _ ?_ hs fr (Same.new fr _) upd_same (tq.same (Same.new fr _))⟩
      rw [tu.eq]
      exact hq.map _
    rcases hout with ⟨h2, rfl⟩ | ⟨p, hp, ⟨pp, as⟩, rfl⟩
    · refine done' ps rfl (List.Perm.refl _) ?_
      rw [len] at h2
      match ps, h2 with
      | [], _ => exact List.Pairwise.nil
      | [x], _ => exact List.pairwise_singleton _ _
    · have hl : p.toList.Perm (List.range ps.length) := by have := pp.toList; simpa using this
      have psz := pp.size
      refine done' (p.toList.map fun i => ps.getD i 0) ?_ ?_ ?_
      · rw [List.map_map]
        apply List.map_congr_left
        intro i hi
        have hi := List.mem_range.mp (hl.mem_iff.mp hi)
        simp [List.getD, List.getElem?_map, List.getElem?_eq_getElem hi]
      · have := hl.map fun i => ps.getD i 0
        refine this.trans (List.Perm.of_eq ?_)
        apply List.ext_getElem?
        intro i
        by_cases hi : i < ps.length
        · simp [List.getElem?_map, List.getElem?_range hi, List.getD, List.getElem?_eq_getElem hi]
        · rw [List.getElem?_eq_none (by simp; omega), List.getElem?_eq_none (by omega)]
      · rw [List.map_map, List.pairwise_map, List.pairwise_iff_getElem]
        intro i j hi hj hij
        have hj' : j < p.size := by simpa using hj
        have hi' : i < p.size := by omega
        have := as i j hij (by omega)
        have g1 : ga p i = p.toList[i] := by simp [ga, Array.getD, hi']
        have g2 : ga p j = p.toList[j] := by simp [ga, Array.getD, hj']
        rw [g1, g2] at this
        exact leB_of this
def cSortN : List V → Hp → VK → Prop := fun vs H Q => ∃ (a : Addr) (bs : List (List Int)), vs = [V.ref a] ∧ Blks H a bs ∧ bs.length ≤ 4000000 ∧
  ∀ (bs' : List (List Int)) (p : Addr) (H' : Hp), bs'.Perm bs → bs'.Pairwise leB → H p = none → Same H H' → Blks H' p bs' → Q (.ref p) H'
theorem k_sortN (hu : X.A.units + 64 < cLine) : CallR X (.builtin "sorted") cSortN := by
  intro pins s σ H vs us Q I r h
  obtain ⟨a, bs, rfl, ⟨ps, ha, tu⟩, c, q⟩ := h
  exact k_sortL hu pins s σ H _ us Q I r ⟨a, ps, bs, rfl, ha, tu, by rw [tu.1]; exact c, fun ps' bs' p H' h1 h2 h3 h4 h5 h6 => q bs' p H' h1 h2 h3 h4 ⟨ps', h5, h6⟩⟩
end
end L2
set_option Elab.async false
set_option linter.all false
set_option maxRecDepth 100000
namespace PySem
section
variable {prog : Program} {w : World} {A : Around} {E : Value → Shared → Prop} {s : Shared}
end
end PySem
set_option Elab.async false
set_option linter.all false
set_option maxRecDepth 100000
namespace PySem
section
variable {prog : Program} {w : World} {A : Around} {E : Value → Shared → Prop} {s : Shared}
end
abbrev ztH1 (h : Heap) (l1 : Addr) : Heap := h.push { cls := .type "tuple_iterator", data := .fields #[.ref l1, .int 0 0] }
abbrev ztH2 (h : Heap) (l1 l2 : Addr) : Heap := (ztH1 h l1).push { cls := .type "tuple_iterator", data := .fields #[.ref l2, .int 0 0] }
abbrev ztH3 (h : Heap) (l1 l2 : Addr) : Heap := (ztH2 h l1 l2).push { cls := .type "tuple", data := .seq #[.ref h.objs.size, .ref (ztH1 h l1).objs.size] }
abbrev ztH4 (h : Heap) (l1 l2 : Addr) : Heap := (ztH3 h l1 l2).push { cls := .type "tuple", data := .seq #[.none, .none] }
abbrev ztH5 (h : Heap) (l1 l2 : Addr) : Heap := (ztH4 h l1 l2).push { cls := .type "zip", data := .fields #[.none, .bool false, .bool false, .ref (ztH2 h l1 l2).objs.size, .ref (ztH3 h l1 l2).objs.size] }
section
variable {prog : Program} {w : World} {A : Around} {E : Value → Shared → Prop} {s : Shared}
end
end PySem
namespace L2
open PySem PyProof.Rows
def Izt (K : PySem.W.Frag) (a b : Addr) : It :=
  ⟨fun i H => ∃ (xs ys : List V) (x y : V), SqT K H a xs ∧ SqT K H b ys ∧ xs[i]? = some x ∧ ys[i]? = some y,
    fun i H v H' => ∃ T x y, v = .ref T ∧ H T = none ∧ H' = upd H T (.tup [x, y]) ∧ (∀ xs, SqT K H a xs → xs[i]? = some x) ∧ ∀ ys, SqT K H b ys → ys[i]? = some y,
    fun i H => ∃ xs ys : List V, SqT K H a xs ∧ SqT K H b ys ∧ (xs.length ≤ i ∨ ys.length ≤ i)⟩
def iZipT (K : PySem.W.Frag) (ta : TA) : TI := fun σ H R => ta σ H fun vs H1 => ∃ a b xs ys, vs = [.ref a, .ref b] ∧ SqT K H1 a xs ∧ SqT K H1 b ys ∧ R (Izt K a b) H1
end L2
set_option Elab.async false
set_option linter.all false
set_option maxRecDepth 100000
namespace L2
open PySem PySem.Spec PyProof.Rows
section
variable {K : PySem.W.Frag} {H : Hp} {Q : VK}
end
def Alike (H : Hp) : Nat → V → V → Prop
  | 0, u, v => ∃ i, u = .int i ∧ v = .int i
  | n + 1, u, v => (∃ i, u = .int i ∧ v = .int i) ∨ ∃ (a b : Addr) (xs ys : List V), u = .ref a ∧ v = .ref b ∧ ((H a = some (.tup xs) ∧ H b = some (.tup ys)) ∨ (H a = some (.lst xs) ∧ H b = some (.lst ys))) ∧ xs.length = ys.length ∧ xs.length < 16777216 ∧ ∀ (i : Nat) (x y : V), xs[i]? = some x → ys[i]? = some y → Alike H n x y
section
variable {α : Type} {R : Addr → Hp → V → α → Prop} {K : PySem.W.Frag} {g : TG} {tt : TT} {te : TE} {vs : List Nat} {σ : St} {H1 : Hp} {D : Addr} {Qd : Hp → Prop}
end
end L2
set_option Elab.async false
set_option linter.all false
set_option maxRecDepth 100000
namespace L2
open PySem PySem.Spec PyProof.Rows
def numK : Nat → List Int → List (Key × V)
  | _, [] => []
  | i, x :: l => (.inl x, .int (i : Nat)) :: numK (i + 1) l
theorem numK_snoc (x : Int) : ∀ (l : List Int) (i : Nat), numK i (l ++ [x]) = numK i l ++ [(.inl x, .int ((i + l.length : Nat) : Int))]
  | [], i => rfl
  | y :: l, i => by
    show _ :: numK (i + 1) (l ++ [x]) = _ :: (numK (i + 1) l ++ _)
    rw [numK_snoc x l (i + 1), List.length_cons, show i + 1 + l.length = i + (l.length + 1) by omega]
theorem numK_len : ∀ (l : List Int) (i : Nat), (numK i l).length = l.length
  | [], _ => rfl
  | _ :: l, i => congrArg (· + 1) (numK_len l (i + 1))
theorem valV_num (t : Int) : ∀ (l : List Int) (i : Nat), valV (numK i l) (.inl t) = if t ∈ l then some (.int ((i + l.idxOf t : Nat) : Int)) else none
  | [], _ => rfl
  | x :: l, i => by
    by_cases c : x = t
    · subst c
      rw [if_pos List.mem_cons_self]
      show valV ((.inl x, .int (i : Nat)) :: numK (i + 1) l) (.inl x) = _
      rw [valV_pos rfl]
      simp
    · show valV ((.inl x, .int (i : Nat)) :: numK (i + 1) l) (.inl t) = _
      rw [valV_neg (fun z => c (Sum.inl.inj z)), valV_num t l (i + 1)]
      by_cases m : t ∈ l
      · have e : (x :: l).idxOf t = l.idxOf t + 1 := by rw [List.idxOf_cons, beq_false_of_ne c]; rfl
        rw [if_pos m, if_pos (List.mem_cons_of_mem _ m), e, show i + 1 + l.idxOf t = i + (l.idxOf t + 1) by omega]
      · rw [if_neg m, if_neg (fun z => (List.mem_cons.mp z).elim (fun z => c z.symm) m)]
section
variable {K : PySem.W.Frag} {g : TG} {tt : TT} {tk tv : TE} {vs : List Nat} {σ : St} {H1 : Hp} {D : Addr} {Qd : Hp → Prop}
theorem dcm_enum (hD : H1 D = none) {a : Addr} {l : List Int} (nd : l.Nodup) (hn : l.length < 16777216) (hl : ∀ H, Same H1 H → H a = some (.lst (l.map V.int)))
    (hs : ∀ (i : Nat) (x : Int) (T : Addr) (H : Hp) (R : V → V → Hp → Prop) (Rn : Hp → Prop), l[i]? = some x → Same H1 H → H T = some (.tup [.int (i : Nat), .int x]) → R (.int x) (.int (i : Nat)) H →
      g (.ref T) (wipe σ vs) H fun σ2 H2 => wipe σ2 vs = wipe σ vs ∧ tt σ2 H2 fun b H3 => if b = true then tk σ2 H3 fun y H4 => tv σ2 H4 fun z H5 => R y z H5 else Rn H3)
    (hd : ∀ (H : Hp), Same H1 H → H D = some (.dK (numK 0 l)) → Qd H) :
    ∃ W : Nat → Nat → Hp → Prop, (∃ m, W 0 m (upd H1 D (.dK []))) ∧ ∀ i m H, W i m H →
      ((Ite K a).stop i H ∧ Qd H) ∨ ((Ite K a).go i H ∧ ∃ Nx : Hp → Prop, (∀ H', Nx H' → ∃ m', m' < m ∧ W (i + 1) m' H') ∧ ∀ x H', (Ite K a).yld i H x H' → g x (wipe σ vs) H' fun σ2 H2 => wipe σ2 vs = wipe σ vs ∧ tt σ2 H2 fun b H3 =>
        if b = true then tk σ2 H3 fun y H4 => tv σ2 H4 fun z H5 => ∃ H6, DPut H5 D y z H6 ∧ Nx H6 else Nx H3) := by
  refine ⟨fun i m H => m = l.length - i ∧ i ≤ l.length ∧ Same H1 H ∧ H D = some (.dK (numK 0 (l.take i))), ⟨l.length, by simp, Nat.zero_le _, Same.new hD _, upd_same⟩, ?_⟩
  rintro i m H ⟨rfl, hi, sm, e⟩
  have q : SqL K H a (l.map V.int) := SqL.of (hl H sm)
  by_cases hlt : i < l.length
  · have hz : l[i]? = some l[i] := by simp [hlt]
    refine .inr ⟨⟨_, .int l[i], q, by simp [hlt]⟩, fun H => Same H1 H ∧ H D = some (.dK (numK 0 (l.take (i + 1)))), fun H' p' => ⟨l.length - (i + 1), by omega, rfl, hlt, p'⟩, fun x H' y => ?_⟩
    obtain ⟨T, x', rfl, hT, rfl, y1⟩ := y
    have ex : x' = .int l[i] := by
      have := y1 _ q
      rw [List.getElem?_map, hz] at this
      exact (Option.some.inj this).symm
    subst ex
    have nD : T ≠ D := fun z => by subst z; rw [e] at hT; cases hT
    have eD : upd H T (.tup [.int (i : Nat), .int l[i]]) D = some (.dK (numK 0 (l.take i))) := by rw [upd_ne nD.symm]; exact e
    have st : Same H1 (upd H T (.tup [.int (i : Nat), .int l[i]])) := sm.trans (Same.new hT _)
    refine hs i l[i] T _ _ _ hz st upd_same ?_
    refine ⟨_, DPut.k (k := .inl l[i]) eD ?_, st.late hD _, ?_⟩
    · rw [numK_len, List.length_take]
      show _ < 16777216
      omega
    · rw [upd_same, putK_new]
      · rw [take_snoc hz, numK_snoc, List.length_take, Nat.zero_add, Nat.min_eq_left (by omega)]
      · rw [valV_num, if_neg]
        intro m
        obtain ⟨j, hj⟩ := List.getElem?_of_mem m
        rw [List.getElem?_take] at hj
        split at hj
        · rename_i hji
          have := (List.getElem?_inj (by omega) nd).mp (hj.trans hz.symm)
          omega
        · cases hj
  · have hin : i = l.length := by omega
    subst hin
    rw [List.take_length] at e
    exact .inl ⟨⟨_, q, by simp⟩, hd H sm e⟩
end
end L2
set_option Elab.async false
set_option linter.all false
set_option maxRecDepth 100000
namespace L2
open PySem PySem.Spec PyProof.Rows
def SqE (H : Hp) (b : Addr) (rs : List Int) : Prop := H b = some (.lst (rs.map V.int)) ∨ H b = some (.tup (rs.map V.int))
def ordersM : List Int := [2, 3, 4, 5, 7, 8, 9, 11, 13, 16, 17, 19, 23, 25, 27, 29, 31, 32]
def lfM : Nat → Int → Int → Option Int
  | 0, _, _ => none
  | k + 1, n, f => if n % f = 0 then some f else lfM k n (f + 1)
def digsM : Nat → Int → Int → List Int
  | 0, _, _ => []
  | d + 1, n, b => n % b :: digsM d (n / b) b
def stepM (rule : List Int) (p last : Int) (st : Nat) (l : List Int) (i : Nat) : List Int := l.set (st + i) ((l.getD (st + i) 0 - last * rule.getD i 0) % p)
def popM (rule : List Int) (p : Int) (deep : Nat) (l : List Int) : List Int := (List.range deep).foldl (stepM rule p (l.getLast?.getD 0) (l.length - 1 - deep)) l.dropLast
def leftM (rule : List Int) (p : Int) (deep : Nat) : Nat → List Int → List Int
  | 0, l => l
  | k + 1, l => leftM rule p deep k (popM rule p deep l)
def leftByM (ds rule : List Int) (p : Int) : List Int := leftM rule p (rule.length - 1) (ds.length - (rule.length - 1)) (ds.map (· % p))
def zeroM (l : List Int) : Bool := !(l.any fun n => n != 0)
def facM (rs : List Int) (p : Int) (d : Nat) (j : Nat) : Bool := zeroM (leftByM rs (digsM (d + 1) (p ^ d + j) p) p)
def isProdM (rs : List Int) (p : Int) : Bool := (List.range (rs.length - 2)).any fun i => (List.range (p ^ (i + 1)).toNat).any fun j => facM rs p (i + 1) j
def firstM : Nat → Int → Nat → Int → Option (List Int)
  | 0, _, _, _ => none
  | k + 1, p, d, n => if isProdM (digsM (d + 1) n p) p then firstM k p d (n + 1) else some (digsM (d + 1) n p)
def deepM : Nat → Int → Int → Nat → Option Nat
  | 0, _, _, _ => none
  | k + 1, n, p, d => if p ^ d < n then deepM k n p (d + 1) else some d
structure FieldM where
  p : Int
  d : Nat
  r : List Int
  deriving DecidableEq
def fieldM (n : Int) : Option FieldM := (lfM 40 n 2).bind fun p => (deepM 10 n p 1).bind fun d => (firstM 50 p d (p ^ d)).map fun r => ⟨p, d, r⟩
theorem stepM_len (rule : List Int) (p last : Int) (st : Nat) (l : List Int) (i : Nat) : (stepM rule p last st l i).length = l.length := by unfold stepM; rw [List.length_set]
def fldsM (n p d : Int) (t : Addr) : List (Str × V) := [("order", .int n), ("prime", .int p), ("deep", .int d), ("rule", .ref t)]
end L2
set_option Elab.async false
set_option linter.all false
set_option maxRecDepth 100000
namespace PySem
abbrev ZipOut (h : Heap) (z TI TO T : Addr) (f1 : Bool) : Prop :=
  h.get? z = some { cls := .type "zip", dict := none, data := .fields #[rawInt T, .bool f1, .bool false, .ref TI, .ref TO], slots := #[] }
section
variable {prog : Program} {w : World} {A : Around} {E : Value → Shared → Prop} {s : Shared}
end
end PySem
namespace PySem
structure ZSt (h : Heap) (z TI TO i1 i2 l1 l2 : Addr) (xs ys : Array Value) (i : Nat) : Prop where
  st : (IsZip h z TI TO .none ∧ ∃ a b, IsPair h TO a b) ∨ ∃ T f1, ZipOut h z TI TO T f1 ∧ ∃ o, h.get? T = some o
  ti : IsPair h TI (.ref i1) (.ref i2)
  it1 : h.IsListIter i1 l1 i
  it2 : h.IsListIter i2 l2 i
  il1 : h.IsList l1 xs
  il2 : h.IsList l2 ys
section
variable {prog : Program} {w : World} {A : Around} {E : Value → Shared → Prop} {s : Shared} {z TI TO i1 i2 l1 l2 : Addr} {xs ys : Array Value}
def ZAcc (h : Heap) (b0 : Nat) (xs ys : Array Value) (acc : Array Value) (i : Nat) : Prop := acc.size = i ∧ ∀ (j : Nat) (v : Value), acc[j]? = some v → ∃ (T : Addr) (x y : Value), v = Value.ref T ∧ b0 ≤ T ∧ xs[j]? = some x ∧ ys[j]? = some y ∧ IsPair h T x y
end
end PySem
namespace PySem
section
variable {prog : Program} {w : World} {A : Around} {E : Value → Shared → Prop} {s : Shared} {z TI TO i1 i2 l1 l2 : Addr} {xs ys : Array Value}
end
end PySem
set_option Elab.async false
set_option linter.all false
set_option maxRecDepth 100000
namespace PySem
abbrev IsTri (h : Heap) (T : Addr) (a b c : Value) : Prop := h.get? T = some { cls := .type "tuple", data := .seq #[a, b, c] }
structure Tz (h : Heap) (n l1 l2 l3 : Nat) (f : Value) (i : Nat) : Prop where
  z : IsZip h (n + 5) (n + 3) (n + 4) f
  ti : IsTri h (n + 3) (.ref n) (.ref (n + 1)) (.ref (n + 2))
  to : ∃ a b c, IsTri h (n + 4) a b c
  j1 : h.IsListIter n l1 i
  j2 : h.IsListIter (n + 1) l2 i
  j3 : h.IsListIter (n + 2) l3 i
section
variable {prog : Program} {w : World} {A : Around} {E : Value → Shared → Prop} {s : Shared}
end
abbrev hz1 (h : Heap) (a : Addr) : Heap := h.push { cls := .type "list_iterator", data := .fields #[.ref a, .int 0 0] }
abbrev hz4 (h : Heap) (a b c : Addr) : Heap := (hz1 (hz1 (hz1 h a) b) c).push { cls := .type "tuple", data := .seq #[.ref h.objs.size, .ref (hz1 h a).objs.size, .ref (hz1 (hz1 h a) b).objs.size] }
abbrev hz5 (h : Heap) (a b c : Addr) : Heap := (hz4 h a b c).push { cls := .type "tuple", data := .seq #[.none, .none, .none] }
abbrev hz6 (h : Heap) (a b c : Addr) : Heap := (hz5 h a b c).push { cls := .type "zip", data := .fields #[.none, .bool false, .bool false, .ref (hz1 (hz1 (hz1 h a) b) c).objs.size, .ref (hz4 h a b c).objs.size] }
section
variable {prog : Program} {w : World} {A : Around} {E : Value → Shared → Prop} {s : Shared}
end
end PySem
set_option Elab.async false
set_option linter.all false
set_option maxRecDepth 100000
namespace PySem
abbrev ZipAny (h : Heap) (z TI TO : Addr) (v : Value) (f1 : Bool) : Prop :=
  h.get? z = some { cls := .type "zip", dict := none, data := .fields #[v, .bool f1, .bool false, .ref TI, .ref TO], slots := #[] }
section
variable {prog : Program} {w : World} {A : Around} {E : Value → Shared → Prop} {s : Shared}
def FreeV (h : Heap) (v : Value) : Prop := v = .none ∨ ∃ T : Addr, v = rawInt T ∧ h.get? T = none
end
end PySem
namespace PySem
section
variable {prog : Program} {w : World} {A : Around} {E : Value → Shared → Prop} {s : Shared}
def ZipW (h : Heap) (z TI TO i1 i2 a b : Addr) (i : Nat) : Prop := ∃ v f1, ZipAny h z TI TO v f1 ∧ (v = .none ∨ ∃ T : Addr, v = rawInt T) ∧ IsPair h TI (.ref i1) (.ref i2) ∧ (∃ x y, IsPair h TO x y) ∧ h.IsListIter i1 a i ∧ h.IsListIter i2 b i
end
end PySem
namespace L2
open PySem PyProof.Rows
def ItzE (K : PySem.W.Frag) (a b : Addr) : It :=
  ⟨fun i H => ∃ (xs ys : List V) (x y : V), SqL K H a xs ∧ SqL K H b ys ∧ xs[i]? = some x ∧ ys[i]? = some y,
    fun i H v H' => ∃ T x y, v = .ref T ∧ H T = none ∧ H' = upd H T (.tup [x, y]) ∧ (∀ xs, SqL K H a xs → xs[i]? = some x) ∧ ∀ ys, SqL K H b ys → ys[i]? = some y,
    fun i H => ∃ xs : List V, SqL K H a xs ∧ xs.length ≤ i⟩
def isNameE : Expr → Bool
  | .Name _ _ => true
  | _ => false
def iZipN (K : PySem.W.Frag) (ta : TA) : TI := fun σ H R => ta σ H fun vs H1 => ∃ a b xs ys, vs = [.ref a, .ref b] ∧ SqL K H1 a xs ∧ SqL K H1 b ys ∧ R (ItzE K a b) H1
end L2
set_option Elab.async false
set_option linter.all false
set_option maxRecDepth 100000
namespace PySem
open PySem.SetTable PyProof.Rows
section
variable {prog : Program} {w : World} {A : Around} {R : Result → Shared → Prop} {I : Addr} {fp wr : List Addr} {G : Array GenState → Array GenState → Prop} {n : Nat} {P : Nat → Value → Prop} {St : Nat → Shared → Prop}
def NoTup (h : Heap) (wr : List Addr) : Prop := ∀ b ∈ wr, ∀ o, h.get? b = some o → o.cls ≠ .type "tuple"
end
section
variable {prog : Program} {w : World} {A : Around} {E : Value → Shared → Prop} {s : Shared}
def TKs (prog : Program) (w : World) (h : Heap) (its : List Value) (bs : List (List Int)) : Prop := Paired (fun v b => ∃ q, v = Value.ref q ∧ TKey prog w h b q) its bs
end
end PySem
set_option Elab.async false
set_option linter.all false
set_option maxRecDepth 100000
namespace PySem
open PySem.SetTable PyProof.Rows
section
variable {prog : Program} {w : World} {A : Around} {E : Value → Shared → Prop} {s : Shared}
end
end PySem
namespace L2
open PySem PySem.Spec PyProof.Rows
def SizeAt (a : Addr) (n : Nat) (h : Heap) : Prop := ∃ o es ep t, h.get? a = some o ∧ o.ExactSet ∧ o.data = .set es ep t ∧ t.fits es.size = true ∧ es.size = n
theorem refs_cons {H : Hp} {v : V} {vs : List V} {b : List Int} {bs : List (List Int)} (h : RefsAt H (v :: vs) (b :: bs)) : (∃ p, v = .ref p ∧ H p = some (.tup (b.map V.int))) ∧ RefsAt H vs bs := by
  obtain ⟨ps, e, l, t⟩ := h
  cases ps with
  | nil => cases e
  | cons p ps =>
    cases e
    refine ⟨⟨p, rfl, t 0 p b rfl rfl⟩, ps, rfl, by simpa using l, fun i q c h1 h2 => t (i + 1) q c (by simpa using h1) (by simpa using h2)⟩
theorem items_of {P : Program} {w : World} : ∀ {b : List Int} {its : List Value}, Vals (b.map V.int) its → ItemsAre (intKind P w) b its
  | [], _, h => by cases h; exact .nil
  | x :: b, _, h => by
    cases h with
    | cons r t =>
      obtain ⟨tk, rfl⟩ := r
      exact .cons (by show Value.isInt x (.int x tk) = true; simp [Value.isInt]) (items_of t)
theorem tkey_of {X : Cx} {pins : List (Addr × Obj)} {σ : St} {H : Hp} {s : Shared} (I : Inv X pins σ H s) {p : Addr} {b : List Int} (h : H p = some (.tup (b.map V.int))) : TKey X.prog X.w s.heap b p := by
  obtain ⟨its, r, hp, _⟩ := I.tuple (SqT.of h)
  obtain ⟨o, ho, hc, n, hd⟩ := hp
  exact ⟨o, _, n, ho, hc, hd, by simpa using items_of r⟩
section
variable {X : Cx}
def cSetTs : List V → Hp → VK → Prop := fun vs H Q => ∃ (a : Addr) (bs : List (List Int)), vs = [V.ref a] ∧ Blks H a bs ∧ bs.length ≤ 4913 ∧ ∀ p H' n, H p = none → Same H H' → H' p = some (.ext (SizeAt p n)) → n ≤ bs.length → (n = bs.length ↔ bs.Nodup) → Q (.ref p) H'
def cLenZ : List V → Hp → VK → Prop := fun vs H Q => ∃ (a : Addr) (n : Nat), vs = [V.ref a] ∧ H a = some (.ext (SizeAt a n)) ∧ n ≤ 1000000 ∧ Q (.int (n : Nat)) H
end
end L2
set_option Elab.async false
set_option linter.all false
set_option maxRecDepth 100000
namespace PySem
open PySem.SetTable PyProof.Rows
section
variable {prog : Program} {w : World} {A : Around} {E : Value → Shared → Prop} {s : Shared}
structure TSetP (prog : Program) (w : World) (Pe : Int × Value → List Int → Prop) (h : Heap) (S : Addr) (kl : List (List Int)) : Prop where
  ex : ∃ o es ep t, h.get? S = some o ∧ o.ExactSet ∧ o.data = .set es ep t ∧ TOk t es.toList ∧ t.plain = true ∧ (byText w = true ∨ t.led = true) ∧ Paired (fun e k => EK prog w h e k ∧ Pe e k) es.toList kl
  nd : kl.Nodup
end
end PySem
set_option Elab.async false
set_option linter.all false
set_option maxRecDepth 100000
namespace PySem
open PyProof.Rows
section
variable {prog : Program} {w : World} {A : Around} {E : Value → Shared → Prop} {s : Shared}
end
end PySem
namespace L2
open PySem PySem.Spec PyProof.Rows PySem.SetTable
section
variable {X : Cx}
def cSortSI (w : World) : List V → Hp → VK → Prop := fun vs H Q => ∃ (D : Addr) (kl : List Int), vs = [V.ref D] ∧ ISetH w H D kl ∧ kl.length ≤ 4096 ∧ ∀ p H', H p = none → Same H H' → H' p = some (.lst ((isort kl).map V.int)) → Q (.ref p) H'
end
end L2
set_option Elab.async false
set_option linter.all false
set_option maxRecDepth 100000
namespace PySem
open PySem.SetTable PyProof.Rows
section
variable {prog : Program} {w : World} {A : Around} {E : Value → Shared → Prop} {s : Shared}
end
end PySem
namespace L2
open PySem PySem.Spec PyProof.Rows PySem.SetTable
def TKH (P : Program) (w : World) (H : Hp) (e : Int × Value) (k : List Int) : Prop := ∃ q, e = (tHash P w k, .ref q) ∧ H q = some (.tup (k.map V.int))
abbrev TSetH (P : Program) (w : World) : Hp → Addr → List (List Int) → Prop := SetH w (TKH P w)
def rAddT (P : Program) (w : World) (D : Addr) (y : V) (H : Hp) (Q : Hp → Prop) : Prop := ∃ (q : Addr) (k : List Int) (kl : List (List Int)), y = .ref q ∧ H q = some (.tup (k.map V.int)) ∧ TSetH P w H D kl ∧ kl.length + 1 ≤ 4914 ∧ ∀ o kl', (∀ x, x ∈ kl' ↔ x = k ∨ x ∈ kl) → TSetH P w (upd H D o) D kl' → Sam1 D H (upd H D o) → Q (upd H D o)
section
variable {X : Cx}
end
end L2
set_option Elab.async false
set_option linter.all false
set_option maxRecDepth 100000
namespace PySem
open PySem.SetTable PyProof.Rows
section
variable {prog : Program} {w : World} {A : Around} {E : Value → Shared → Prop} {s : Shared}
end
end PySem
namespace L2
open PySem PySem.Spec PyProof.Rows PySem.SetTable
section
variable {X : Cx}
def cSet0 (w : World) : List V → Hp → VK → Prop := fun vs H Q => vs = [] ∧ ∀ D, H D = none → ∀ o, Set0 w D (upd H D o) → Q (.ref D) (upd H D o)
def cLenH (w : World) : List V → Hp → VK → Prop := fun vs H Q => ∃ (κ : Type) (R : Hp → Int × Value → κ → Prop) (D : Addr) (kl : List κ), vs = [V.ref D] ∧ SetH w R H D kl ∧ kl.length ≤ 1000000 ∧ Q (.int (kl.length : Nat)) H
def tAddS (P : Program) (w : World) (to : TE) (ta : TA) : TE := fun σ H Q => to σ H fun x H1 => ∃ D, x = .ref D ∧ (∃ es ep t, H1 D = some (.ext (RawSet D es ep t))) ∧ ta σ H1 fun ys H2 => ∃ y, ys = [y] ∧ rAddT P w D y H2 fun H3 => Q .non H3
def cSortTS (P : Program) (w : World) : List V → Hp → VK → Prop := fun vs H Q => ∃ (D : Addr) (kl : List (List Int)), vs = [V.ref D] ∧ TSetH P w H D kl ∧ kl.length ≤ 4096 ∧ (∀ b ∈ kl, b ≠ []) ∧
  ∀ bs' p H', bs'.Perm kl → bs'.Pairwise leB → H p = none → Same H H' → Blks H' p bs' → Q (.ref p) H'
end
section
variable {σ : St} {H : Hp} {P : Program} {w : World}
end
end L2
set_option Elab.async false
set_option linter.all false
set_option maxRecDepth 100000
namespace L2
open PySem PySem.Spec PyProof.Rows
def plusH (H N : Hp) : Hp := fun b => match N b with | some o => some o | none => H b
section
variable {X : Cx} {pins : List (Addr × Obj)} {σ : St} {H N : Hp} {s : Shared} {h' : Heap}
end
def tZipI (ta : TA) : TE := fun σ H Q => ta σ H fun vs H1 => ∃ (a b : Addr) (ns ms : List Int), vs = [.ref a, .ref b] ∧ H1 a = some (.lst (ns.map V.int)) ∧ H1 b = some (.lst (ms.map V.int)) ∧ ns.length = ms.length ∧
  ∀ l H', H1 l = none → Same H1 H' → Blks H' l (List.zipWith (fun x y => [x, y]) ns ms) → Q (.ref l) H'
end L2
set_option Elab.async false
set_option linter.all false
set_option maxRecDepth 100000
namespace L2
open PySem PySem.Spec PyProof.Rows
def GV (P : Program) (w : World) (env : Env) (h : Heap) (e : Expr) (v : V) : Prop :=
  ∀ (A : Around) (E : Value → Shared → Prop) (t : Shared), A.handled = none → (∀ b o, h.get? b = some o → t.heap.get? b = some o) →
    wpAny (model P w) A (eval e env) (fun y s => RelV v y ∧ Keeps t s) E t
section
variable {P : Program} {w : World} {env : Env} {h : Heap} {a b : Expr} {pos : Pos}
end
structure GScope (sc : Scope) (x : Str) : Prop where
  co : sc.isCoroutine = false
  cell : ∀ y ∈ sc.names, y.2 ≠ .cell
  z : sc.names.lookup (".0" : Str) = some NameKind.local
  x : sc.names.lookup x = some .local
  kind : sc.kind = .function
def BM (base : Heap) (mg : Str → Option Value) : Prop := ∃ bm ob, BMod base mainGlobals mg bm ob
def trAt {α : Type} (g : α → Bool) (xs : List α) (i : Nat) : Bool := match xs[i]? with | some v => g v | none => true
end L2
set_option Elab.async false
set_option linter.all false
set_option maxRecDepth 100000
namespace L2
open PySem PySem.Spec PyProof.Rows
def tabOf (K : PySem.W.Frag) (x : Str) : Addr × Addr := (PySem.W.tabIn K x).getD (0, 0)
def TabsB (K : PySem.W.Frag) (xs : List Str) (base : Heap) : Prop := ∀ x ∈ xs, PySem.W.CodeHd base (tabOf K x).1 (tabOf K x).2
def OnlyT (K : PySem.W.Frag) (xs : List Str) (H : Hp) : Prop := ∀ b, H b = none ∨ (∃ o ys, H b = some (.frz o (.lst ys))) ∨ ∃ x ∈ xs, b = (tabOf K x).2 ∧ H b = some (.tbl #[])
section
variable {P : Program} {w : World} {K : PySem.W.Frag} {mg : Str → Option Value} {base : Heap}
end
structure RunC (P : Program) (w : World) (K : PySem.W.Frag) (mg : Str → Option Value) (base : Heap) (CX : CXT) (f : Addr) (fd : FuncData) (ps : List Str) (sp : Sp) : Prop where
  run : ∀ (outer : List Env) (s : Shared) (H : Hp) (args : Args) (us : List Value) (vs : List V) (Q : VK) (E : XK), Env0 P w K mg base callerA outer s H → BindsTo s fd args (ps.zip us) → Vals vs us → sp vs H Q E →
    codeAny (model P w) callerA (.call (.ref f) args) (CR CX outer P w H s Q E) s
def tabsIn (K : PySem.W.Frag) (q : Program) (xs : List Str) : Bool := PySem.W.noTabs K && xs.all fun x => (PySem.W.tabIn K x).isSome && (recsOf q).any fun e => e.name == x
end L2
set_option Elab.async false
set_option linter.all false
set_option maxRecDepth 100000
namespace L2
open PySem PySem.Spec PyProof.Rows
structure FnOkG (P : Program) (w : World) (K : PySem.W.Frag) (mg : Str → Option Value) (base : Heap) (k : Nat) (f : Addr) (fd : FuncData) (ps : List Str) (sp : Sp) : Prop where
  len : ∀ vs H Q E, sp vs H Q E → vs.length = ps.length
  run : ∀ (A : Around) (outer : List Env) (s : Shared) (H : Hp) (args : Args) (us : List Value) (vs : List V) (Q : VK) (E : XK), Room k A → A.guards = some [] → Env0 P w K mg base A outer s H → BindsTo s fd args (ps.zip us) → Vals vs us → sp vs H Q E →
    codeAny (model P w) A (.call (.ref f) args) (CR CX0 outer P w H s Q E) s
structure HasG (P : Program) (w : World) (K : PySem.W.Frag) (mg : Str → Option Value) (base : Heap) (k : Nat) (x : Str) (ps : List Str) (sp : Sp) : Prop where
  ex : ∃ f fd, FnOkG P w K mg base k f fd ps sp ∧ Binds K fd ps [] ∧ PySem.W.keepIn K (.ref f) = true ∧ mg x = some (.ref f) ∧ ∃ o, K.lookup f = some o ∧ o.data = .func fd
section
variable {P : Program} {w : World} {K : PySem.W.Frag} {mg : Str → Option Value} {base : Heap}
end
structure ShowOk (d : PyData) : Prop where
  sh : d.showable = true
  nd : d.hasDict = false
  dp : d.depth ≤ 60
  sz : d.shown.length ≤ sizeLine
def cRepr (K : PySem.W.Frag) : List V → Hp → VK → Prop := fun vs H Q => ∃ (v : V) (d : PyData), vs = [v] ∧ Dp K H v d ∧ ShowOk d ∧ Q (.str d.shown) H
end L2
set_option Elab.async false
set_option linter.all false
set_option maxRecDepth 100000
namespace L2
open PySem PySem.Spec PyProof.Rows
section
variable {prog : Program} {w : World} {A : Around} {E : Value → Shared → Prop}
end
section
variable {X : Cx}
def gLstF (n : Nat) (t : TGs) : TG := fun v σ H Q => ∃ a xs, v = .ref a ∧ H a = some (.lst xs) ∧ xs.length = n ∧ t xs σ H Q
end
end L2
set_option Elab.async false
set_option linter.all false
set_option maxRecDepth 100000
namespace L2
open PySem PySem.Spec PyProof.Rows
def atM (A : List (List Int)) (i j : Nat) : Int := (A.getD i []).getD j 0
def prM (A B : List (List Int)) (t : Nat) : Int × Int := (atM A (t / A.length) (t % A.length), atM B (t / A.length) (t % A.length))
structure Dup (f : Nat → Int × Int) (N k t : Nat) : Prop where
  lt : k < t
  bd : t < N
  eq : f k = f t
  ne : ∀ k' t', k' < t' → t' < t → f k' ≠ f t'
def NoTwo (f : Nat → Int × Int) (N : Nat) : Prop := ∀ k t, k < t → t < N → f k ≠ f t
def ansD (n k t : Nat) : List Int := [((k / n : Nat) : Int), ((k % n : Nat) : Int), ((t / n : Nat) : Int), ((t % n : Nat) : Int)]
def Ans (A B : List (List Int)) (d : PyData) : Prop :=
  (A.length ≠ B.length ∧ d = .str "unlike") ∨ (A.length = B.length ∧ ((∃ k t, Dup (prM A B) (A.length * A.length) k t ∧ d = .tuple ((ansD A.length k t).map PyData.int)) ∨ (NoTwo (prM A B) (A.length * A.length) ∧ d = .none)))
structure Seen (f : Nat → Int × Int) (n t : Nat) (H : Hp) (fd : Addr) (kvs : List (List Key × V)) : Prop where
  own : H fd = some (.dT kvs)
  len : kvs.length ≤ t
  yes : ∀ s, s < t → ∃ p, valV kvs (kk2 (f s).1 (f s).2) = some (.ref p) ∧ H p = some (.tup [.int ((s / n : Nat) : Int), .int ((s % n : Nat) : Int)])
  no : ∀ x y, (∀ s, s < t → f s ≠ (x, y)) → valV kvs (kk2 x y) = none
  two : ∀ k' t', k' < t' → t' < t → f k' ≠ f t'
end L2
set_option Elab.async false
set_option linter.all false
set_option maxRecDepth 100000
namespace L2
open PySem PySem.Spec PyProof.Rows
structure ShB (m B : Nat) (d : PyData) : Prop where
  sh : d.showable = true
  nd : d.hasDict = false
  dp : d.depth ≤ m
  sz : d.shown.length ≤ B
structure Rect (n : Nat) (A : List (List Int)) : Prop where
  len : A.length = n
  row : ∀ r ∈ A, r.length = n
  rng : ∀ r ∈ A, ∀ z ∈ r, 0 ≤ z ∧ z < 100
end L2
set_option Elab.async false
set_option linter.all false
set_option maxRecDepth 100000
namespace L2
open PySem PySem.Spec PyProof.Rows
section
variable {K : PySem.W.Frag} {g g1 : TG} {tt tt1 : TT} {te : TE} {wi1 : TI} {vs vs1 : List Nat} {σ : St} {H1 : Hp} {D : Addr} {Qd : Hp → Prop}
end
end L2
set_option Elab.async false
set_option linter.all false
set_option maxRecDepth 100000
namespace L2
open PySem PySem.Spec PyProof.Rows
structure SqF (n : Nat) (f : Nat → Nat → Int) : Prop where
  rg : ∀ i j, i < n → j < n → 0 ≤ f i j ∧ f i j < (n : Int)
  ro : ∀ i j j', i < n → j < n → j' < n → f i j = f i j' → j = j'
  co : ∀ j i i', j < n → i < n → i' < n → f i j = f i' j → i = i'
def OrF (n : Nat) (f g : Nat → Nat → Int) : Prop := ∀ i j i' j', i < n → j < n → i' < n → j' < n → f i j = f i' j' → g i j = g i' j' → i = i' ∧ j = j'
def grid (n : Nat) (f : Nat → Nat → Int) : List (List Int) := (List.range n).map fun i => (List.range n).map (f i)
def crF (m : Nat) (f g : Nat → Nat → Int) (a t : Nat) : Int := f (a / m) (t / m) * (m : Int) + g (a % m) (t % m)
def crR (m : Nat) (u l : List Int) : List Int := u.flatMap fun x => l.map fun y => x * (m : Int) + y
def crM (A B : List (List Int)) : List (List Int) := A.flatMap fun u => B.map fun l => crR B.length u l
end L2
set_option Elab.async false
set_option linter.all false
set_option maxRecDepth 100000
namespace L2
open PySem PySem.Spec PyProof.Rows
def SqAt3 (H : Hp) (q : Addr) (ps : List Addr) (A : List (List Int)) : Prop := H q = some (.lst (ps.map V.ref)) ∧ Paired (LI H) ps A
structure Own3 (H1 H : Hp) (D : Addr) (qs : List Addr) (pss : List (List Addr)) (Ss : List (List (List Int))) : Prop where
  own : H D = some (.lst (qs.map V.ref))
  len1 : qs.length = Ss.length
  len2 : pss.length = Ss.length
  sq : ∀ (k : Nat) (q : Addr) (ps : List Addr) (A : List (List Int)), qs[k]? = some q → pss[k]? = some ps → Ss[k]? = some A → SqAt3 H q ps A
  nd : (D :: (qs ++ pss.flatten)).Nodup
  new : ∀ x ∈ D :: (qs ++ pss.flatten), H1 x = none
section
variable {H1 H : Hp} {D : Addr} {qs : List Addr} {pss : List (List Addr)} {Ss : List (List (List Int))}
end
section
variable {K : PySem.W.Frag} {g : TG} {tt : TT} {te : TE} {vs : List Nat} {σ : St} {H1 : Hp} {D : Addr} {Qd : Hp → Prop}
end
end L2
set_option Elab.async false
set_option linter.all false
set_option maxRecDepth 100000
namespace L2
open PySem PySem.Spec PyProof.Rows
def It3 (K : PySem.W.Frag) (a b c : Addr) : It :=
  ⟨fun i H => ∃ (xs ys us : List V) (x y u : V), SqL K H a xs ∧ SqL K H b ys ∧ SqL K H c us ∧ xs[i]? = some x ∧ ys[i]? = some y ∧ us[i]? = some u,
    fun i H v H' => ∃ T x y u, v = .ref T ∧ H T = none ∧ H' = upd H T (.tup [x, y, u]) ∧ (∀ xs, SqL K H a xs → xs[i]? = some x) ∧ (∀ ys, SqL K H b ys → ys[i]? = some y) ∧ ∀ us, SqL K H c us → us[i]? = some u,
    fun i H => ∃ xs : List V, SqL K H a xs ∧ xs.length ≤ i⟩
def iZip3 (K : PySem.W.Frag) (ta : TA) : TI := fun σ H R => ta σ H fun vs H1 => ∃ a b c xs ys us, vs = [.ref a, .ref b, .ref c] ∧ SqL K H1 a xs ∧ SqL K H1 b ys ∧ SqL K H1 c us ∧ R (It3 K a b c) H1
section
variable {K : PySem.W.Frag} {ta : TA} {σ : St} {H : Hp} {R : It → Hp → Prop}
end
end L2
set_option Elab.async false
set_option linter.all false
set_option maxRecDepth 100000
namespace My
open PySem PySem.Spec L2
local macro_rules | `(tactic| walk_at "rd1") => `(tactic| first
  | with_reducible refine r_seq ?_ | with_reducible refine r_asg ?_ | with_reducible refine r_name ?_ | with_reducible refine r_ret ?_ | with_reducible refine r_drop ?_ | with_reducible refine r_ifs ?_ | with_reducible refine r_next ?_
  | with_reducible refine r_var rfl ?_ | with_reducible refine r_c ?_ | with_reducible refine r_op ?_ | with_reducible refine r_I0 ?_
  | with_reducible refine r_test ?_ | with_reducible refine r_b ?_ | with_reducible refine r_k ?_ | with_reducible refine r_cons ?_ | with_reducible refine r_nil ?_ | with_reducible refine r_call ?_ | with_reducible refine r_cb ?_
  | with_reducible refine r_lst ?_ | with_reducible refine r_tup ?_ | with_reducible refine r_sub ?_ | with_reducible refine r_andV ?_ | with_reducible refine r_orV ?_ | with_reducible refine r_notV ?_
  | with_reducible refine r_and ?_ | with_reducible refine r_or ?_ | with_reducible refine r_not ?_ | with_reducible refine r_eqI ?_ | with_reducible refine r_neI ?_ | with_reducible refine r_aug rfl ?_ | with_reducible refine r_ipI ?_ | with_reducible refine r_un ?_
  | with_reducible refine r_bm ?_ | with_reducible refine r_bm0 ?_ | with_reducible refine r_yes ?_
  | with_reducible refine r_dnewT ?_ | with_reducible refine r_dget2 ?_ 
  | with_reducible refine r_U ?_ | with_reducible refine r_lit ?_
  | with_reducible refine r_fb ?_ | with_reducible refine r_m1 ?_ | with_reducible refine r_augS ?_ | with_reducible refine r_isNn ?_ | with_reducible refine r_notNn ?_ | with_reducible refine r_isNr ?_ | with_reducible refine r_notNr ?_ | with_reducible refine r_tru ?_ | with_reducible refine r_count ?_
  | with_reducible refine r_for ?_ | with_reducible refine r_dc ?_ | with_reducible refine r_lc ?_ | with_reducible refine r_sc ?_ | with_reducible refine r_zipN ?_ | with_reducible refine r_ifX ?_ | with_reducible refine r_zip3 ?_ | with_reducible refine r_rng1 ?_ | with_reducible refine r_rng2 ?_ | with_reducible refine r_ilist ?_ | with_reducible refine r_itup ?_ | with_reducible refine r_enum ?_
  | with_reducible refine r_sl ?_ | with_reducible refine r_nopart ?_ | with_reducible refine r_part ?_ | with_reducible refine r_int ?_ | with_reducible refine r_gcons ?_ | with_reducible refine r_gnil ?_ | with_reducible refine r_revT ?_
  | with_reducible refine r_intB (fun z hz z0 z1 => ?_) | with_reducible refine r_intI ?_ | with_reducible refine r_min2 ?_ | with_reducible refine r_max2 ?_ | with_reducible refine r_rng1V ?_ | with_reducible refine r_rng2V ?_
  | with_reducible refine r_dget ?_ | with_reducible refine r_disp ?_ | with_reducible refine r_pcons ?_ | with_reducible refine r_pnil ?_ | with_reducible refine r_enumT ?_ | with_reducible refine r_zip ?_ | with_reducible refine r_abs (fun z hz z0 => ?_)
  | with_reducible refine r_try ?_ | with_reducible refine r_try0 ?_ | with_reducible refine r_dropX ?_ | with_reducible refine r_setX ?_ | with_reducible refine r_callX ?_ | with_reducible refine r_methX ?_ | with_reducible refine r_raise ?_
  | with_reducible refine r_zipI ?_ | with_reducible refine r_zipT ?_ | with_reducible refine r_sfld ?_ | with_reducible refine r_fld ?_ | with_reducible refine r_meth ?_ | with_reducible refine r_make ?_ | with_reducible refine r_notC ?_ | with_reducible refine r_revS ?_ | with_reducible refine r_rev ?_ | with_reducible refine r_dputK ?_ | with_reducible refine r_chain4 ?_ | with_reducible refine r_chain3 ?_ | with_reducible refine r_chain ?_ | with_reducible refine r_din ?_ | with_reducible refine r_dnotin ?_ | with_reducible refine r_ifE ?_
  | ((with_reducible show cIsiR _ _ _ _ _); first | with_reducible refine r_itT (by first | assumption | exact upd_same) ?_ | with_reducible refine r_itL (by first | assumption | exact upd_same) ?_)
  | ((with_reducible show kDGet _ _ _ _); with_reducible refine pot_g (by first | assumption | exact upd_same) ?_) | ((with_reducible show kDGet _ _ _ _); with_reducible refine pot_s (by first | assumption | exact upd_same) ?_) | ((with_reducible show kDGet _ _ _ _); with_reducible refine pot_t (by first | assumption | exact upd_same) ?_)
  | ((with_reducible show kDPut _ _ _ _ _); with_reducible refine pot_pg (by first | assumption | exact upd_same) ?_) | ((with_reducible show kDPut _ _ _ _ _); with_reducible refine pot_pt (by first | assumption | exact upd_same) ?_)
  | with_reducible refine iteT ?_ | with_reducible refine iteF ?_ | with_reducible refine r_nf ?_ | with_reducible refine r_nt ?_
  | with_reducible refine r_ii ?_ | with_reducible refine r_ib ?_
  | ((with_reducible show rIxLF _ _ _ _); with_reducible refine r_ixL (by first | assumption | exact upd_same) rfl ?_)
  | ((with_reducible show rIxTF _ _ _ _); with_reducible refine r_ixT (by first | assumption | exact upd_same) rfl ?_)
  | ((with_reducible show rSetL _ _ _ _ _); with_reducible refine r_setL (by first | assumption | exact upd_same) rfl ?_)
  | ((with_reducible show cLen _ _ _); with_reducible refine r_len (by first | exact sqAt_lst (by assumption) | exact sqAt_tup (by assumption) | exact sqAt_lst upd_same | exact sqAt_tup upd_same) ?_)
  | ((with_reducible show rSlLF _ _ _ _ _); with_reducible refine r_slL (by first | assumption | exact upd_same) ?_)
  | ((with_reducible show gTupF _ _ _ _ _ _); with_reducible refine r_gtup (by first | assumption | exact upd_same) rfl ?_)
  | ((with_reducible show rI _ _ _ _ _ _); first | with_reducible refine r_mod (by omega) ?_ | with_reducible refine r_div (by omega) (by omega) ?_ | with_reducible refine r_mulL (by omega) (by omega) ?_ | with_reducible refine r_mulR (by omega) (by omega) ?_ | with_reducible refine r_pow (by omega) (by omega) (by decide) ?_))
local macro_rules | `(tactic| walk_at "rd") => `(tactic| repeat (first | walk_at "rd1" | (dsimp only; walk_at "rd1")))
def posL (ts b : List Int) : List Int := (rngV 0 ts.length).filter fun k => b.contains (ts.getD k.toNat 0)
def cutL (bs : List (List Int)) (z : Int) (ts : List Int) : List (List Int) := ((List.range bs.length).zip bs).flatMap fun p => if ((p.1 : Nat) : Int) = z then [] else [posL ts p.2]
theorem idx_get {ts : List Int} {i : Nat} {x : Int} (nd : ts.Nodup) (h : ts[i]? = some x) : ts.idxOf x = i := by
  have hi := (List.getElem?_eq_some_iff.mp h).1
  have hx := (List.getElem?_eq_some_iff.mp h).2
  have hm : x ∈ ts := List.mem_of_getElem? h
  have h2 := List.idxOf_lt_length_of_mem hm
  have h3 : ts[ts.idxOf x]? = some x := by rw [List.getElem?_eq_getElem h2, List.getElem_idxOf]
  exact (List.getElem?_inj h2 nd).mp (h3.trans h.symm)
theorem idx_some {ts : List Int} {x : Int} (hm : x ∈ ts) : ts[ts.idxOf x]? = some x ∧ ts.idxOf x < ts.length := by
  have h2 := List.idxOf_lt_length_of_mem hm
  exact ⟨by rw [List.getElem?_eq_getElem h2, List.getElem_idxOf], h2⟩
theorem lt_nodup {l : List Int} (h : l.Pairwise (· < ·)) : l.Nodup := h.imp fun z => Int.ne_of_lt z
theorem pos_eq {ts b : List Int} (ht : ts.Pairwise (· < ·)) (hb : b.Pairwise (· < ·)) : (b.filter fun t => ts.contains t).map (fun t => ((ts.idxOf t : Nat) : Int)) = posL ts b := by
  have nt := lt_nodup ht
  have p1 : ((b.filter fun t => ts.contains t).map (fun t => ((ts.idxOf t : Nat) : Int))).Pairwise (· < ·) := by
    rw [List.pairwise_map]
    refine List.Pairwise.imp_of_mem ?_ (hb.filter _)
    intro x y hx hy hxy
    have mx : x ∈ ts := by simpa using (List.mem_filter.mp hx).2
    have my : y ∈ ts := by simpa using (List.mem_filter.mp hy).2
    obtain ⟨e1, l1⟩ := idx_some mx
    obtain ⟨e2, l2⟩ := idx_some my
    by_cases c : ts.idxOf x < ts.idxOf y
    · omega
    · exfalso
      by_cases d : ts.idxOf x = ts.idxOf y
      · rw [d, e2] at e1
        have := Option.some.inj e1
        omega
      · have pw := List.pairwise_iff_getElem.mp ht (ts.idxOf y) (ts.idxOf x) l2 l1 (by omega)
        rw [List.getElem_idxOf, List.getElem_idxOf] at pw
        omega
  have p2 : (posL ts b).Pairwise (· < ·) := (rngV_lt 0 ts.length).filter _
  have mem : ∀ z, z ∈ ((b.filter fun t => ts.contains t).map (fun t => ((ts.idxOf t : Nat) : Int))) ↔ z ∈ posL ts b := by
    intro z
    unfold posL
    rw [List.mem_map, List.mem_filter, mem_rngV_iff]
    constructor
    · rintro ⟨t, ht', rfl⟩
      have mt : t ∈ ts := by simpa using (List.mem_filter.mp ht').2
      obtain ⟨e, l⟩ := idx_some mt
      refine ⟨by omega, ?_⟩
      rw [Int.toNat_natCast, List.getD_eq_getElem?_getD, e]
      have := (List.mem_filter.mp ht').1
      simpa using this
    · rintro ⟨rz, hz⟩
      have hl : z.toNat < ts.length := by omega
      refine ⟨ts.getD z.toNat 0, ?_, ?_⟩
      · rw [List.mem_filter]
        refine ⟨by simpa using hz, ?_⟩
        rw [List.getD_eq_getElem?_getD, List.getElem?_eq_getElem hl]
        simp
      · rw [List.getD_eq_getElem?_getD, List.getElem?_eq_getElem hl]
        have := idx_get nt (List.getElem?_eq_getElem hl)
        show ((ts.idxOf ts[z.toNat] : Nat) : Int) = z
        rw [this]
        omega
  have pm : ((b.filter fun t => ts.contains t).map (fun t => ((ts.idxOf t : Nat) : Int))).Perm (posL ts b) := (List.perm_ext_iff_of_nodup (lt_nodup p1) (lt_nodup p2)).mpr mem
  rw [isort_is pm (p1.imp fun h => Int.le_of_lt h), ← isort_is (List.Perm.refl _) (p2.imp fun h => Int.le_of_lt h)]
def spOutside : Sp := fun vs H Q _ => ∃ (m : Nat) (pb : Addr) (b : List Int), vs = [.int (m : Int), .ref pb] ∧ H pb = some (.tup (b.map V.int)) ∧ b.length ≤ 1000 ∧ m ≤ 1000 ∧ ∀ r H', H r = none → Same H H' → H' r = some (.lst ((compl m b).map V.int)) → Q (.ref r) H'
def spBlockAt (CB : Addr) : Sp := fun vs H Q E => ∃ (p l : Addr) (m z : Int) (bs : List (List Int)), vs = [.ref p, .int z] ∧ H p = some (.tup [.int m, .ref l]) ∧ Blks H l bs ∧ bs.length ≤ 1000 ∧
  (∀ (j : Nat) b pb, z = (j : Int) → bs[j]? = some b → H pb = some (.tup (b.map V.int)) → Q (.ref pb) H) ∧ (z < 0 ∨ (bs.length : Int) ≤ z → ∀ H', Same H H' → E (.ref CB) none H')
structure PlanC (H : Hp) (p l : Addr) (m : Nat) (bs : List (List Int)) : Prop where
  tup : H p = some (.tup [.int (m : Int), .ref l])
  blk : Blks H l bs
  few : bs.length ≤ 1000
  lt : ∀ b ∈ bs, b.Pairwise (· < ·)
  len : ∀ b ∈ bs, b.length ≤ 1000
  m : m ≤ 1000
theorem PlanC.same {H H' : Hp} {p l : Addr} {m : Nat} {bs : List (List Int)} (h : PlanC H p l m bs) (s : Same H H') : PlanC H' p l m bs := ⟨s _ _ h.tup, h.blk.same s, h.few, h.lt, h.len, h.m⟩
def spCutTo (CB : Addr) : Sp := fun vs H Q E => ∃ (p l t : Addr) (m : Nat) (z : Int) (bs : List (List Int)) (ts : List Int), vs = [.ref p, .int z, .ref t] ∧ PlanC H p l m bs ∧ H t = some (.lst (ts.map V.int)) ∧ ts.Pairwise (· < ·) ∧ ts.length ≤ 1000 ∧
  (ts ≠ [] → ∀ q l2 cs H', Same H H' → H l2 = none → H' q = some (.tup [.int (ts.length : Nat), .ref l2]) → Blks H' l2 cs → SortOf cs (cutL bs z ts) → Q (.ref q) H') ∧ (ts = [] → ∀ H', Same H H' → E (.ref CB) none H')
def spWithin (out : Bool) (CB : Addr) : Sp := fun vs H Q E => ∃ (p l : Addr) (m : Nat) (z : Int) (bs : List (List Int)), vs = [.ref p, .int z] ∧ PlanC H p l m bs ∧
  (∀ (j : Nat) b ts, z = (j : Int) → bs[j]? = some b → ts = (if out = true then compl m b else b) → (ts ≠ [] → ∀ q l2 cs H', Same H H' → H l2 = none → H' q = some (.tup [.int (ts.length : Nat), .ref l2]) → Blks H' l2 cs → SortOf cs (cutL bs z ts) → Q (.ref q) H') ∧ (ts = [] → ∀ H', Same H H' → E (.ref CB) none H')) ∧
  (z < 0 ∨ (bs.length : Int) ≤ z → ∀ H', Same H H' → E (.ref CB) none H')
section
variable {P : Program} {w : World} {K : PySem.W.Frag} {mg : Str → Option Value} {base : Heap}
structure TxOutside (mg : Str → Option Value) : Prop where
  set : mg "set" = none
  range : mg "range" = none
abbrev sThingsOutside : Stmt := top 21
theorem scThingsOutside : FnScope ["many", "block", "inside", "thing"] ["many", "block"] (defScope sThingsOutside) := ⟨rfl, rfl, rfl, by decide +kernel, rfl, by decide +kernel, by decide +kernel⟩
theorem has_outside (F : FunAt K mg "things_outside" sThingsOutside ["many", "block"]) (T : TxOutside mg) : Has P w K mg base 1 "things_outside" ["many", "block"] spOutside := by
  refine F.has scThingsOutside (fun vs H Q E h => ?_) (fun f cdv A outer s H vs Q E hr h => ?_)
  · obtain ⟨m, pb, b, rfl, _⟩ := h
    rfl
  obtain ⟨m, pb, b, rfl, hb, lb, lm, kk⟩ := h
  refine ⟨_, (pss_cons (ps_set (i := 2) scThingsOutside.nd rfl (Or.inr rfl) (pe_callTy (k_setT rfl) (by rfl) T.set (by decide +kernel) (pa_cons (pv 1) pa_nil)))
    (pss_one (ps_ret (pe_lc (own := [("thing", 3)]) (g := gName 3) (by rfl) scThingsOutside.nd (pi_range1 (by rfl) T.range (pa_cons (pv 0) pa_nil)) (blkOk_by (own := [("thing", 3)]) (N := ["many", "block", "inside", "thing"]) (sc := defScope sThingsOutside) (by decide +kernel)) (fun _ _ _ _ _ => (pg_name (i := 3) scThingsOutside.nd rfl (Or.inl rfl))) (fun _ _ _ _ _ => pts_one (pt_cmpR op_notInS (pv 3) (pv 2) rfl)) (fun _ _ _ _ _ => by exact (pv 3)))))), ?_⟩
  walk_at "rd"
  refine ⟨pb, b, rfl, hb, lb, fun p1 H1 hp1 s1 e1 => ?_⟩
  walk_at "rd"
  refine ⟨(m : Int), rfl, by omega, by omega, ?_⟩
  rw [show ((m : Int)).toNat = m by omega]
  refine fun D hD => lcm_range hD eInt (lo := 0) (n := m) (fun x => if (!b.contains x) = true then [x] else []) (fun _ => len_if _ _) (by omega) (fun k H2 Qe Qn hk s2 hacc ke kn => ?_) (fun H2 ws s2 eD pr => ?_)
  · refine r_name ⟨rfl, ?_⟩
    walk_at "rd"
    refine ⟨_, p1, _, _, rfl, rfl, s2 _ _ e1, ?_⟩
    cases c : b.contains (0 + (k : Int)) with
    | true =>
      rw [c] at kn
      refine ⟨false, rfl, ?_⟩
      walk_at "rd"
      exact kn _ (Same.refl _) rfl
    | false =>
      rw [c] at ke
      refine ⟨true, rfl, ?_⟩
      walk_at "rd"
      exact ke _ _ _ (Same.refl _) rfl rfl
  rw [show (fun x => if (!b.contains x) = true then [x] else []) = (fun x => if (!b.contains x) = true then [id x] else []) from rfl, flat_ifs (fun x => !b.contains x) id, List.map_id] at pr
  have ew := Pd.ints pr
  subst ew
  walk_at "rd"
  exact kk D H2 (s1.free hD) (s1.trans s2) eD
structure TxBlockAt (mg : Str → Option Value) (K : PySem.W.Frag) (CB : Addr) : Prop where
  len : mg "len" = none
  NoBlock : XCls K mg "NoBlock" CB
abbrev sBlockAt : Stmt := top 26
theorem scBlockAt : FnScope ["plan", "place"] ["plan", "place"] (defScope sBlockAt) := ⟨rfl, rfl, rfl, by decide +kernel, rfl, by decide +kernel, by decide +kernel⟩
theorem has_blockat {CB : Addr} (F : FunAt K mg "block_at" sBlockAt ["plan", "place"]) (T : TxBlockAt mg K CB) : HasX P w K mg base 1 "block_at" ["plan", "place"] (spBlockAt CB) := by
  refine F.hasX scBlockAt (fun vs H Q E h => ?_) (fun f cdv A0 outer s H vs Q E hr h => ?_)
  · obtain ⟨p, l, m, z, bs, rfl, _⟩ := h
    rfl
  obtain ⟨p, l, m, z, bs, rfl, hp, ⟨ps, el, tu⟩, fb, kq, ke⟩ := h
  refine ⟨_, (pss_cons (ps_if (PW.pt (pw_or (pt_cmpR op_lt (pv 1) pe_int (nomark _)) (pw_or1 (pt_cmpR op_ge (pv 1) (pe_callB k_len (by rfl) T.len (by decide +kernel) (pa_cons (pe_ix ix_tupF (pv 0) pe_int (fun _ _ => rfl)) pa_nil)) (nomark _)))))
    (pss_one (ps_raise raises rfl T.NoBlock (by rfl) (pa_cons pe_str pa_nil)))
    pss_nil)
    (pss_one (ps_ret (pe_ix ix_listF (pe_ix ix_tupF (pv 0) pe_int (fun _ _ => rfl)) (pv 1) (fun _ _ => rfl))))), ?_⟩
  have lps : ps.length = bs.length := tu.1
  walk_at "rd"
  refine r_if (fun c => ?_) (fun c => ?_)
  · walk_at "rd"
    exact ⟨by show 1 ≤ sizeLine; decide, ke (.inl c) _ (Same.refl _)⟩
  walk_at "rd"
  rw [List.length_map, lps]
  refine r_if (fun c2 => ?_) (fun c2 => ?_)
  · walk_at "rd"
    exact ⟨by show 1 ≤ sizeLine; decide, ke (.inr c2) _ (Same.refl _)⟩
  walk_at "rd"
  obtain ⟨j, rfl⟩ : ∃ j : Nat, z = (j : Int) := ⟨z.toNat, by omega⟩
  have hj : j < ps.length := by omega
  have hjb : j < bs.length := by omega
  have ep := tu.2 j _ _ (List.getElem?_eq_getElem hj) (List.getElem?_eq_getElem hjb)
  refine r_ixL el (at_of (j := j) rfl (by rw [List.getElem?_map, List.getElem?_eq_getElem hj]; rfl)) ?_
  exact kq j _ _ rfl (List.getElem?_eq_getElem hjb) ep
structure TxCutTo (mg : Str → Option Value) (K : PySem.W.Frag) (CB : Addr) : Prop where
  len : mg "len" = none
  enumerate : mg "enumerate" = none
  tuple : mg "tuple" = none
  sorted : mg "sorted" = none
  NoBlock : XCls K mg "NoBlock" CB
abbrev sCutTo : Stmt := top 27
theorem scCutTo : FnScope ["plan", "place", "things", "numbers", "blocks", "number", "block", "thing"] ["plan", "place", "things"] (defScope sCutTo) := ⟨rfl, rfl, rfl, by decide +kernel, rfl, by decide +kernel, by decide +kernel⟩
set_option maxHeartbeats 2000000 in
theorem has_cutto {CB : Addr} (F : FunAt K mg "cut_to" sCutTo ["plan", "place", "things"]) (T : TxCutTo mg K CB) : HasX P w K mg base 1 "cut_to" ["plan", "place", "things"] (spCutTo CB) := by
  refine F.hasX scCutTo (fun vs H Q E h => ?_) (fun f cdv A0 outer s H vs Q E hr h => ?_)
  · obtain ⟨p, l, t, m, z, bs, ts, rfl, _⟩ := h
    rfl
  obtain ⟨p, l, t, m, z, bs, ts, rfl, PC, et, lt, lts, kq, ke⟩ := h
  refine ⟨_, (pss_cons (ps_if (pt_not (pt_tru (pv 2) (by intro _; rfl)))
    (pss_one (ps_raise raises rfl T.NoBlock (by rfl) (pa_cons pe_str pa_nil)))
    pss_nil)
    (pss_cons (ps_set (i := 3) scCutTo.nd rfl (Or.inr rfl) (pe_dc (own := [("number", 5), ("thing", 7)])  (hu1 hr.units) (by rfl) scCutTo.nd (pi_enum (by rfl) T.enumerate (pa_cons (pv 2) pa_nil)) (blkOk_by (own := [("number", 5), ("thing", 7)]) (N := ["plan", "place", "things", "numbers", "blocks", "number", "block", "thing"]) (sc := defScope sCutTo) (by decide +kernel)) (fun _ _ _ _ _ => (pg_tupF (n := 2) (by rfl) (pgs_cons (pg_name (i := 5) scCutTo.nd rfl (Or.inl rfl)) (pgs_cons (pg_name (i := 7) scCutTo.nd rfl (Or.inl rfl)) pgs_nil)))) (fun _ _ _ _ _ => pts_nil) (fun _ _ _ _ _ => by exact (pv 7)) (fun _ _ _ _ _ => by exact (pv 5))))
    (pss_cons (ps_set (i := 4) scCutTo.nd rfl (Or.inl rfl) (pe_lst pa_nil))
    (pss_cons (ps_for PassesOwn.leaving rfl (pi_enum (by rfl) T.enumerate (pa_cons (pe_ix ix_tupF (pv 0) pe_int (fun _ _ => rfl)) pa_nil)) (pg_tupF (n := 2) (by rfl) (pgs_cons (pg_name (i := 5) scCutTo.nd rfl (Or.inl rfl)) (pgs_cons (pg_name (i := 6) scCutTo.nd rfl (Or.inl rfl)) pgs_nil)))
    (pss_one (ps_if (pt_cmpR op_ne (pv 5) (pv 1) (nomark _))
      (pss_one (ps_expr (pe_bm PySem.F.plainAttrs_list PySem.F.slot_list_append PySem.F.type_list_append mt_append (pv 4) (pa_cons (pe_callTy k_tuple (by rfl) T.tuple (by decide +kernel) (pa_cons (pe_lc (own := [("thing", 7)]) (g := gName 7) (by rfl) scCutTo.nd (pi_tup (pv 6)) (blkOk_by (own := [("thing", 7)]) (N := ["plan", "place", "things", "numbers", "blocks", "number", "block", "thing"]) (sc := defScope sCutTo) (by decide +kernel)) (fun _ _ _ _ _ => (pg_name (i := 7) scCutTo.nd rfl (Or.inl rfl))) (fun _ _ _ _ _ => pts_one (pt_cmp (pc_din (hu1 hr.units) (pv 7) (pv 3)))) (fun _ _ _ _ _ => by exact (pe_dget (hu1 hr.units) (pv 3) (pv 7) (fun _ _ => rfl)))) pa_nil)) pa_nil))))
      pss_nil)))
    (pss_one (ps_ret (pe_tup (pa_cons (pe_callB k_len (by rfl) T.len (by decide +kernel) (pa_cons (pv 2) pa_nil)) (pa_cons (pe_callB (k_sortN hr.units) (by rfl) T.sorted (by decide +kernel) (pa_cons (pv 4) pa_nil)) pa_nil))))))))), ?_⟩
  obtain ⟨ps, el, tu⟩ := id PC.blk
  have lps : ps.length = bs.length := tu.1
  have fb := PC.few
  walk_at "rd"
  refine r_truL et ?_
  cases ts with
  | nil =>
    walk_at "rd"
    exact ⟨by show 1 ≤ sizeLine; decide, ke rfl _ (Same.refl _)⟩
  | cons t0 tr =>
  have hne : t0 :: tr ≠ [] := fun z => by cases z
  obtain ⟨ts, ets⟩ : ∃ ts, ts = t0 :: tr := ⟨_, rfl⟩
  have e0 : (List.map V.int (t0 :: tr)).isEmpty = false := rfl
  rw [e0]
  rw [← ets] at et lt lts kq hne
  clear ets e0
  refine iteF ?_
  walk_at "rd"
  refine ⟨t, _, rfl, SqL.of et, ?_⟩
  refine fun D hD => dcm_enum hD (lt_nodup lt) (by omega) (fun H1 s1 => s1 _ _ et) (fun i x T1 H1 R Rn hx s1 eT k => ?_) (fun H1 s1 eD => ?_)
  · walk_at "rd"
    refine ⟨rfl, ?_⟩
    walk_at "rd"
    exact k
  walk_at "rd"
  refine ⟨Nat.le_of_ble_eq_true rfl, ?_⟩
  intro l2 hl2
  obtain ⟨H2, s2, e2, eq_l2⟩ : ∃ Hx, Same _ Hx ∧ Hx l2 = some _ ∧ upd _ l2 _ = Hx := ⟨_, Same.new hl2 _, upd_same, rfl⟩
  rw [eq_l2]; clear eq_l2
  walk_at "rd"
  refine r_ixT (s2 _ _ (s1 _ _ PC.tup)) rfl ?_
  have s02 := s1.trans s2
  have h20 : H l2 = none := s1.free hl2
  refine ⟨l, _, rfl, SqL.of (s02 _ _ el), ?_⟩
  have eD2 := s2 _ _ eD
  have Dl2 : D ≠ l2 := fun z => by subst z; rw [eD] at hl2; cases hl2
  have zz : ∀ {i : Nat} {b : List Int}, bs[i]? = some b → ((List.range bs.length).zip bs)[i]? = some (i, b) := fun {i b} h => by
    rw [List.getElem?_zip_eq_some]
    exact ⟨List.getElem?_range (List.getElem?_eq_some_iff.mp h).1, h⟩
  refine for_enum (xs := ps.map V.ref) (fun i σ H3 => ∃ (v5 v6 : Option V) (qs : List Addr), σ = [some (.ref p), some (.int z), some (.ref t), some (.ref D), some (.ref l2), v5, v6, none] ∧ Same H H3 ∧ H3 D = some (.dK (numK 0 ts)) ∧ H3 l2 = some (.lst (qs.map V.ref)) ∧ TupsAt H3 qs ((((List.range bs.length).zip bs).take i).flatMap fun p => if ((p.1 : Nat) : Int) = z then [] else [posL ts p.2]) ∧ qs.length ≤ i) ?_ ?_ ?_ ?_
  · exact ⟨_, _, [], rfl, s02, eD2, e2, ⟨rfl, fun _ _ _ h => by cases h⟩, Nat.le_refl _⟩
  · rintro i σ H3 _ ⟨_, _, _, _, s3, _⟩
    exact s3 _ _ el
  · rintro i y σ H3 T1 hy ⟨v5, v6, qs, rfl, s3, e3D, e3, tq, lq⟩ hT1
    obtain ⟨pb, rfl, hpb⟩ := nth_refs hy
    obtain ⟨b, hb, epb⟩ := tu.get hpb
    have hi := (List.getElem?_eq_some_iff.mp hpb).1
    have hbm := List.mem_of_getElem? hb
    obtain ⟨H4, s4, eT, eq4⟩ : ∃ Hx, Same H3 Hx ∧ Hx T1 = some (.tup [.int (i : Nat), .ref pb]) ∧ upd H3 T1 (.tup [.int (i : Nat), .ref pb]) = Hx := ⟨_, Same.new hT1 _, upd_same, rfl⟩
    rw [eq4]; clear eq4
    have s34 := s3.trans s4
    have ef : (((List.range bs.length).zip bs).take (i + 1)).flatMap (fun p => if ((p.1 : Nat) : Int) = z then [] else [posL ts p.2]) = (((List.range bs.length).zip bs).take i).flatMap (fun p => if ((p.1 : Nat) : Int) = z then [] else [posL ts p.2]) ++ (if ((i : Nat) : Int) = z then [] else [posL ts b]) := by
      rw [take_snoc (zz hb), flat_snoc]
    walk_at "rd"
    by_cases c : ((i : Nat) : Int) = z
    · have c' := c
      rw [decide_eq_true c]
      refine iteF ?_
      walk_at "rd"
      exact ⟨_, _, qs, rfl, s34, s4 _ _ e3D, s4 _ _ e3, by rw [ef, if_pos c', List.append_nil]; exact tq.same s4, by omega⟩
    · rw [decide_eq_false c]
      refine iteT ?_
      walk_at "rd"
      refine ⟨.inl ⟨rfl, _, SqL.of (s4 _ _ e3)⟩, ?_⟩
      walk_at "rd"
      refine ⟨pb, rfl, ⟨_, SqT.of (s34 _ _ epb)⟩, ?_⟩
      refine fun D5 hD5 => lcm_tup hD5 eInt (f := V.int) (l := b) (fun x => if ts.contains x = true then [((ts.idxOf x : Nat) : Int)] else []) (fun x => by split <;> simp) (by have := PC.len b hbm; omega) (fun H s => SqT.of (s _ _ (s34 _ _ epb))) (fun j x H5 Qe Qn hx s5 hacc ke' kn => ?_) (fun H5 ws s5 eD5 pr => ?_)
      · have eD5' := s5 _ _ (s4 _ _ e3D)
        have vn := valV_num x ts 0
        refine r_name ⟨rfl, ?_⟩
        walk_at "rd"
        refine ⟨D, _, rfl, DGet.k (k := .inl x) eD5', ?_⟩
        rw [vn]
        by_cases m : x ∈ ts
        · rw [if_pos m]
          refine ⟨true, rfl, ?_⟩
          refine iteT ?_
          walk_at "rd"
          refine ⟨D, _, rfl, by have := DGet.k (k := .inl x) eD5'; rw [vn, if_pos m] at this; exact this, ?_⟩
          exact ke' _ _ _ (Same.refl _) (by rw [if_pos (by simpa using m)]) (by show V.int _ = V.int _; rw [Nat.zero_add])
        · rw [if_neg m]
          refine ⟨false, rfl, ?_⟩
          refine iteF ?_
          walk_at "rd"
          exact kn _ (Same.refl _) (by rw [if_neg (by simpa using m)])
      · rw [flat_ifs (fun x => ts.contains x) (fun x => ((ts.idxOf x : Nat) : Int)), pos_eq lt (PC.lt b hbm)] at pr
        have ew := Pd.ints pr
        subst ew
        walk_at "rd"
        refine r_tuple eD5 ?_
        intro tp htp
        obtain ⟨H6, s6, e6, eq_tp⟩ : ∃ Hx, Same _ Hx ∧ Hx tp = some _ ∧ upd _ tp _ = Hx := ⟨_, Same.new htp _, upd_same, rfl⟩
        rw [eq_tp]; clear eq_tp
        have s46 := s5.trans s6
        have e36 := s46 _ _ (s4 _ _ e3)
        walk_at "rd"
        refine r_append e36 (by rw [List.length_map]; show _ < 16777216; omega) ?_
        walk_at "rd"
        refine ⟨_, _, qs ++ [tp], rfl, (s34.trans s46).late h20 _, by rw [upd_ne Dl2]; exact s46 _ _ (s4 _ _ e3D), by rw [upd_same, List.map_append]; rfl, ?_, by rw [List.length_append, List.length_singleton]; omega⟩
        rw [ef, if_neg c]
        exact ((tq.same (s4.trans s46)).snoc e6).late e36 _
  · rintro σ H3 ⟨v5, v6, qs, rfl, s3, e3D, e3, tq, lq⟩
    have ez : ((List.range bs.length).zip bs).take (ps.map V.ref).length = (List.range bs.length).zip bs := List.take_of_length_le (by rw [List.length_zip, List.length_map]; omega)
    rw [ez] at tq
    rw [List.length_map] at lq
    walk_at "rd"
    refine r_len (sqAt_lst (s3 _ _ et)) ?_
    walk_at "rd"
    have lc : (cutL bs z ts).length = qs.length := tq.1.symm
    refine ⟨l2, cutL bs z ts, rfl, ⟨qs, e3, tq⟩, by omega, fun cs q2 H4 pm pw hq2 s4 B4 => ?_⟩
    walk_at "rd"
    refine ⟨Nat.le_of_ble_eq_true rfl, ?_⟩
    intro q hq
    obtain ⟨H5, s5, e5, eq_q⟩ : ∃ Hx, Same _ Hx ∧ Hx q = some _ ∧ upd _ q _ = Hx := ⟨_, Same.new hq _, upd_same, rfl⟩
    rw [eq_q]; clear eq_q
    rw [List.length_map] at e5
    exact kq hne q q2 cs H5 (s3.trans (s4.trans s5)) (s3.free hq2) e5 (B4.same s5) ⟨pm, pw⟩
structure TxWithin (P : Program) (w : World) (K : PySem.W.Frag) (mg : Str → Option Value) (base : Heap) (CB : Addr) : Prop where
  list : mg "list" = none
  block_at : HasX P w K mg base 1 "block_at" ["plan", "place"] (spBlockAt CB)
  cut_to : HasX P w K mg base 1 "cut_to" ["plan", "place", "things"] (spCutTo CB)
abbrev sWithin : Stmt := top 24
theorem scWithin : FnScope ["plan", "place"] ["plan", "place"] (defScope sWithin) := ⟨rfl, rfl, rfl, by decide +kernel, rfl, by decide +kernel, by decide +kernel⟩
theorem has_within {CB : Addr} (F : FunAt K mg "within" sWithin ["plan", "place"]) (T : TxWithin P w K mg base CB) : HasX P w K mg base 2 "within" ["plan", "place"] (spWithin false CB) := by
  refine F.hasX scWithin (fun vs H Q E h => ?_) (fun f cdv A0 outer s H vs Q E hr h => ?_)
  · obtain ⟨p, l, m, z, bs, rfl, _⟩ := h
    rfl
  obtain ⟨p, l, m, z, bs, rfl, PC, kq, ke⟩ := h
  refine ⟨_, (pss_one (ps_ret (pcallX raises T.cut_to hr (by decide) (by rfl) (pa_cons (pv 0) (pa_cons (pv 1) (pa_cons (pe_callTy k_list (by rfl) T.list (by decide +kernel) (pa_cons (pcallX raises T.block_at hr (by decide) (by rfl) (pa_cons (pv 0) (pa_cons (pv 1) pa_nil))) pa_nil)) pa_nil)))))), ?_⟩
  walk_at "rd"
  refine ⟨p, l, (m : Int), z, bs, rfl, PC.tup, PC.blk, PC.few, fun j b pb hz hb epb => ?_, ke⟩
  have hbm := List.mem_of_getElem? hb
  obtain ⟨k1, k2⟩ := kq j b b hz hb rfl
  walk_at "rd"
  refine r_list (sqAt_tup epb) ?_
  intro t ht
  obtain ⟨H1, s1, e1, eq_t⟩ : ∃ Hx, Same _ Hx ∧ Hx t = some _ ∧ upd _ t _ = Hx := ⟨_, Same.new ht _, upd_same, rfl⟩
  rw [eq_t]; clear eq_t
  refine ⟨p, l, t, m, z, bs, b, rfl, PC.same s1, e1, PC.lt b hbm, PC.len b hbm, fun ne q l2 cs H2 s2 n2 e2 B2 S2 => k1 ne q l2 cs H2 (s1.trans s2) (s1.free n2) e2 B2 S2, fun e H2 s2 => k2 e H2 (s1.trans s2)⟩
structure TxWithout (P : Program) (w : World) (K : PySem.W.Frag) (mg : Str → Option Value) (base : Heap) (CB : Addr) : Prop where
  block_at : HasX P w K mg base 1 "block_at" ["plan", "place"] (spBlockAt CB)
  things_outside : Has P w K mg base 1 "things_outside" ["many", "block"] spOutside
  cut_to : HasX P w K mg base 1 "cut_to" ["plan", "place", "things"] (spCutTo CB)
abbrev sWithout : Stmt := top 25
theorem scWithout : FnScope ["plan", "place"] ["plan", "place"] (defScope sWithout) := ⟨rfl, rfl, rfl, by decide +kernel, rfl, by decide +kernel, by decide +kernel⟩
theorem has_without {CB : Addr} (F : FunAt K mg "without" sWithout ["plan", "place"]) (T : TxWithout P w K mg base CB) : HasX P w K mg base 2 "without" ["plan", "place"] (spWithin true CB) := by
  refine F.hasX scWithout (fun vs H Q E h => ?_) (fun f cdv A0 outer s H vs Q E hr h => ?_)
  · obtain ⟨p, l, m, z, bs, rfl, _⟩ := h
    rfl
  obtain ⟨p, l, m, z, bs, rfl, PC, kq, ke⟩ := h
  refine ⟨_, (pss_one (ps_ret (pcallX raises T.cut_to hr (by decide) (by rfl) (pa_cons (pv 0) (pa_cons (pv 1) (pa_cons (pcall T.things_outside hr (by decide) (by rfl) (pa_cons (pe_ix ix_tupF (pv 0) pe_int (fun _ _ => rfl)) (pa_cons (pcallX raises T.block_at hr (by decide) (by rfl) (pa_cons (pv 0) (pa_cons (pv 1) pa_nil))) pa_nil))) pa_nil)))))), ?_⟩
  have m1 := PC.m
  walk_at "rd"
  refine r_ixT PC.tup rfl ?_
  walk_at "rd"
  refine ⟨p, l, (m : Int), z, bs, rfl, PC.tup, PC.blk, PC.few, fun j b pb hz hb epb => ?_, ke⟩
  have hbm := List.mem_of_getElem? hb
  obtain ⟨k1, k2⟩ := kq j b (compl m b) hz hb rfl
  walk_at "rd"
  refine ⟨m, pb, b, rfl, epb, PC.len b hbm, m1, fun t H1 ht s1 e1 => ?_⟩
  have pc : (compl m b).Pairwise (· < ·) := (rngV_lt 0 m).filter _
  have lc : (compl m b).length ≤ 1000 := Nat.le_trans (List.length_filter_le _ _) (by rw [rngV_length]; exact m1)
  walk_at "rd"
  refine ⟨p, l, t, m, z, bs, compl m b, rfl, PC.same s1, e1, pc, lc, fun ne q l2 cs H2 s2 n2 e2 B2 S2 => k1 ne q l2 cs H2 (s1.trans s2) (s1.free n2) e2 B2 S2, fun e H2 s2 => k2 e H2 (s1.trans s2)⟩
end
end My
set_option Elab.async false
set_option linter.all false
set_option maxRecDepth 100000
namespace My
open PySem PySem.Spec L2
local macro_rules | `(tactic| walk_at "rd1") => `(tactic| first
  | with_reducible refine r_seq ?_ | with_reducible refine r_asg ?_ | with_reducible refine r_name ?_ | with_reducible refine r_ret ?_ | with_reducible refine r_drop ?_ | with_reducible refine r_ifs ?_ | with_reducible refine r_next ?_
  | with_reducible refine r_var rfl ?_ | with_reducible refine r_c ?_ | with_reducible refine r_op ?_ | with_reducible refine r_I0 ?_
  | with_reducible refine r_test ?_ | with_reducible refine r_b ?_ | with_reducible refine r_k ?_ | with_reducible refine r_cons ?_ | with_reducible refine r_nil ?_ | with_reducible refine r_call ?_ | with_reducible refine r_cb ?_
  | with_reducible refine r_lst ?_ | with_reducible refine r_tup ?_ | with_reducible refine r_sub ?_ | with_reducible refine r_andV ?_ | with_reducible refine r_orV ?_ | with_reducible refine r_notV ?_
  | with_reducible refine r_and ?_ | with_reducible refine r_or ?_ | with_reducible refine r_not ?_ | with_reducible refine r_eqI ?_ | with_reducible refine r_neI ?_ | with_reducible refine r_aug rfl ?_ | with_reducible refine r_ipI ?_ | with_reducible refine r_un ?_
  | with_reducible refine r_bm ?_ | with_reducible refine r_bm0 ?_ | with_reducible refine r_yes ?_
  | with_reducible refine r_dnewT ?_ | with_reducible refine r_dget2 ?_ 
  | with_reducible refine r_U ?_ | with_reducible refine r_lit ?_
  | with_reducible refine r_fb ?_ | with_reducible refine r_m1 ?_ | with_reducible refine r_augS ?_ | with_reducible refine r_isNn ?_ | with_reducible refine r_notNn ?_ | with_reducible refine r_isNr ?_ | with_reducible refine r_notNr ?_ | with_reducible refine r_tru ?_ | with_reducible refine r_count ?_
  | with_reducible refine r_for ?_ | with_reducible refine r_dc ?_ | with_reducible refine r_lc ?_ | with_reducible refine r_sc ?_ | with_reducible refine r_zipN ?_ | with_reducible refine r_ifX ?_ | with_reducible refine r_zip3 ?_ | with_reducible refine r_rng1 ?_ | with_reducible refine r_rng2 ?_ | with_reducible refine r_ilist ?_ | with_reducible refine r_itup ?_ | with_reducible refine r_enum ?_
  | with_reducible refine r_sl ?_ | with_reducible refine r_nopart ?_ | with_reducible refine r_part ?_ | with_reducible refine r_int ?_ | with_reducible refine r_gcons ?_ | with_reducible refine r_gnil ?_ | with_reducible refine r_revT ?_
  | with_reducible refine r_intB (fun z hz z0 z1 => ?_) | with_reducible refine r_intI ?_ | with_reducible refine r_min2 ?_ | with_reducible refine r_max2 ?_ | with_reducible refine r_rng1V ?_ | with_reducible refine r_rng2V ?_
  | with_reducible refine r_dget ?_ | with_reducible refine r_disp ?_ | with_reducible refine r_pcons ?_ | with_reducible refine r_pnil ?_ | with_reducible refine r_enumT ?_ | with_reducible refine r_zip ?_ | with_reducible refine r_abs (fun z hz z0 => ?_)
  | with_reducible refine r_try ?_ | with_reducible refine r_try0 ?_ | with_reducible refine r_dropX ?_ | with_reducible refine r_setX ?_ | with_reducible refine r_callX ?_ | with_reducible refine r_methX ?_ | with_reducible refine r_raise ?_
  | with_reducible refine r_zipI ?_ | with_reducible refine r_zipT ?_ | with_reducible refine r_sfld ?_ | with_reducible refine r_fld ?_ | with_reducible refine r_meth ?_ | with_reducible refine r_make ?_ | with_reducible refine r_notC ?_ | with_reducible refine r_revS ?_ | with_reducible refine r_rev ?_ | with_reducible refine r_dputK ?_ | with_reducible refine r_chain4 ?_ | with_reducible refine r_chain3 ?_ | with_reducible refine r_chain ?_ | with_reducible refine r_din ?_ | with_reducible refine r_dnotin ?_ | with_reducible refine r_ifE ?_
  | ((with_reducible show cIsiR _ _ _ _ _); first | with_reducible refine r_itT (by first | assumption | exact upd_same) ?_ | with_reducible refine r_itL (by first | assumption | exact upd_same) ?_)
  | ((with_reducible show kDGet _ _ _ _); with_reducible refine pot_g (by first | assumption | exact upd_same) ?_) | ((with_reducible show kDGet _ _ _ _); with_reducible refine pot_s (by first | assumption | exact upd_same) ?_) | ((with_reducible show kDGet _ _ _ _); with_reducible refine pot_t (by first | assumption | exact upd_same) ?_)
  | ((with_reducible show kDPut _ _ _ _ _); with_reducible refine pot_pg (by first | assumption | exact upd_same) ?_) | ((with_reducible show kDPut _ _ _ _ _); with_reducible refine pot_pt (by first | assumption | exact upd_same) ?_)
  | with_reducible refine iteT ?_ | with_reducible refine iteF ?_ | with_reducible refine r_nf ?_ | with_reducible refine r_nt ?_
  | with_reducible refine r_ii ?_ | with_reducible refine r_ib ?_
  | ((with_reducible show rIxLF _ _ _ _); with_reducible refine r_ixL (by first | assumption | exact upd_same) rfl ?_)
  | ((with_reducible show rIxTF _ _ _ _); with_reducible refine r_ixT (by first | assumption | exact upd_same) rfl ?_)
  | ((with_reducible show rSetL _ _ _ _ _); with_reducible refine r_setL (by first | assumption | exact upd_same) rfl ?_)
  | ((with_reducible show cLen _ _ _); with_reducible refine r_len (by first | exact sqAt_lst (by assumption) | exact sqAt_tup (by assumption) | exact sqAt_lst upd_same | exact sqAt_tup upd_same) ?_)
  | ((with_reducible show rSlLF _ _ _ _ _); with_reducible refine r_slL (by first | assumption | exact upd_same) ?_)
  | ((with_reducible show gTupF _ _ _ _ _ _); with_reducible refine r_gtup (by first | assumption | exact upd_same) rfl ?_)
  | ((with_reducible show rI _ _ _ _ _ _); first | with_reducible refine r_mod (by omega) ?_ | with_reducible refine r_div (by omega) (by omega) ?_ | with_reducible refine r_mulL (by omega) (by omega) ?_ | with_reducible refine r_mulR (by omega) (by omega) ?_ | with_reducible refine r_pow (by omega) (by omega) (by decide) ?_))
local macro_rules | `(tactic| walk_at "rd") => `(tactic| repeat (first | walk_at "rd1" | (dsimp only; walk_at "rd1")))
def spMovedX (CT : Addr) : Sp := fun vs H Q E => ∃ (p l r : Addr) (m : Nat) (bs : List (List Int)) (o : List Int), vs = [.ref p, .ref r] ∧ H p = some (.tup [.int (m : Int), .ref l]) ∧ Blks H l bs ∧ H r = some (.lst (o.map V.int)) ∧ (∀ b ∈ bs, Rise2 m b) ∧ bs.length ≤ 200 ∧ m ≤ 40 ∧ o.length ≤ 100 ∧
  ((o.length = m ∧ isort o = rngV 0 m) → ∀ q H', Same H H' → Q (.ref q) H') ∧ (¬ (o.length = m ∧ isort o = rngV 0 m) → ∀ H', Same H H' → E (.ref CT) none H')
def spBesideX (CU : Addr) : Sp := fun vs H Q E => ∃ (p p2 l l2 : Addr) (m m2 : Int) (bs cs : List (List Int)), vs = [.ref p, .ref p2] ∧ H p = some (.tup [.int m, .ref l]) ∧ H p2 = some (.tup [.int m2, .ref l2]) ∧ Blks H l bs ∧ Blks H l2 cs ∧ bs.length ≤ 200 ∧ cs.length ≤ 200 ∧
  (m = m2 → ∀ q H', Same H H' → Q (.ref q) H') ∧ (m ≠ m2 → ∀ H', Same H H' → E (.ref CU) none H')
def spSwappedX (CB : Addr) : Sp := fun vs H Q E => ∃ (p l : Addr) (m : Nat) (bs : List (List Int)), vs = [.ref p] ∧ H p = some (.tup [.int (m : Int), .ref l]) ∧ Blks H l bs ∧ (∀ b ∈ bs, Rise2 m b) ∧ bs.length ≤ 200 ∧ m ≤ 100 ∧
  (bs ≠ [] → ∀ q H', Same H H' → Q (.ref q) H') ∧ (bs = [] → ∀ H', Same H H' → E (.ref CB) none H')
section
variable {P : Program} {w : World} {K : PySem.W.Frag} {mg : Str → Option Value} {base : Heap}
structure TxMovedX (mg : Str → Option Value) (K : PySem.W.Frag) (CT : Addr) : Prop where
  len : mg "len" = none
  sorted : mg "sorted" = none
  list : mg "list" = none
  range : mg "range" = none
  tuple : mg "tuple" = none
  NoTurning : XCls K mg "NoTurning" CT
abbrev sMoved : Stmt := top 20
theorem scMoved : FnScope ["plan", "turning", "many", "blocks", "block", "thing"] ["plan", "turning"] (defScope sMoved) := ⟨rfl, rfl, rfl, by decide +kernel, rfl, by decide +kernel, by decide +kernel⟩
set_option maxHeartbeats 2000000 in
theorem has_movedX {CT : Addr} (F : FunAt K mg "moved" sMoved ["plan", "turning"]) (T : TxMovedX mg K CT) : HasX P w K mg base 1 "moved" ["plan", "turning"] (spMovedX CT) := by
  refine F.hasX scMoved (fun vs H Q E h => ?_) (fun f cdv A outer s H vs Q E hr h => ?_)
  · obtain ⟨p, l, r, m, bs, o, rfl, _⟩ := h
    rfl
  obtain ⟨p, l, r, m, bs, o, rfl, hp, hB, ho, rb, bl, m40, lo, kq, ke⟩ := h
  refine ⟨_, (pss_cons (ps_asg (pv 0) (pg_tupF (n := 2) (by rfl) (pgs_cons (pg_name (i := 2) scMoved.nd rfl (Or.inl rfl)) (pgs_cons (pg_name (i := 3) scMoved.nd rfl (Or.inl rfl)) pgs_nil))))
    (pss_cons (ps_if (PW.pt (pw_or (pt_cmpR op_ne (pe_callB k_len (by rfl) T.len (by decide +kernel) (pa_cons (pv 1) pa_nil)) (pv 2) (nomark _)) (pw_or1 (pt_cmpR (op_neD hr.units) (pe_callB k_sortA (by rfl) T.sorted (by decide +kernel) (pa_cons (pv 1) pa_nil)) (pe_callTy (k_listR rfl) (by rfl) T.list (by decide +kernel) (pa_cons (pe_callTy k_rng1 (by rfl) T.range (by decide +kernel) (pa_cons (pv 2) pa_nil)) pa_nil)) (nomark _)))))
    (pss_one (ps_raise raises rfl T.NoTurning (by rfl) (pa_cons pe_str pa_nil)))
    pss_nil)
    (pss_one (ps_ret (pe_tup (pa_cons (pv 2) (pa_cons (pe_callB (k_sortN hr.units) (by rfl) T.sorted (by decide +kernel) (pa_cons (pe_lc (own := [("block", 4)]) (g := gName 4) (by rfl) scMoved.nd (pi_list (pv 3)) (blkOk_by (own := [("block", 4)]) (N := ["plan", "turning", "many", "blocks", "block", "thing"]) (sc := defScope sMoved) (by decide +kernel)) (fun _ _ _ _ _ => (pg_name (i := 4) scMoved.nd rfl (Or.inl rfl))) (fun _ _ _ _ _ => pts_nil) (fun _ _ _ _ _ => by exact (pe_callTy k_tuple (by rfl) T.tuple (by decide +kernel) (pa_cons (pe_callB k_sortI (by rfl) T.sorted (by decide +kernel) (pa_cons (pe_lc (own := [("thing", 5)]) (g := gName 5) (by rfl) scMoved.nd (pi_tupK K rfl (pv 4)) (blkOk_by (own := [("thing", 5)]) (N := ["plan", "turning", "many", "blocks", "block", "thing"]) (sc := relS _ (defScope sMoved)) (by decide +kernel)) (fun _ _ _ _ _ => (pg_name (i := 5) scMoved.nd rfl (Or.inl rfl))) (fun _ _ _ _ _ => pts_nil) (fun _ _ _ _ _ => by exact (pe_ix ix_listF (pv 1) (pv 5) (fun _ _ => rfl)))) pa_nil)) pa_nil)))) pa_nil)) pa_nil))))))), ?_⟩
  walk_at "rd"
  rw [List.length_map]
  by_cases c1 : o.length = m
  rotate_left
  · rw [decide_eq_false (show ¬ (o.length : Int) = (m : Int) by omega)]
    walk_at "rd"
    exact ⟨by show 1 ≤ sizeLine; decide, ke (fun z => c1 z.1) _ (Same.refl _)⟩
  rw [decide_eq_true (show (o.length : Int) = (m : Int) by omega)]
  walk_at "rd"
  refine r_sortAL ho fun p1 H1 hp1 s1 e1 => ?_
  walk_at "rd"
  intro p2 hp2
  have s2 := Same.new hp2 (.rng 0 (m : Int))
  have e2 : upd H1 p2 (.rng 0 (m : Int)) p2 = some (.rng 0 (m : Int)) := upd_same
  generalize upd H1 p2 (.rng 0 (m : Int)) = H2 at s2 e2
  walk_at "rd"
  refine r_listR e2 (by decide) (by decide) (by omega) (by omega) (by omega) ?_
  intro p3 hp3
  obtain ⟨H3, s3, e3, eq_p3⟩ : ∃ Hx, Same _ Hx ∧ Hx p3 = some _ ∧ upd _ p3 _ = Hx := ⟨_, Same.new hp3 _, upd_same, rfl⟩
  rw [eq_p3]; clear eq_p3
  rw [show ((m : Int) - 0).toNat = m by omega] at e3
  refine r_neInts (s3 _ _ (s2 _ _ e1)) e3 ?_
  have g3 := s1.trans (s2.trans s3)
  by_cases c2 : isort o = rngV 0 m
  rotate_left
  · rw [decide_eq_false c2]
    walk_at "rd"
    exact ⟨by show 1 ≤ sizeLine; decide, ke (fun z => c2 z.2) _ g3⟩
  rw [decide_eq_true c2]
  have to : Turng m o := turng_of_perm ((isort_perm o).symm.trans (List.Perm.of_eq c2))
  have kk := kq ⟨c1, c2⟩
  have hB3 := hB.same g3
  have ho3 := g3 _ _ ho
  have hB3' := hB3
  obtain ⟨ps, hl3, tu3⟩ := hB3'
  walk_at "rd"
  refine ⟨l, rfl, ⟨_, SqL.of hl3⟩, ?_⟩
  refine fun D hD => lcm_blks hD eTup (fun b => [imgB o b]) (fun _ => len_one _) (by omega) hB3 (fun j b pb H4 Qe Qn hb ep s4 hacc ke kn => ?_) (fun H4 ws s4 eD pr => ?_)
  · have rbb := rb b (List.mem_of_getElem? hb)
    have lb := rise_len rbb
    refine r_name ⟨rfl, ?_⟩
    walk_at "rd"
    refine ⟨pb, rfl, ⟨_, SqT.of ep⟩, ?_⟩
    refine fun D2 hD2 => lcm_tup hD2 eInt (f := V.int) (l := b) (fun x => [atZ o x]) (fun _ => len_one _) (by omega) (fun H5 s5 => SqT.of (s5 _ _ ep)) (fun k x H5 Qe2 Qn2 hx s5 hacc2 ke2 kn2 => ?_) (fun H5 ws2 s5 eD2 pr2 => ?_)
    · have rx := rbb.2 x (List.mem_of_getElem? hx)
      refine r_name ⟨rfl, ?_⟩
      walk_at "rd"
      refine r_ixL (s5 _ _ (s4 _ _ ho3)) (atI_atZ rx.1 (by rw [to.len]; exact rx.2)) ?_
      exact ke2 _ _ _ (Same.refl _) rfl rfl
    · rw [flat_ones] at pr2
      have ew := Pd.ints pr2
      subst ew
      walk_at "rd"
      refine r_isort eD2 (by rw [List.length_map]; omega) fun p6 H6 hp6 s6 e6 => ?_
      walk_at "rd"
      refine r_tuple e6 (nw fun p7 H7 hp7 s7 e7 => ?_)
      obtain ⟨acc, hacc⟩ := hacc
      exact ke _ _ _ (s5.trans (s6.trans s7)) rfl ⟨p7, rfl, (ne_of_none (s6 _ _ (s5 _ _ hacc)) hp7).symm, e7⟩
  rw [flat_ones] at pr
  have hB4 := Pd.blks pr eD
  walk_at "rd"
  refine ⟨D, _, rfl, hB4, by rw [List.length_map]; omega, fun cs l5 H5 hpm hs hl5 s5 hB5 => ?_⟩
  walk_at "rd"
  refine ⟨Nat.le_of_ble_eq_true rfl, ?_⟩
  intro p6 hp6
  obtain ⟨H6, s6, e6, eq_p6⟩ : ∃ Hx, Same _ Hx ∧ Hx p6 = some _ ∧ upd _ p6 _ = Hx := ⟨_, Same.new hp6 _, upd_same, rfl⟩
  rw [eq_p6]; clear eq_p6
  have g4 := g3.trans s4
  exact kk p6 H6 (g4.trans (s5.trans s6))
structure TxBesideX (mg : Str → Option Value) (K : PySem.W.Frag) (CU : Addr) : Prop where
  sorted : mg "sorted" = none
  Unlike : XCls K mg "Unlike" CU
abbrev sBeside : Stmt := top 22
theorem scBeside : FnScope ["one", "other"] ["one", "other"] (defScope sBeside) := ⟨rfl, rfl, rfl, by decide +kernel, rfl, by decide +kernel, by decide +kernel⟩
theorem has_besideX {CU : Addr} (F : FunAt K mg "beside" sBeside ["one", "other"]) (T : TxBesideX mg K CU) : HasX P w K mg base 1 "beside" ["one", "other"] (spBesideX CU) := by
  refine F.hasX scBeside (fun vs H Q E h => ?_) (fun f cdv A outer s H vs Q E hr h => ?_)
  · obtain ⟨p, p2, l, l2, m, m2, bs, cs, rfl, _⟩ := h
    rfl
  obtain ⟨p, p2, l, l2, m, m2, bs, cs, rfl, hp, hp2, hB, hB2, lb, lc, kq, ke⟩ := h
  refine ⟨_, (pss_cons (ps_if (pt_cmpR op_ne (pe_ix ix_tupF (pv 0) pe_int (fun _ _ => rfl)) (pe_ix ix_tupF (pv 1) pe_int (fun _ _ => rfl)) (nomark _))
    (pss_one (ps_raise raises rfl T.Unlike (by rfl) (pa_cons pe_str pa_nil)))
    pss_nil)
    (pss_one (ps_ret (pe_tup (pa_cons (pe_ix ix_tupF (pv 0) pe_int (fun _ _ => rfl)) (pa_cons (pe_callB (k_sortN hr.units) (by rfl) T.sorted (by decide +kernel) (pa_cons (pe_op op_cat (pe_ix ix_tupF (pv 0) pe_int (fun _ _ => rfl)) (pe_ix ix_tupF (pv 1) pe_int (fun _ _ => rfl))) pa_nil)) pa_nil)))))), ?_⟩
  obtain ⟨ps, hl, tu⟩ := id hB
  obtain ⟨ps2, hl2, tu2⟩ := id hB2
  walk_at "rd"
  by_cases c : m = m2
  rotate_left
  · rw [decide_eq_false c]
    refine iteT ?_
    walk_at "rd"
    exact ⟨by show 1 ≤ sizeLine; decide, ke c _ (Same.refl _)⟩
  rw [decide_eq_true c]
  refine iteF ?_
  walk_at "rd"
  refine r_cat hl hl2 (by rw [List.length_map, List.length_map, tu.1, tu2.1]; show _ ≤ 16777216; omega) ?_
  intro p3 hp3
  obtain ⟨H3, s3, e3, eq_p3⟩ : ∃ Hx, Same _ Hx ∧ Hx p3 = some _ ∧ upd _ p3 _ = Hx := ⟨_, Same.new hp3 _, upd_same, rfl⟩
  rw [eq_p3]; clear eq_p3
  rw [← List.map_append] at e3
  walk_at "rd"
  refine ⟨p3, bs ++ cs, rfl, ⟨_, e3, (tu.same s3).append (tu2.same s3)⟩, by rw [List.length_append]; omega, fun ds l5 H5 hpm hs hl5 s5 hB5 => ?_⟩
  walk_at "rd"
  refine ⟨Nat.le_of_ble_eq_true rfl, ?_⟩
  intro p6 hp6
  obtain ⟨H6, s6, e6, eq_p6⟩ : ∃ Hx, Same _ Hx ∧ Hx p6 = some _ ∧ upd _ p6 _ = Hx := ⟨_, Same.new hp6 _, upd_same, rfl⟩
  rw [eq_p6]; clear eq_p6
  exact kq c p6 H6 (s3.trans (s5.trans s6))
structure TxSwappedX (mg : Str → Option Value) (K : PySem.W.Frag) (CB : Addr) : Prop where
  len : mg "len" = none
  enumerate : mg "enumerate" = none
  range : mg "range" = none
  tuple : mg "tuple" = none
  NoBlock : XCls K mg "NoBlock" CB
abbrev sSwapped : Stmt := top 23
theorem scSwapped : FnScope ["plan", "found", "many", "blocks", "place", "block", "thing", "places"] ["plan"] (defScope sSwapped) := ⟨rfl, rfl, rfl, by decide +kernel, rfl, by decide +kernel, by decide +kernel⟩
set_option maxHeartbeats 4000000 in
theorem has_swappedX {CB : Addr} (F : FunAt K mg "swapped" sSwapped ["plan"]) (T : TxSwappedX mg K CB) : HasX P w K mg base 1 "swapped" ["plan"] (spSwappedX CB) := by
  refine F.hasX scSwapped (fun vs H Q E h => ?_) (fun f cdv A outer s H vs Q E hr h => ?_)
  · obtain ⟨p, l, m, bs, rfl, _⟩ := h
    rfl
  obtain ⟨p, l, m, bs, rfl, hp, hB, rb, lb, lm, kq, ke⟩ := h
  refine ⟨_, (pss_cons (ps_asg (pv 0) (pg_tupF (n := 2) (by rfl) (pgs_cons (pg_name (i := 2) scSwapped.nd rfl (Or.inl rfl)) (pgs_cons (pg_name (i := 3) scSwapped.nd rfl (Or.inl rfl)) pgs_nil))))
    (pss_cons (ps_if (pt_not (pt_tru (pv 3) (by intro _; rfl)))
    (pss_one (ps_raise raises rfl T.NoBlock (by rfl) (pa_cons pe_str pa_nil)))
    pss_nil)
    (pss_cons (ps_setLc (i := 1) (own := [("thing", 6)]) (g := gName 6) (by rfl) scSwapped.nd rfl rfl (sw_true rfl rfl rfl (by decide +kernel)) (pi_range1 (by rfl) T.range (pa_cons (pv 2) pa_nil)) (blkOk_by (own := [("thing", 6)]) (N := ["plan", "found", "many", "blocks", "place", "block", "thing", "places"]) (sc := defScope sSwapped) (by decide +kernel)) (fun _ _ _ _ _ => (pg_name (i := 6) scSwapped.nd rfl (Or.inl rfl))) (fun _ _ _ _ _ => pts_nil) (fun _ _ _ _ _ => by exact (pe_lst pa_nil)))
    (pss_cons (ps_for PassesOwn.leaving rfl (pi_enum (by rfl) T.enumerate (pa_cons (pv 3) pa_nil)) (pg_tupF (n := 2) (by rfl) (pgs_cons (pg_name (i := 4) scSwapped.nd rfl (Or.inl rfl)) (pgs_cons (pg_name (i := 5) scSwapped.nd rfl (Or.inl rfl)) pgs_nil)))
    (pss_one (ps_for PassesOwn.leaving rfl (pi_tup (pv 5)) (pg_name (i := 6) scSwapped.nd rfl (Or.inl rfl))
      (pss_one (ps_expr (pe_bm PySem.F.plainAttrs_list PySem.F.slot_list_append PySem.F.type_list_append mt_append (pe_ix ix_listF (pv 1) (pv 6) (fun _ _ => rfl)) (pa_cons (pv 4) pa_nil)))))))
    (pss_one (ps_ret (pe_tup (pa_cons (pe_callB k_len (by rfl) T.len (by decide +kernel) (pa_cons (pv 3) pa_nil)) (pa_cons (pe_lc (own := [("places", 7)]) (g := gName 7) (by rfl) scSwapped.nd (pi_list (pv 1)) (blkOk_by (own := [("places", 7)]) (N := ["plan", "found", "many", "blocks", "place", "block", "thing", "places"]) (sc := defScope sSwapped) (by decide +kernel)) (fun _ _ _ _ _ => (pg_name (i := 7) scSwapped.nd rfl (Or.inl rfl))) (fun _ _ _ _ _ => pts_nil) (fun _ _ _ _ _ => by exact (pe_callTy k_tuple (by rfl) T.tuple (by decide +kernel) (pa_cons (pv 7) pa_nil)))) pa_nil))))))))), ?_⟩
  obtain ⟨ps, hl, tu⟩ := id hB
  walk_at "rd"
  refine r_truL hl ?_
  by_cases bne : bs = []
  · have pe : (ps.map V.ref).isEmpty = true := by
      have := tu.1
      rw [bne] at this
      rw [List.eq_nil_of_length_eq_zero this]
      rfl
    rw [pe]
    refine iteT ?_
    walk_at "rd"
    exact ⟨by show 1 ≤ sizeLine; decide, ke bne _ (Same.refl _)⟩
  have pne : (ps.map V.ref).isEmpty = false := by
    have := tu.1
    cases ps with
    | nil => exact absurd (List.eq_nil_of_length_eq_zero this.symm) bne
    | cons x r => rfl
  have kk := kq bne
  rw [pne]
  refine iteF ?_
  walk_at "rd"
  refine ⟨(m : Int), rfl, by omega, by omega, ?_⟩
  rw [show ((m : Int)).toNat = m by omega]
  refine fun D hD => lcm_rangeN hD nLI (lo := 0) (n := m) (fun _ b => b = []) (by omega) (fun i H2 Qe Qn hi s2 ke => ?_) (fun H2 as s2 N2 la hF => ?_)
  · refine r_name ⟨rfl, ?_⟩
    walk_at "rd"
    refine ⟨Nat.zero_le _, fun p3 hp3 => ?_⟩
    exact ke p3 _ [] hp3 (Same.new hp3 _) rfl (by unfold LI; rw [upd_same]; rfl)
  have ea : as = (rngV 0 m).map (swapRow bs 0) := by
    apply List.ext_getElem?
    intro i
    by_cases hi : i < m
    · rw [List.getElem?_map, rng_get hi]
      have hi' : i < as.length := by omega
      rw [List.getElem?_eq_getElem hi', hF i _ (List.getElem?_eq_getElem hi')]
      rfl
    · rw [List.getElem?_eq_none (by omega), List.getElem?_eq_none (by rw [List.length_map, rngV_length]; omega)]
  subst ea
  have hl2 := s2 _ _ hl
  walk_at "rd"
  refine ⟨l, _, rfl, SqL.of hl2, ?_⟩
  refine for_enum (xs := ps.map V.ref) (fun i σ H3 => ∃ v4 v5 v6, σ = [some (.ref p), some (.ref D), some (.int (m : Int)), some (.ref l), v4, v5, v6, none] ∧ Same H H3 ∧ NewLs LI H H3 D ((rngV 0 m).map (swapRow bs i))) ?_ ?_ ?_ ?_
  · exact ⟨_, _, _, rfl, s2, N2⟩
  · rintro i σ H3 _ ⟨_, _, _, _, s3, _⟩
    exact s3 _ _ hl
  · rintro i y σ H3 T' hy ⟨v4, v5, v6, rfl, s3, N3⟩ hT
    obtain ⟨pb, rfl, hpb⟩ := nth_refs hy
    obtain ⟨b, hbi, eb⟩ := tu.get hpb
    have rbb := rb b (List.mem_of_getElem? hbi)
    walk_at "rd"
    have s4 := s3.trans (Same.new hT (.tup [.int ((i : Nat) : Int), .ref pb]))
    have N4 := N3.same nLI (Same.new hT (.tup [.int ((i : Nat) : Int), .ref pb]))
    generalize upd H3 T' (.tup [.int ((i : Nat) : Int), .ref pb]) = H4 at s4 N4
    refine ⟨pb, rfl, ⟨_, SqT.of (s4 _ _ eb)⟩, ?_⟩
    refine for_tup (xs := b.map V.int) (fun j σ H5 => ∃ v6, σ = [some (.ref p), some (.ref D), some (.int (m : Int)), some (.ref l), some (.int (i : Int)), some (.ref pb), v6, none] ∧ Same H H5 ∧ NewLs LI H H5 D ((rngV 0 m).map fun t => swapRow bs i t ++ if (b.take j).contains t = true then [(i : Int)] else [])) ?_ ?_ ?_ ?_
    · refine ⟨_, rfl, s4, ?_⟩
      simpa using N4
    · rintro j σ H5 _ ⟨_, _, s5, _⟩
      exact SqT.of (s5 _ _ eb)
    · rintro j x σ H5 hx ⟨v6, rfl, s5, N5⟩
      obtain ⟨z, rfl, hz⟩ := nth_ints hx
      have rz := rbb.2 z (List.mem_of_getElem? hz)
      obtain ⟨ps5, p5, eD, hp5, e5, n5, d5, N6⟩ := newls_app N5 rz.1 rz.2 (i : Int)
      have zn : (b.take j).contains z = false := by
        rw [Bool.eq_false_iff]
        intro hc
        have hm : z ∈ b.take j := by simpa using hc
        obtain ⟨k, hk⟩ := List.mem_iff_getElem?.mp hm
        obtain ⟨k1, k2⟩ := List.getElem?_eq_some_iff.mp hk
        obtain ⟨j1, j2⟩ := List.getElem?_eq_some_iff.mp hz
        rw [List.getElem_take] at k2
        rw [List.length_take] at k1
        have := List.pairwise_iff_getElem.mp rbb.1 k j (by omega) j1 (by omega)
        omega
      walk_at "rd"
      refine r_ixL eD (at_of (j := z.toNat) (by omega) (by rw [List.getElem?_map, hp5]; rfl)) ?_
      refine ⟨.inl ⟨rfl, _, SqL.of e5⟩, ?_⟩
      walk_at "rd"
      refine r_append e5 ?_ ?_
      · rw [zn]
        simp only [List.length_map, List.length_append]
        have := rise_len (swapRow_rise bs i z)
        have ib : i < bs.length := (List.getElem?_eq_some_iff.mp hbi).1
        show _ < 16777216
        simp
        omega
      · refine ⟨_, rfl, s5.late n5 _, ?_⟩
        rw [show ∀ g : List Int, g.map V.int ++ [V.int (i : Int)] = (g ++ [(i : Int)]).map V.int from fun g => by rw [List.map_append]; rfl]
        have ef : ((rngV 0 m).map fun t => if t = z then (swapRow bs i z ++ if (b.take j).contains z = true then [(i : Int)] else []) ++ [(i : Int)] else swapRow bs i t ++ if (b.take j).contains t = true then [(i : Int)] else []) = (rngV 0 m).map fun t => swapRow bs i t ++ if (b.take (j + 1)).contains t = true then [(i : Int)] else [] := by
          apply List.map_congr_left
          intro t _
          rw [take_snoc hz]
          by_cases c : t = z
          · subst c
            rw [if_pos rfl, zn]
            simp
          · rw [if_neg c]
            have : (b.take j ++ [z]).contains t = (b.take j).contains t := by
              rw [Bool.eq_iff_iff]; simp [c]
            rw [this]
        rw [ef] at N6
        exact N6
    · rintro σ H5 ⟨v6, rfl, s5, N5⟩
      refine ⟨_, _, _, rfl, s5, ?_⟩
      rw [List.length_map, List.take_length] at N5
      have : (swapRow bs (i + 1)) = fun t => swapRow bs i t ++ if b.contains t = true then [(i : Int)] else [] := by
        funext t
        rw [swapRow_succ, blkAt_get hbi]
      rw [this]
      exact N5
  · rintro σ H3 ⟨v4, v5, v6, rfl, s3, N3⟩
    rw [List.length_map, tu.1] at N3
    obtain ⟨qs, eD, nd, nwq, pr⟩ := N3.ex
    have lq := Pd.len pr
    have hl3 := s3 _ _ hl
    walk_at "rd"
    refine ⟨D, rfl, ⟨_, SqL.of eD⟩, ?_⟩
    have ez : (qs.zip ((rngV 0 m).map (swapRow bs bs.length))).map (fun q : Addr × List Int => V.ref q.1) = qs.map V.ref := by
      rw [show (fun q : Addr × List Int => V.ref q.1) = V.ref ∘ Prod.fst from rfl, ← List.map_map, List.map_fst_zip (by omega)]
    refine fun D2 hD2 => lcm_list hD2 eTup (f := fun q : Addr × List Int => V.ref q.1) (l := qs.zip ((rngV 0 m).map (swapRow bs bs.length))) (fun q => [q.2]) (fun _ => len_one _) (by rw [List.length_zip, List.length_map, rngV_length]; omega) (fun H4 s4 => by rw [ez]; exact SqL.of (s4 _ _ eD)) (fun i q H4 Qe Qn hq s4 hacc ke kn => ?_) (fun H4 ws s4 eD2 pr2 => ?_)
    · have hq1 : qs[i]? = some q.1 := by
        have := (List.getElem?_zip_eq_some.mp hq).1
        exact this
      have hq2 := (List.getElem?_zip_eq_some.mp hq).2
      obtain ⟨y, hy, ry⟩ := Pd.get pr hq1
      rw [hq2] at hy
      cases hy
      refine r_name ⟨rfl, ?_⟩
      walk_at "rd"
      refine r_tuple (s4 _ _ ry) (nw fun p7 H7 hp7 s7 e7 => ?_)
      obtain ⟨acc, hacc⟩ := hacc
      exact ke _ _ _ s7 rfl ⟨p7, rfl, (ne_of_none hacc hp7).symm, e7⟩
    have fm : ((qs.zip ((rngV 0 m).map (swapRow bs bs.length))).flatMap fun q => [q.2]) = swapB m bs := by
      rw [flat_one]
      exact List.map_snd_zip (by omega)
    rw [fm] at pr2
    have hB4 := Pd.blks pr2 eD2
    walk_at "rd"
    refine ⟨Nat.le_of_ble_eq_true rfl, ?_⟩
    intro p5 hp5
    obtain ⟨H5, s5, e5, eq_p5⟩ : ∃ Hx, Same _ Hx ∧ Hx p5 = some _ ∧ upd _ p5 _ = Hx := ⟨_, Same.new hp5 _, upd_same, rfl⟩
    rw [eq_p5]; clear eq_p5
    rw [List.length_map, tu.1] at e5
    exact kk p5 H5 (s3.trans (s4.trans s5))
end
end My
set_option Elab.async false
set_option linter.all false
set_option maxRecDepth 100000
namespace L2
open PySem PySem.Spec PyProof.Rows
def tLitN (ns : List Int) : TE := fun _ H Q => ∀ p, H p = none → Q (.ref p) (upd H p (.lst (ns.map V.int)))
def tIntsN (ns : List Int) : TA := fun _ H Q => Q (ns.map V.int) H
structure QNs (X : Cx) (es : List Expr) (ns : List Int) : Prop where
  h : PA X es (tIntsN ns)
structure QN (X : Cx) (e : Expr) (ns : List Int) : Prop where
  h : PE X e (tLitN ns)
section
variable {X : Cx}
end
end L2
set_option Elab.async false
set_option linter.all false
set_option maxRecDepth 100000
namespace L2
open PySem PySem.Spec PyProof.Rows
structure SE (X : Cx) (e : Expr) (te : TE) : Prop where
  h : PE X e te
structure SA (X : Cx) (es : List Expr) (ta : TA) : Prop where
  h : PA X es ta
section
variable {X : Cx}
theorem sa_nil : SA X [] tNil := ⟨pa_nil⟩
theorem sa_cons {e : Expr} {es : List Expr} {te : TE} {t : TA} (he : SE X e te) (hs : SA X es t) (hst : isStar e = false := by rfl) : SA X (e :: es) (tCons te t) := ⟨pa_cons he.h hs.h (star_cons hst)⟩
end
end L2
set_option Elab.async false
set_option linter.all false
set_option maxRecDepth 100000
namespace L2
open PySem PySem.Spec PyProof.Rows
section
variable {X : Cx}
end
def litOf : Stmt → Expr
  | .If _ [.Return (some (.Subscript e _ _)) _] _ _ => e
  | _ => .Constant .none 0 ⟨0, 0, 0, 0⟩
end L2
set_option Elab.async false
set_option linter.all false
set_option maxRecDepth 100000
namespace L2
open PySem PySem.Spec PyProof.Rows
section
variable {X : Cx}
end
end L2
set_option Elab.async false
set_option linter.all false
set_option maxRecDepth 100000
namespace L2
open PySem PySem.Spec PyProof.Rows
def tLitS (ws : List Str) : TE := fun _ H Q => ∀ p, H p = none → Q (.ref p) (upd H p (.lst (ws.map V.str)))
def tStrsN (ws : List Str) : TA := fun _ H Q => Q (ws.map V.str) H
structure QWs (X : Cx) (es : List Expr) (ws : List Str) : Prop where
  h : PA X es (tStrsN ws)
structure QW (X : Cx) (e : Expr) (ws : List Str) : Prop where
  h : PE X e (tLitS ws)
section
variable {X : Cx}
theorem qw_nil : QWs X [] [] := ⟨pa_nil⟩
theorem qw_cons {x : Str} {j : Nat} {pos : Pos} {es : List Expr} {ws : List Str} (h : QWs X es ws) : QWs X (.Constant (.str x) j pos :: es) (x :: ws) := ⟨pa_cons pe_str h.h⟩
theorem qw_lst {es : List Expr} {pos : Pos} {ws : List Str} (h : QWs X es ws) (z : ws.length ≤ sizeLine := by decide) : QW X (.List es pos) ws := ⟨by
  intro pins s σ H Q I q
  refine pe_lst h.h pins s σ H Q I ⟨by rw [List.length_map]; exact z, q⟩⟩
theorem asg_litS {i : Nat} {x : Str} {e : Expr} {ws : List Str} {pos pos' : Pos} (h1 : X.N.Nodup) (h2 : X.N[i]? = some x) (h3 : Loc X.env.scope x) (hf : X.fn x = true) (he : QW X e ws) (hs : swapsWith e (some (.Name x pos')) pos.line X.env = pure false) : QS X (.Assign [.Name x pos'] e pos) (tAsg (tLitS ws) (gName i)) := ⟨asg_of h1 h2 h3 hf he.h hs⟩
end
end L2
set_option Elab.async false
set_option linter.all false
set_option maxRecDepth 100000
namespace My
open PySem PySem.Spec L2
local macro_rules | `(tactic| walk_at "rd1") => `(tactic| first
  | with_reducible refine r_seq ?_ | with_reducible refine r_asg ?_ | with_reducible refine r_name ?_ | with_reducible refine r_ret ?_ | with_reducible refine r_drop ?_ | with_reducible refine r_ifs ?_ | with_reducible refine r_next ?_
  | with_reducible refine r_var rfl ?_ | with_reducible refine r_c ?_ | with_reducible refine r_op ?_ | with_reducible refine r_I0 ?_
  | with_reducible refine r_test ?_ | with_reducible refine r_b ?_ | with_reducible refine r_k ?_ | with_reducible refine r_cons ?_ | with_reducible refine r_nil ?_ | with_reducible refine r_call ?_ | with_reducible refine r_cb ?_
  | with_reducible refine r_lst ?_ | with_reducible refine r_tup ?_ | with_reducible refine r_sub ?_ | with_reducible refine r_andV ?_ | with_reducible refine r_orV ?_ | with_reducible refine r_notV ?_
  | with_reducible refine r_and ?_ | with_reducible refine r_or ?_ | with_reducible refine r_not ?_ | with_reducible refine r_eqI ?_ | with_reducible refine r_neI ?_ | with_reducible refine r_aug rfl ?_ | with_reducible refine r_ipI ?_ | with_reducible refine r_un ?_
  | with_reducible refine r_bm ?_ | with_reducible refine r_bm0 ?_ | with_reducible refine r_yes ?_
  | with_reducible refine r_dnewT ?_ | with_reducible refine r_dget2 ?_ 
  | with_reducible refine r_U ?_ | with_reducible refine r_lit ?_
  | with_reducible refine r_fb ?_ | with_reducible refine r_m1 ?_ | with_reducible refine r_augS ?_ | with_reducible refine r_isNn ?_ | with_reducible refine r_notNn ?_ | with_reducible refine r_isNr ?_ | with_reducible refine r_notNr ?_ | with_reducible refine r_tru ?_ | with_reducible refine r_count ?_
  | with_reducible refine r_for ?_ | with_reducible refine r_dc ?_ | with_reducible refine r_lc ?_ | with_reducible refine r_sc ?_ | with_reducible refine r_zipN ?_ | with_reducible refine r_ifX ?_ | with_reducible refine r_zip3 ?_ | with_reducible refine r_rng1 ?_ | with_reducible refine r_rng2 ?_ | with_reducible refine r_ilist ?_ | with_reducible refine r_itup ?_ | with_reducible refine r_enum ?_
  | with_reducible refine r_sl ?_ | with_reducible refine r_nopart ?_ | with_reducible refine r_part ?_ | with_reducible refine r_int ?_ | with_reducible refine r_gcons ?_ | with_reducible refine r_gnil ?_ | with_reducible refine r_revT ?_
  | with_reducible refine r_intB (fun z hz z0 z1 => ?_) | with_reducible refine r_intI ?_ | with_reducible refine r_min2 ?_ | with_reducible refine r_max2 ?_ | with_reducible refine r_rng1V ?_ | with_reducible refine r_rng2V ?_
  | with_reducible refine r_dget ?_ | with_reducible refine r_disp ?_ | with_reducible refine r_pcons ?_ | with_reducible refine r_pnil ?_ | with_reducible refine r_enumT ?_ | with_reducible refine r_zip ?_ | with_reducible refine r_abs (fun z hz z0 => ?_)
  | with_reducible refine r_try ?_ | with_reducible refine r_try0 ?_ | with_reducible refine r_dropX ?_ | with_reducible refine r_setX ?_ | with_reducible refine r_callX ?_ | with_reducible refine r_methX ?_ | with_reducible refine r_raise ?_
  | with_reducible refine r_zipI ?_ | with_reducible refine r_zipT ?_ | with_reducible refine r_sfld ?_ | with_reducible refine r_fld ?_ | with_reducible refine r_meth ?_ | with_reducible refine r_make ?_ | with_reducible refine r_notC ?_ | with_reducible refine r_revS ?_ | with_reducible refine r_rev ?_ | with_reducible refine r_dputK ?_ | with_reducible refine r_chain4 ?_ | with_reducible refine r_chain3 ?_ | with_reducible refine r_chain ?_ | with_reducible refine r_din ?_ | with_reducible refine r_dnotin ?_ | with_reducible refine r_ifE ?_
  | ((with_reducible show cIsiR _ _ _ _ _); first | with_reducible refine r_itT (by first | assumption | exact upd_same) ?_ | with_reducible refine r_itL (by first | assumption | exact upd_same) ?_)
  | ((with_reducible show kDGet _ _ _ _); with_reducible refine pot_g (by first | assumption | exact upd_same) ?_) | ((with_reducible show kDGet _ _ _ _); with_reducible refine pot_s (by first | assumption | exact upd_same) ?_) | ((with_reducible show kDGet _ _ _ _); with_reducible refine pot_t (by first | assumption | exact upd_same) ?_)
  | ((with_reducible show kDPut _ _ _ _ _); with_reducible refine pot_pg (by first | assumption | exact upd_same) ?_) | ((with_reducible show kDPut _ _ _ _ _); with_reducible refine pot_pt (by first | assumption | exact upd_same) ?_)
  | with_reducible refine iteT ?_ | with_reducible refine iteF ?_ | with_reducible refine r_nf ?_ | with_reducible refine r_nt ?_
  | with_reducible refine r_ii ?_ | with_reducible refine r_ib ?_
  | ((with_reducible show rIxLF _ _ _ _); with_reducible refine r_ixL (by first | assumption | exact upd_same) rfl ?_)
  | ((with_reducible show rIxTF _ _ _ _); with_reducible refine r_ixT (by first | assumption | exact upd_same) rfl ?_)
  | ((with_reducible show rSetL _ _ _ _ _); with_reducible refine r_setL (by first | assumption | exact upd_same) rfl ?_)
  | ((with_reducible show cLen _ _ _); with_reducible refine r_len (by first | exact sqAt_lst (by assumption) | exact sqAt_tup (by assumption) | exact sqAt_lst upd_same | exact sqAt_tup upd_same) ?_)
  | ((with_reducible show rSlLF _ _ _ _ _); with_reducible refine r_slL (by first | assumption | exact upd_same) ?_)
  | ((with_reducible show gTupF _ _ _ _ _ _); with_reducible refine r_gtup (by first | assumption | exact upd_same) rfl ?_)
  | ((with_reducible show rI _ _ _ _ _ _); first | with_reducible refine r_mod (by omega) ?_ | with_reducible refine r_div (by omega) (by omega) ?_ | with_reducible refine r_mulL (by omega) (by omega) ?_ | with_reducible refine r_mulR (by omega) (by omega) ?_ | with_reducible refine r_pow (by omega) (by omega) (by decide) ?_))
local macro_rules | `(tactic| walk_at "rd") => `(tactic| repeat (first | walk_at "rd1" | (dsimp only; walk_at "rd1")))
def wordB (i : Nat) : Str := ["nought", "block", "days", "field", "line", "name", "net", "plan", "plane", "prime", "size", "square", "text", "triples", "turning", "many", "unlike"].getD i "none"
def spWordB (K : PySem.W.Frag) (cs : List Addr) (CE : Addr) : Sp := fun vs H Q _ => ∃ (x R : Addr) (i : Nat), vs = [.ref x] ∧ H x = some (.ext (xcO x R)) ∧ Wd K cs R i ∧ PySem.W.kitOne K (.ref R) (.ref CE) = some true ∧ ∀ H', Same H H' → Q (.str (wordB i)) H'
section
variable {P : Program} {w : World} {K : PySem.W.Frag} {mg : Str → Option Value} {base : Heap}
structure TxWordB (mg : Str → Option Value) (c0 c1 c2 c3 c4 c5 c6 c7 c8 c9 c10 c11 c12 c13 c14 c15 c16 CE : Addr) : Prop where
  isinstance : mg "isinstance" = none
  ValueError : mg "ValueError" = none
  ByNought_g : mg "ByNought" = some (.ref c0)
  NoBlock_g : mg "NoBlock" = some (.ref c1)
  NoDays_g : mg "NoDays" = some (.ref c2)
  NoField_g : mg "NoField" = some (.ref c3)
  NoLine_g : mg "NoLine" = some (.ref c4)
  NoName_g : mg "NoName" = some (.ref c5)
  NoNet_g : mg "NoNet" = some (.ref c6)
  NoPlan_g : mg "NoPlan" = some (.ref c7)
  NoPlane_g : mg "NoPlane" = some (.ref c8)
  NoPrime_g : mg "NoPrime" = some (.ref c9)
  NoSize_g : mg "NoSize" = some (.ref c10)
  NoSquare_g : mg "NoSquare" = some (.ref c11)
  NoText_g : mg "NoText" = some (.ref c12)
  NoTriples_g : mg "NoTriples" = some (.ref c13)
  NoTurning_g : mg "NoTurning" = some (.ref c14)
  TooMany_g : mg "TooMany" = some (.ref c15)
  Unlike_g : mg "Unlike" = some (.ref c16)
  BlockError_g : mg "BlockError" = some (.ref CE)
abbrev sWord : Stmt := top 38
theorem scWord : FnScope ["_law_caught", "_law_marks", "_law_words"] ["_law_caught"] (defScope sWord) := ⟨rfl, rfl, rfl, by decide +kernel, rfl, by decide +kernel, by decide +kernel⟩
def valQ : Stmt → Expr
  | .Assign _ v _ => v
  | _ => .Constant .none 0 ⟨0, 0, 0, 0⟩
abbrev wst (i : Nat) : Stmt := (defBody sWord).getD i (.Pass ⟨0, 0, 0, 0⟩)
def litW : List Str := ["nought", "block", "days", "field", "line", "name", "net", "plan", "plane", "prime", "size", "square"]
theorem isLitW {X : Cx} : QW X (valQ (wst 6)) litW := by
  exact (qw_lst (qw_cons (qw_cons (qw_cons (qw_cons (qw_cons (qw_cons (qw_cons (qw_cons (qw_cons (qw_cons (qw_cons (qw_cons qw_nil)))))))))))))
set_option maxHeartbeats 4000000 in
theorem has_wordB {c0 c1 c2 c3 c4 c5 c6 c7 c8 c9 c10 c11 c12 c13 c14 c15 c16 CE : Addr} (F : FunAt K mg "_law_word" sWord ["_law_caught"]) (T : TxWordB mg c0 c1 c2 c3 c4 c5 c6 c7 c8 c9 c10 c11 c12 c13 c14 c15 c16 CE) : Has P w K mg base 1 "_law_word" ["_law_caught"] (spWordB K [c0, c1, c2, c3, c4, c5, c6, c7, c8, c9, c10, c11, c12, c13, c14, c15, c16] CE) := by
  refine F.has scWord (fun vs H Q E h => ?_) (fun f cdv A outer s H vs Q E hr h => ?_)
  · obtain ⟨x, R, i, rfl, _⟩ := h
    rfl
  obtain ⟨x, R, i, rfl, e0, W, wB, kk⟩ := h
  refine @unq _ _ _ ?_
  refine' ⟨_, qss_cons (QS.mk ?s1) (qss_cons (QS.mk ?s2) (qss_cons (QS.mk ?s3) (qss_cons (QS.mk ?s4) (qss_cons (QS.mk ?s5) (qss_cons (QS.mk ?s6) (qss_cons (QS.mk ?s7) (qss_cons (QS.mk ?s8) (qss_cons (QS.mk ?s9) (QSs.mk ?s10))))))))), ?_⟩
  case s1 => exact (ps_set (i := 1) scWord.nd rfl (Or.inl rfl) (pe_lst (pa_cons (pe_callB k_isiX (by rfl) T.isinstance (by decide +kernel) (pa_cons (pv 0) (pa_cons (pe_glob (v := .ref _) (by rfl) T.ByNought_g rfl) pa_nil))) (pa_cons (pe_callB k_isiX (by rfl) T.isinstance (by decide +kernel) (pa_cons (pv 0) (pa_cons (pe_glob (v := .ref _) (by rfl) T.NoBlock_g rfl) pa_nil))) (pa_cons (pe_callB k_isiX (by rfl) T.isinstance (by decide +kernel) (pa_cons (pv 0) (pa_cons (pe_glob (v := .ref _) (by rfl) T.NoDays_g rfl) pa_nil))) pa_nil)))))
  case s2 => exact (ps_set (i := 1) scWord.nd rfl (Or.inl rfl) (pe_op op_cat (pv 1) (pe_lst (pa_cons (pe_callB k_isiX (by rfl) T.isinstance (by decide +kernel) (pa_cons (pv 0) (pa_cons (pe_glob (v := .ref _) (by rfl) T.NoField_g rfl) pa_nil))) (pa_cons (pe_callB k_isiX (by rfl) T.isinstance (by decide +kernel) (pa_cons (pv 0) (pa_cons (pe_glob (v := .ref _) (by rfl) T.NoLine_g rfl) pa_nil))) (pa_cons (pe_callB k_isiX (by rfl) T.isinstance (by decide +kernel) (pa_cons (pv 0) (pa_cons (pe_glob (v := .ref _) (by rfl) T.NoName_g rfl) pa_nil))) pa_nil))))))
  case s3 => exact (ps_set (i := 1) scWord.nd rfl (Or.inl rfl) (pe_op op_cat (pv 1) (pe_lst (pa_cons (pe_callB k_isiX (by rfl) T.isinstance (by decide +kernel) (pa_cons (pv 0) (pa_cons (pe_glob (v := .ref _) (by rfl) T.NoNet_g rfl) pa_nil))) (pa_cons (pe_callB k_isiX (by rfl) T.isinstance (by decide +kernel) (pa_cons (pv 0) (pa_cons (pe_glob (v := .ref _) (by rfl) T.NoPlan_g rfl) pa_nil))) (pa_cons (pe_callB k_isiX (by rfl) T.isinstance (by decide +kernel) (pa_cons (pv 0) (pa_cons (pe_glob (v := .ref _) (by rfl) T.NoPlane_g rfl) pa_nil))) pa_nil))))))
  case s4 => exact (ps_set (i := 1) scWord.nd rfl (Or.inl rfl) (pe_op op_cat (pv 1) (pe_lst (pa_cons (pe_callB k_isiX (by rfl) T.isinstance (by decide +kernel) (pa_cons (pv 0) (pa_cons (pe_glob (v := .ref _) (by rfl) T.NoPrime_g rfl) pa_nil))) (pa_cons (pe_callB k_isiX (by rfl) T.isinstance (by decide +kernel) (pa_cons (pv 0) (pa_cons (pe_glob (v := .ref _) (by rfl) T.NoSize_g rfl) pa_nil))) (pa_cons (pe_callB k_isiX (by rfl) T.isinstance (by decide +kernel) (pa_cons (pv 0) (pa_cons (pe_glob (v := .ref _) (by rfl) T.NoSquare_g rfl) pa_nil))) pa_nil))))))
  case s5 => exact (ps_set (i := 1) scWord.nd rfl (Or.inl rfl) (pe_op op_cat (pv 1) (pe_lst (pa_cons (pe_callB k_isiX (by rfl) T.isinstance (by decide +kernel) (pa_cons (pv 0) (pa_cons (pe_glob (v := .ref _) (by rfl) T.NoText_g rfl) pa_nil))) (pa_cons (pe_callB k_isiX (by rfl) T.isinstance (by decide +kernel) (pa_cons (pv 0) (pa_cons (pe_glob (v := .ref _) (by rfl) T.NoTriples_g rfl) pa_nil))) (pa_cons (pe_callB k_isiX (by rfl) T.isinstance (by decide +kernel) (pa_cons (pv 0) (pa_cons (pe_glob (v := .ref _) (by rfl) T.NoTurning_g rfl) pa_nil))) pa_nil))))))
  case s6 => exact (ps_set (i := 1) scWord.nd rfl (Or.inl rfl) (pe_op op_cat (pv 1) (pe_lst (pa_cons (pe_callB k_isiX (by rfl) T.isinstance (by decide +kernel) (pa_cons (pv 0) (pa_cons (pe_glob (v := .ref _) (by rfl) T.TooMany_g rfl) pa_nil))) (pa_cons (pe_callB k_isiX (by rfl) T.isinstance (by decide +kernel) (pa_cons (pv 0) (pa_cons (pe_glob (v := .ref _) (by rfl) T.Unlike_g rfl) pa_nil))) pa_nil)))))
  case s7 => exact (by refine @L2.QS.h _ _ (tAsg (tLitS litW) (gName 2)) ?_; refine asg_litS (i := 2) (ws := litW) ?_ ?_ ?_ ?_ ?_ ?_; exact scWord.nd; rfl; exact Or.inl rfl; rfl; exact isLitW; rfl)
  case s8 => exact (ps_set (i := 2) scWord.nd rfl (Or.inl rfl) (pe_op op_cat (pv 2) (pe_lst (SA.h (sa_cons (SE.mk pe_str) (sa_cons (SE.mk pe_str) (sa_cons (SE.mk pe_str) (sa_cons (SE.mk pe_str) (sa_cons (SE.mk pe_str) sa_nil)))))))))
  case s9 => exact (ps_if (PW.pt (pw_or (pt_cmpR op_ne (pe_bm PySem.F.plainAttrs_list PySem.F.slot_list_count PySem.F.type_list_count mt_countF (pv 1) (pa_cons pe_bl pa_nil)) pe_int (nomark _)) (pw_or (pt_not (pt_val (pe_callB k_isiX (by rfl) T.isinstance (by decide +kernel) (pa_cons (pv 0) (pa_cons (pe_bltn (v := .ty "ValueError") (by rfl) T.ValueError (by decide +kernel) rfl) pa_nil))))) (pw_or1 (pt_not (pt_val (pe_callB k_isiX (by rfl) T.isinstance (by decide +kernel) (pa_cons (pv 0) (pa_cons (pe_glob (v := .ref _) (by rfl) T.BlockError_g rfl) pa_nil)))))))))     (pss_one (ps_ret pe_str))     pss_nil)
  case s10 => exact (pss_one (ps_ret (pe_ix ix_listF (pv 2) (pe_bm PySem.F.plainAttrs_list PySem.F.slot_list_index PySem.F.type_list_index mt_index (pv 1) (pa_cons pe_bl pa_nil)) (fun _ _ => rfl))))
  walk_at "rd"
  refine r_isi1 (.exc ((Same.refl H) _ _ e0) W.isi) (.inl ⟨_, rfl⟩) (W.o 0 _ _ rfl rfl) ?_
  walk_at "rd"
  refine r_isi1 (.exc ((Same.refl H) _ _ e0) W.isi) (.inl ⟨_, rfl⟩) (W.o 1 _ _ rfl rfl) ?_
  walk_at "rd"
  refine r_isi1 (.exc ((Same.refl H) _ _ e0) W.isi) (.inl ⟨_, rfl⟩) (W.o 2 _ _ rfl rfl) ?_
  walk_at "rd"
  refine ⟨Nat.le_of_ble_eq_true rfl, ?_⟩
  intro p0 hp0
  obtain ⟨J0, sp0, ep0, eq_p0⟩ : ∃ Hx, Same _ Hx ∧ Hx p0 = some _ ∧ upd _ p0 _ = Hx := ⟨_, Same.new hp0 _, upd_same, rfl⟩
  rw [eq_p0]; clear eq_p0
  have eq0 := ep0
  walk_at "rd"
  refine r_isi1 (.exc (((Same.refl H).trans sp0) _ _ e0) W.isi) (.inl ⟨_, rfl⟩) (W.o 3 _ _ rfl rfl) ?_
  walk_at "rd"
  refine r_isi1 (.exc (((Same.refl H).trans sp0) _ _ e0) W.isi) (.inl ⟨_, rfl⟩) (W.o 4 _ _ rfl rfl) ?_
  walk_at "rd"
  refine r_isi1 (.exc (((Same.refl H).trans sp0) _ _ e0) W.isi) (.inl ⟨_, rfl⟩) (W.o 5 _ _ rfl rfl) ?_
  walk_at "rd"
  refine ⟨Nat.le_of_ble_eq_true rfl, ?_⟩
  intro p1 hp1
  obtain ⟨J1, sp1, ep1, eq_p1⟩ : ∃ Hx, Same _ Hx ∧ Hx p1 = some _ ∧ upd _ p1 _ = Hx := ⟨_, Same.new hp1 _, upd_same, rfl⟩
  rw [eq_p1]; clear eq_p1
  walk_at "rd"
  refine r_cat (sp1 _ _ eq0) ep1 (Nat.le_of_ble_eq_true rfl) ?_
  intro q1 hq1
  obtain ⟨M1, sq1, eq1, eq_q1⟩ : ∃ Hx, Same _ Hx ∧ Hx q1 = some _ ∧ upd _ q1 _ = Hx := ⟨_, Same.new hq1 _, upd_same, rfl⟩
  rw [eq_q1]; clear eq_q1
  walk_at "rd"
  refine r_isi1 (.exc (((((Same.refl H).trans sp0).trans sp1).trans sq1) _ _ e0) W.isi) (.inl ⟨_, rfl⟩) (W.o 6 _ _ rfl rfl) ?_
  walk_at "rd"
  refine r_isi1 (.exc (((((Same.refl H).trans sp0).trans sp1).trans sq1) _ _ e0) W.isi) (.inl ⟨_, rfl⟩) (W.o 7 _ _ rfl rfl) ?_
  walk_at "rd"
  refine r_isi1 (.exc (((((Same.refl H).trans sp0).trans sp1).trans sq1) _ _ e0) W.isi) (.inl ⟨_, rfl⟩) (W.o 8 _ _ rfl rfl) ?_
  walk_at "rd"
  refine ⟨Nat.le_of_ble_eq_true rfl, ?_⟩
  intro p2 hp2
  obtain ⟨J2, sp2, ep2, eq_p2⟩ : ∃ Hx, Same _ Hx ∧ Hx p2 = some _ ∧ upd _ p2 _ = Hx := ⟨_, Same.new hp2 _, upd_same, rfl⟩
  rw [eq_p2]; clear eq_p2
  walk_at "rd"
  refine r_cat (sp2 _ _ eq1) ep2 (Nat.le_of_ble_eq_true rfl) ?_
  intro q2 hq2
  obtain ⟨M2, sq2, eq2, eq_q2⟩ : ∃ Hx, Same _ Hx ∧ Hx q2 = some _ ∧ upd _ q2 _ = Hx := ⟨_, Same.new hq2 _, upd_same, rfl⟩
  rw [eq_q2]; clear eq_q2
  walk_at "rd"
  refine r_isi1 (.exc (((((((Same.refl H).trans sp0).trans sp1).trans sq1).trans sp2).trans sq2) _ _ e0) W.isi) (.inl ⟨_, rfl⟩) (W.o 9 _ _ rfl rfl) ?_
  walk_at "rd"
  refine r_isi1 (.exc (((((((Same.refl H).trans sp0).trans sp1).trans sq1).trans sp2).trans sq2) _ _ e0) W.isi) (.inl ⟨_, rfl⟩) (W.o 10 _ _ rfl rfl) ?_
  walk_at "rd"
  refine r_isi1 (.exc (((((((Same.refl H).trans sp0).trans sp1).trans sq1).trans sp2).trans sq2) _ _ e0) W.isi) (.inl ⟨_, rfl⟩) (W.o 11 _ _ rfl rfl) ?_
  walk_at "rd"
  refine ⟨Nat.le_of_ble_eq_true rfl, ?_⟩
  intro p3 hp3
  obtain ⟨J3, sp3, ep3, eq_p3⟩ : ∃ Hx, Same _ Hx ∧ Hx p3 = some _ ∧ upd _ p3 _ = Hx := ⟨_, Same.new hp3 _, upd_same, rfl⟩
  rw [eq_p3]; clear eq_p3
  walk_at "rd"
  refine r_cat (sp3 _ _ eq2) ep3 (Nat.le_of_ble_eq_true rfl) ?_
  intro q3 hq3
  obtain ⟨M3, sq3, eq3, eq_q3⟩ : ∃ Hx, Same _ Hx ∧ Hx q3 = some _ ∧ upd _ q3 _ = Hx := ⟨_, Same.new hq3 _, upd_same, rfl⟩
  rw [eq_q3]; clear eq_q3
  walk_at "rd"
  refine r_isi1 (.exc (((((((((Same.refl H).trans sp0).trans sp1).trans sq1).trans sp2).trans sq2).trans sp3).trans sq3) _ _ e0) W.isi) (.inl ⟨_, rfl⟩) (W.o 12 _ _ rfl rfl) ?_
  walk_at "rd"
  refine r_isi1 (.exc (((((((((Same.refl H).trans sp0).trans sp1).trans sq1).trans sp2).trans sq2).trans sp3).trans sq3) _ _ e0) W.isi) (.inl ⟨_, rfl⟩) (W.o 13 _ _ rfl rfl) ?_
  walk_at "rd"
  refine r_isi1 (.exc (((((((((Same.refl H).trans sp0).trans sp1).trans sq1).trans sp2).trans sq2).trans sp3).trans sq3) _ _ e0) W.isi) (.inl ⟨_, rfl⟩) (W.o 14 _ _ rfl rfl) ?_
  walk_at "rd"
  refine ⟨Nat.le_of_ble_eq_true rfl, ?_⟩
  intro p4 hp4
  obtain ⟨J4, sp4, ep4, eq_p4⟩ : ∃ Hx, Same _ Hx ∧ Hx p4 = some _ ∧ upd _ p4 _ = Hx := ⟨_, Same.new hp4 _, upd_same, rfl⟩
  rw [eq_p4]; clear eq_p4
  walk_at "rd"
  refine r_cat (sp4 _ _ eq3) ep4 (Nat.le_of_ble_eq_true rfl) ?_
  intro q4 hq4
  obtain ⟨M4, sq4, eq4, eq_q4⟩ : ∃ Hx, Same _ Hx ∧ Hx q4 = some _ ∧ upd _ q4 _ = Hx := ⟨_, Same.new hq4 _, upd_same, rfl⟩
  rw [eq_q4]; clear eq_q4
  walk_at "rd"
  refine r_isi1 (.exc (((((((((((Same.refl H).trans sp0).trans sp1).trans sq1).trans sp2).trans sq2).trans sp3).trans sq3).trans sp4).trans sq4) _ _ e0) W.isi) (.inl ⟨_, rfl⟩) (W.o 15 _ _ rfl rfl) ?_
  walk_at "rd"
  refine r_isi1 (.exc (((((((((((Same.refl H).trans sp0).trans sp1).trans sq1).trans sp2).trans sq2).trans sp3).trans sq3).trans sp4).trans sq4) _ _ e0) W.isi) (.inl ⟨_, rfl⟩) (W.o 16 _ _ rfl rfl) ?_
  walk_at "rd"
  refine ⟨Nat.le_of_ble_eq_true rfl, ?_⟩
  intro p5 hp5
  obtain ⟨J5, sp5, ep5, eq_p5⟩ : ∃ Hx, Same _ Hx ∧ Hx p5 = some _ ∧ upd _ p5 _ = Hx := ⟨_, Same.new hp5 _, upd_same, rfl⟩
  rw [eq_p5]; clear eq_p5
  walk_at "rd"
  refine r_cat (sp5 _ _ eq4) ep5 (Nat.le_of_ble_eq_true rfl) ?_
  intro q5 hq5
  obtain ⟨M5, sq5, eq5, eq_q5⟩ : ∃ Hx, Same _ Hx ∧ Hx q5 = some _ ∧ upd _ q5 _ = Hx := ⟨_, Same.new hq5 _, upd_same, rfl⟩
  rw [eq_q5]; clear eq_q5
  have eh : M5 q5 = some (.lst ((hot i).map V.bl)) := eq5
  have s5 : Same H M5 := ((((((((((((Same.refl H).trans sp0).trans sp1).trans sq1).trans sp2).trans sq2).trans sp3).trans sq3).trans sp4).trans sq4).trans sp5).trans sq5)
  clear eq0 eq1 eq2 eq3 eq4 eq5
  walk_at "rd"
  intro r0 hr0
  obtain ⟨R0, sr0, er0, eqr0⟩ : ∃ Hx, Same M5 Hx ∧ Hx r0 = some (.lst (litW.map V.str)) ∧ upd M5 r0 (.lst (litW.map V.str)) = Hx := ⟨_, Same.new hr0 _, upd_same, rfl⟩
  rw [eqr0]; clear eqr0
  walk_at "rd"
  refine ⟨Nat.le_of_ble_eq_true rfl, ?_⟩
  intro r1 hr1
  obtain ⟨R1, sr1, er1, eq_r1⟩ : ∃ Hx, Same _ Hx ∧ Hx r1 = some _ ∧ upd _ r1 _ = Hx := ⟨_, Same.new hr1 _, upd_same, rfl⟩
  rw [eq_r1]; clear eq_r1
  walk_at "rd"
  refine r_cat (sr1 _ _ er0) er1 (Nat.le_of_ble_eq_true rfl) ?_
  intro r2 hr2
  obtain ⟨R2, sr2, er2, eq_r2⟩ : ∃ Hx, Same _ Hx ∧ Hx r2 = some _ ∧ upd _ r2 _ = Hx := ⟨_, Same.new hr2 _, upd_same, rfl⟩
  rw [eq_r2]; clear eq_r2
  walk_at "rd"
  have sr : Same M5 R2 := (sr0.trans sr1).trans sr2
  have eh2 := sr _ _ eh
  refine ⟨.inl ⟨rfl, _, SqL.of eh2⟩, ?_⟩
  walk_at "rd"
  refine ⟨q5, _, _, rfl, rfl, eh2, rfl, hot_flat i, ?_⟩
  rw [hot_count ⟨i, W.lt⟩]
  walk_at "rd"
  refine r_ifn (fun c => absurd rfl c) (fun _ => ?_)
  walk_at "rd"
  refine r_isi1 (.exc ((s5.trans sr) _ _ e0) W.isi) (.inr ⟨_, rfl⟩) W.v ?_
  walk_at "rd"
  refine r_isi1 (.exc ((s5.trans sr) _ _ e0) W.isi) (.inl ⟨_, rfl⟩) wB ?_
  walk_at "rd"
  refine ⟨.inl ⟨rfl, _, SqL.of eh2⟩, ?_⟩
  walk_at "rd"
  refine ⟨q5, _, _, i, .bl true, rfl, rfl, SqL.of eh2, rfl, hot_flat i, by rw [List.getElem?_map, hot_at ⟨i, W.lt⟩]; rfl, rfl, fun m z hm hz => ?_, ?_⟩
  · rw [List.getElem?_map, hot_no ⟨i, W.lt⟩ ⟨m, Nat.lt_trans hm W.lt⟩ hm] at hz
    cases hz
    rfl
  have wa : ∀ i : Fin 17, (litW.map V.str ++ [V.str "text", V.str "triples", V.str "turning", V.str "many", V.str "unlike"])[i.val]? = some (V.str (wordB i.val)) := by decide +kernel
  refine r_ixL er2 (at_of (j := i) rfl (wa ⟨i, W.lt⟩)) ?_
  exact kk R2 (s5.trans sr)
end
end My
set_option Elab.async false
set_option linter.all false
set_option maxRecDepth 100000
namespace My
open PySem L2
local macro_rules | `(tactic| walk_at "rd1") => `(tactic| first
  | with_reducible refine r_seq ?_ | with_reducible refine r_asg ?_ | with_reducible refine r_name ?_ | with_reducible refine r_ret ?_ | with_reducible refine r_drop ?_ | with_reducible refine r_ifs ?_ | with_reducible refine r_next ?_
  | with_reducible refine r_var rfl ?_ | with_reducible refine r_c ?_ | with_reducible refine r_op ?_ | with_reducible refine r_I0 ?_
  | with_reducible refine r_test ?_ | with_reducible refine r_b ?_ | with_reducible refine r_k ?_ | with_reducible refine r_cons ?_ | with_reducible refine r_nil ?_ | with_reducible refine r_call ?_ | with_reducible refine r_cb ?_
  | with_reducible refine r_lst ?_ | with_reducible refine r_tup ?_ | with_reducible refine r_sub ?_ | with_reducible refine r_andV ?_ | with_reducible refine r_orV ?_ | with_reducible refine r_notV ?_
  | with_reducible refine r_and ?_ | with_reducible refine r_or ?_ | with_reducible refine r_not ?_ | with_reducible refine r_eqI ?_ | with_reducible refine r_neI ?_ | with_reducible refine r_aug rfl ?_ | with_reducible refine r_ipI ?_ | with_reducible refine r_un ?_
  | with_reducible refine r_bm ?_ | with_reducible refine r_bm0 ?_ | with_reducible refine r_yes ?_
  | with_reducible refine r_dnewT ?_ | with_reducible refine r_dget2 ?_ 
  | with_reducible refine r_U ?_ | with_reducible refine r_lit ?_
  | with_reducible refine r_fb ?_ | with_reducible refine r_m1 ?_ | with_reducible refine r_augS ?_ | with_reducible refine r_isNn ?_ | with_reducible refine r_notNn ?_ | with_reducible refine r_isNr ?_ | with_reducible refine r_notNr ?_ | with_reducible refine r_tru ?_ | with_reducible refine r_count ?_
  | with_reducible refine r_for ?_ | with_reducible refine r_lc ?_ | with_reducible refine r_rng1 ?_ | with_reducible refine r_rng2 ?_ | with_reducible refine r_ilist ?_ | with_reducible refine r_itup ?_ | with_reducible refine r_enum ?_
  | with_reducible refine r_sl ?_ | with_reducible refine r_nopart ?_ | with_reducible refine r_part ?_ | with_reducible refine r_int ?_ | with_reducible refine r_gcons ?_ | with_reducible refine r_gnil ?_ | with_reducible refine r_revT ?_
  | with_reducible refine r_intB (fun z hz z0 z1 => ?_) | with_reducible refine r_intI ?_ | with_reducible refine r_min2 ?_ | with_reducible refine r_max2 ?_ | with_reducible refine r_rng1V ?_ | with_reducible refine r_rng2V ?_
  | with_reducible refine r_dget ?_ | with_reducible refine r_disp ?_ | with_reducible refine r_pcons ?_ | with_reducible refine r_pnil ?_ | with_reducible refine r_enumT ?_ | with_reducible refine r_zip ?_ | with_reducible refine r_abs (fun z hz z0 => ?_)
  | with_reducible refine r_try ?_ | with_reducible refine r_dropX ?_ | with_reducible refine r_setX ?_ | with_reducible refine r_callX ?_ | with_reducible refine r_methX ?_ | with_reducible refine r_raise ?_
  | with_reducible refine r_zipI ?_ | with_reducible refine r_zipT ?_ | with_reducible refine r_sfld ?_ | with_reducible refine r_fld ?_ | with_reducible refine r_meth ?_ | with_reducible refine r_make ?_ | with_reducible refine r_notC ?_ | with_reducible refine r_revS ?_ | with_reducible refine r_rev ?_ | with_reducible refine r_dputK ?_ | with_reducible refine r_chain4 ?_ | with_reducible refine r_chain3 ?_ | with_reducible refine r_chain ?_ | with_reducible refine r_din ?_ | with_reducible refine r_dnotin ?_ | with_reducible refine r_ifE ?_
  | ((with_reducible show cIsiR _ _ _ _ _); first | with_reducible refine r_itT (by first | assumption | exact upd_same) ?_ | with_reducible refine r_itL (by first | assumption | exact upd_same) ?_)
  | ((with_reducible show kDGet _ _ _ _); with_reducible refine pot_g (by first | assumption | exact upd_same) ?_) | ((with_reducible show kDGet _ _ _ _); with_reducible refine pot_s (by first | assumption | exact upd_same) ?_) | ((with_reducible show kDGet _ _ _ _); with_reducible refine pot_t (by first | assumption | exact upd_same) ?_)
  | ((with_reducible show kDPut _ _ _ _ _); with_reducible refine pot_pg (by first | assumption | exact upd_same) ?_) | ((with_reducible show kDPut _ _ _ _ _); with_reducible refine pot_pt (by first | assumption | exact upd_same) ?_)
  | with_reducible refine iteT ?_ | with_reducible refine iteF ?_ | with_reducible refine r_nf ?_ | with_reducible refine r_nt ?_
  | with_reducible refine r_ii ?_ | with_reducible refine r_ib ?_
  | ((with_reducible show rIxLF _ _ _ _); with_reducible refine r_ixL (by first | assumption | exact upd_same) rfl ?_)
  | ((with_reducible show rIxTF _ _ _ _); with_reducible refine r_ixT (by first | assumption | exact upd_same) rfl ?_)
  | ((with_reducible show rSetL _ _ _ _ _); with_reducible refine r_setL (by first | assumption | exact upd_same) rfl ?_)
  | ((with_reducible show cLen _ _ _); with_reducible refine r_len (by first | exact sqAt_lst (by assumption) | exact sqAt_tup (by assumption) | exact sqAt_lst upd_same | exact sqAt_tup upd_same) ?_)
  | ((with_reducible show rSlLF _ _ _ _ _); with_reducible refine r_slL (by first | assumption | exact upd_same) ?_)
  | ((with_reducible show gTupF _ _ _ _ _ _); with_reducible refine r_gtup (by first | assumption | exact upd_same) rfl ?_)
  | ((with_reducible show rI _ _ _ _ _ _); first | with_reducible refine r_mod (by omega) ?_ | with_reducible refine r_div (by omega) (by omega) ?_ | with_reducible refine r_mulL (by omega) (by omega) ?_ | with_reducible refine r_mulR (by omega) (by omega) ?_ | with_reducible refine r_pow (by omega) (by omega) (by decide) ?_))
local macro_rules | `(tactic| walk_at "rd") => `(tactic| repeat (first | walk_at "rd1" | (dsimp only; walk_at "rd1")))
structure PlanM (H : Hp) (p l : Addr) (m : Nat) (bs : List (List Int)) : Prop where
  pl : H p = some (.tup [.int (m : Int), .ref l])
  bl : Blks H l bs
  rb : ∀ b ∈ bs, Rise2 m b
  fb : FewB bs
  le : bs.length ≤ 100
  m1 : 1 ≤ m
  m40 : m ≤ 40
def spPlanM (K : PySem.W.Frag) : Sp := fun vs H Q _ => ∃ (a : Addr) (k most : Int) (ns : List Int), vs = [.ref a, .int k, .int most] ∧ SqL K H a (ns.map V.int) ∧ ns.length ≤ 63 ∧ 0 ≤ k ∧ k ≤ 10 ∧ 0 ≤ most ∧ most ≤ 100 ∧ ∀ p l m bs H', Same H H' → PlanM H' p l m bs → Q (.ref p) H'
def spNumb : Sp := fun vs H Q _ => ∃ i : Int, vs = [.int i, .int i] ∧ Q (.bl true) H
def spBlockE : Sp := fun vs H Q _ => ∃ (a b : Addr) (c : List Int), vs = [.ref a, .ref b] ∧ H a = some (.tup (c.map V.int)) ∧ H b = some (.tup (c.map V.int)) ∧ c.length < 1000 ∧ ∀ H', Same H H' → Q (.bl true) H'
def spIsPlan : Sp := fun vs H Q _ => ∃ (p l l2 : Addr) (m : Int) (cs : List (List Int)), vs = [.ref p, .int m, .ref l] ∧ H p = some (.tup [.int m, .ref l2]) ∧ Blks H l2 cs ∧ Blks H l cs ∧ cs.length < 1000 ∧ (∀ c ∈ cs, c.length < 1000) ∧ ∀ H', Same H H' → Q (.bl true) H'
section
variable {P : Program} {w : World} {K : PySem.W.Frag} {mg : Str → Option Value} {base : Heap}
structure TxPlanM (P : Program) (w : World) (K : PySem.W.Frag) (mg : Str → Option Value) (base : Heap) : Prop where
  sorted : mg "sorted" = none
  _law_box : Has P w K mg base 1 "_law_box" ["_law_script", "_law_k"] (spBox K)
  _law_next : Has P w K mg base 1 "_law_next" ["_law_box_here", "_law_many"] spNext
  _law_masks : Has P w K mg base 3 "_law_masks" ["_law_script", "_law_start", "_law_many", "_law_most"] (spMasks K)
  _law_even : Has P w K mg base 3 "_law_even" ["_law_box_here"] spEvenL
abbrev sPlan : Stmt := top 37
theorem scPlan : FnScope ["_law_script", "_law_k", "_law_most", "_law_box_here", "_law_many"] ["_law_script", "_law_k", "_law_most"] (defScope sPlan) := ⟨rfl, rfl, rfl, by decide +kernel, rfl, by decide +kernel, by decide +kernel⟩
set_option maxHeartbeats 1000000 in
theorem has_planM (F : FunAt K mg "_law_plan" sPlan ["_law_script", "_law_k", "_law_most"]) (T : TxPlanM P w K mg base) : Has P w K mg base 4 "_law_plan" ["_law_script", "_law_k", "_law_most"] (spPlanM K) := by
  refine F.has scPlan (fun vs H Q E h => ?_) (fun f cdv A outer s H vs Q E hr h => ?_)
  · obtain ⟨a, k, most, ns, rfl, _⟩ := h
    rfl
  obtain ⟨a, k, most, ns, rfl, hS, ln, k0, k1, mo0, mo1, kk⟩ := h
  refine ⟨_, (pss_cons (ps_set (i := 3) scPlan.nd rfl (Or.inl rfl) (pcall T._law_box hr (by decide) (by rfl) (pa_cons (pv 0) (pa_cons (pv 1) pa_nil))))
    (pss_cons (ps_if (pt_cmpR op_eq (pcall T._law_next hr (by decide) (by rfl) (pa_cons (pv 3) (pa_cons pe_int pa_nil))) pe_int (nomark _))
    (pss_one (ps_ret (pcall T._law_even hr (by decide) (by rfl) (pa_cons (pv 3) pa_nil))))
    pss_nil)
    (pss_cons (ps_set (i := 4) scPlan.nd rfl (Or.inl rfl) (pe_op op_add pe_int (pcall T._law_next hr (by decide) (by rfl) (pa_cons (pv 3) (pa_cons (pe_ix ix_listF (pe_lst (pa_cons pe_int (pa_cons pe_int (pa_cons pe_int pa_nil)))) (pcall T._law_next hr (by decide) (by rfl) (pa_cons (pv 3) (pa_cons pe_int pa_nil))) (fun _ _ => rfl)) pa_nil)))))
    (pss_one (ps_ret (pe_tup (pa_cons (pv 4) (pa_cons (pe_callB (k_sortM hr.units) (by rfl) T.sorted (by decide +kernel) (pa_cons (pcall T._law_masks hr (by decide) (by rfl) (pa_cons (pv 0) (pa_cons (pe_op op_add (pv 1) pe_int) (pa_cons (pv 4) (pa_cons (pv 2) pa_nil))))) pa_nil)) pa_nil)))))))), ?_⟩
  walk_at "rd"
  refine ⟨a, k, ns, rfl, hS, by omega, by omega, fun q b0 b1 b2 hq ok => ?_⟩
  walk_at "rd"
  refine ⟨q, 3, b0, b1, b2, rfl, upd_same, ok, by decide, by decide, fun way c0 c1 c2 w0 w1 ok1 => ?_⟩
  have g1 : Same H (upd (upd H q (boxO b0 b1 b2)) q (boxO c0 c1 c2)) := (Same.new hq _).late hq _
  have hq1 : upd (upd H q (boxO b0 b1 b2)) q (boxO c0 c1 c2) q = some (boxO c0 c1 c2) := upd_same
  generalize upd (upd H q (boxO b0 b1 b2)) q (boxO c0 c1 c2) = H1 at g1 hq1
  walk_at "rd"
  refine r_if (fun c => ?_) (fun c => ?_)
  · walk_at "rd"
    refine ⟨q, rfl, ⟨c0, c1, c2, hq1, ok1⟩, fun p m l bs z H5 ep _ s5 => ?_⟩
    have g5 : Same H H5 := g1.sam1 hq s5
    exact kk p l m bs H5 g5 ⟨ep.pl, ep.bl, fun b hb => (ep.ok b hb).1, .inr (fun b hb e => by have := (ep.ok b hb).2; have z2 := ep.z2; rw [e] at this; simp at this; omega), ep.le, by have := ep.m2; omega, by have := ep.m21; omega⟩
  · walk_at "rd"
    refine ⟨by show 3 ≤ sizeLine; decide, fun p1 hp1 => ?_⟩
    have hp1q : p1 ≠ q := fun e => by rw [e, hq1] at hp1; cases hp1
    walk_at "rd"
    refine ⟨q, 3, c0, c1, c2, rfl, upk hq1 hp1, ok1, by decide, by decide, fun r2 d0 d1 d2 r20 r21 ok2 => ?_⟩
    obtain ⟨md, hmd, hmm⟩ := atI_ints (ns := [7, 7, 40]) r20 r21
    have hmd2 : 7 ≤ md ∧ md ≤ 40 := by
      simp only [List.mem_cons, List.not_mem_nil, or_false] at hmm
      omega
    refine r_ixL (xs := [7, 7, 40].map V.int) ((upd_ne hp1q).trans upd_same) hmd ?_
    walk_at "rd"
    refine ⟨q, md, d0, d1, d2, rfl, upd_same, ok2, by omega, by omega, fun r3 e0 e1 e2 r30 r31 ok3 => ?_⟩
    have g3 : Same H (upd (upd (upd H1 p1 (.lst [.int 7, .int 7, .int 40])) q (boxO d0 d1 d2)) q (boxO e0 e1 e2)) := ((g1.trans (Same.new hp1 _)).late hq _).late hq _
    generalize upd (upd (upd H1 p1 (.lst [.int 7, .int 7, .int 40])) q (boxO d0 d1 d2)) q (boxO e0 e1 e2) = H3 at g3
    walk_at "rd"
    refine ⟨a, k + 1, 1 + r3, most, ns, rfl, g3.seq hS, ln, by omega, by omega, by omega, by omega, by omega, by omega, fun rb bs H4 s4 _ hB lB bk => ?_⟩
    walk_at "rd"
    refine ⟨rb, bs, rfl, hB, .inl (by omega), fun cs l5 H5 hpm hs hl5 s5 hB5 => ?_⟩
    walk_at "rd"
    obtain ⟨m, hm⟩ : ∃ m : Nat, 1 + r3 = (m : Int) := ⟨(1 + r3).toNat, by omega⟩
    rw [hm] at bk ⊢
    refine ⟨Nat.le_of_ble_eq_true rfl, ?_⟩
    intro p6 hp6
    obtain ⟨H6, s6, e6, eq_p6⟩ : ∃ Hx, Same _ Hx ∧ Hx p6 = some _ ∧ upd _ p6 _ = Hx := ⟨_, Same.new hp6 _, upd_same, rfl⟩
    rw [eq_p6]; clear eq_p6
    refine kk p6 l5 m cs H6 (g3.trans (s4.trans (s5.trans s6))) ⟨e6, hB5.same s6, fun b hb => bk b (hpm.mem_iff.mp hb), .inl (by rw [hpm.length_eq]; omega), by rw [hpm.length_eq]; omega, by omega, by omega⟩
end
end My
set_option Elab.async false
set_option linter.all false
set_option maxRecDepth 100000
namespace My
open PySem PySem.Spec L2
local macro_rules | `(tactic| walk_at "rd1") => `(tactic| first
  | with_reducible refine r_seq ?_ | with_reducible refine r_asg ?_ | with_reducible refine r_name ?_ | with_reducible refine r_ret ?_ | with_reducible refine r_drop ?_ | with_reducible refine r_ifs ?_ | with_reducible refine r_next ?_
  | with_reducible refine r_var rfl ?_ | with_reducible refine r_c ?_ | with_reducible refine r_op ?_ | with_reducible refine r_I0 ?_
  | with_reducible refine r_test ?_ | with_reducible refine r_b ?_ | with_reducible refine r_k ?_ | with_reducible refine r_cons ?_ | with_reducible refine r_nil ?_ | with_reducible refine r_call ?_ | with_reducible refine r_cb ?_
  | with_reducible refine r_lst ?_ | with_reducible refine r_tup ?_ | with_reducible refine r_sub ?_ | with_reducible refine r_andV ?_ | with_reducible refine r_orV ?_ | with_reducible refine r_notV ?_
  | with_reducible refine r_and ?_ | with_reducible refine r_or ?_ | with_reducible refine r_not ?_ | with_reducible refine r_eqI ?_ | with_reducible refine r_neI ?_ | with_reducible refine r_aug rfl ?_ | with_reducible refine r_ipI ?_ | with_reducible refine r_un ?_
  | with_reducible refine r_bm ?_ | with_reducible refine r_bm0 ?_ | with_reducible refine r_yes ?_
  | with_reducible refine r_dnewT ?_ | with_reducible refine r_dget2 ?_ 
  | with_reducible refine r_U ?_ | with_reducible refine r_lit ?_
  | with_reducible refine r_fb ?_ | with_reducible refine r_m1 ?_ | with_reducible refine r_augS ?_ | with_reducible refine r_isNn ?_ | with_reducible refine r_notNn ?_ | with_reducible refine r_isNr ?_ | with_reducible refine r_notNr ?_ | with_reducible refine r_tru ?_ | with_reducible refine r_count ?_
  | with_reducible refine r_for ?_ | with_reducible refine r_dc ?_ | with_reducible refine r_lc ?_ | with_reducible refine r_sc ?_ | with_reducible refine r_zipN ?_ | with_reducible refine r_ifX ?_ | with_reducible refine r_zip3 ?_ | with_reducible refine r_rng1 ?_ | with_reducible refine r_rng2 ?_ | with_reducible refine r_ilist ?_ | with_reducible refine r_itup ?_ | with_reducible refine r_enum ?_
  | with_reducible refine r_sl ?_ | with_reducible refine r_nopart ?_ | with_reducible refine r_part ?_ | with_reducible refine r_int ?_ | with_reducible refine r_gcons ?_ | with_reducible refine r_gnil ?_ | with_reducible refine r_revT ?_
  | with_reducible refine r_intB (fun z hz z0 z1 => ?_) | with_reducible refine r_intI ?_ | with_reducible refine r_min2 ?_ | with_reducible refine r_max2 ?_ | with_reducible refine r_rng1V ?_ | with_reducible refine r_rng2V ?_
  | with_reducible refine r_dget ?_ | with_reducible refine r_disp ?_ | with_reducible refine r_pcons ?_ | with_reducible refine r_pnil ?_ | with_reducible refine r_enumT ?_ | with_reducible refine r_zip ?_ | with_reducible refine r_abs (fun z hz z0 => ?_)
  | with_reducible refine r_try ?_ | with_reducible refine r_try0 ?_ | with_reducible refine r_dropX ?_ | with_reducible refine r_setX ?_ | with_reducible refine r_callX ?_ | with_reducible refine r_methX ?_ | with_reducible refine r_raise ?_
  | with_reducible refine r_zipI ?_ | with_reducible refine r_zipT ?_ | with_reducible refine r_sfld ?_ | with_reducible refine r_fld ?_ | with_reducible refine r_meth ?_ | with_reducible refine r_make ?_ | with_reducible refine r_notC ?_ | with_reducible refine r_revS ?_ | with_reducible refine r_rev ?_ | with_reducible refine r_dputK ?_ | with_reducible refine r_chain4 ?_ | with_reducible refine r_chain3 ?_ | with_reducible refine r_chain ?_ | with_reducible refine r_din ?_ | with_reducible refine r_dnotin ?_ | with_reducible refine r_ifE ?_
  | ((with_reducible show cIsiR _ _ _ _ _); first | with_reducible refine r_itT (by first | assumption | exact upd_same) ?_ | with_reducible refine r_itL (by first | assumption | exact upd_same) ?_)
  | ((with_reducible show kDGet _ _ _ _); with_reducible refine pot_g (by first | assumption | exact upd_same) ?_) | ((with_reducible show kDGet _ _ _ _); with_reducible refine pot_s (by first | assumption | exact upd_same) ?_) | ((with_reducible show kDGet _ _ _ _); with_reducible refine pot_t (by first | assumption | exact upd_same) ?_)
  | ((with_reducible show kDPut _ _ _ _ _); with_reducible refine pot_pg (by first | assumption | exact upd_same) ?_) | ((with_reducible show kDPut _ _ _ _ _); with_reducible refine pot_pt (by first | assumption | exact upd_same) ?_)
  | with_reducible refine iteT ?_ | with_reducible refine iteF ?_ | with_reducible refine r_nf ?_ | with_reducible refine r_nt ?_
  | with_reducible refine r_ii ?_ | with_reducible refine r_ib ?_
  | ((with_reducible show rIxLF _ _ _ _); with_reducible refine r_ixL (by first | assumption | exact upd_same) rfl ?_)
  | ((with_reducible show rIxTF _ _ _ _); with_reducible refine r_ixT (by first | assumption | exact upd_same) rfl ?_)
  | ((with_reducible show rSetL _ _ _ _ _); with_reducible refine r_setL (by first | assumption | exact upd_same) rfl ?_)
  | ((with_reducible show cLen _ _ _); with_reducible refine r_len (by first | exact sqAt_lst (by assumption) | exact sqAt_tup (by assumption) | exact sqAt_lst upd_same | exact sqAt_tup upd_same) ?_)
  | ((with_reducible show rSlLF _ _ _ _ _); with_reducible refine r_slL (by first | assumption | exact upd_same) ?_)
  | ((with_reducible show gTupF _ _ _ _ _ _); with_reducible refine r_gtup (by first | assumption | exact upd_same) rfl ?_)
  | ((with_reducible show rI _ _ _ _ _ _); first | with_reducible refine r_mod (by omega) ?_ | with_reducible refine r_div (by omega) (by omega) ?_ | with_reducible refine r_mulL (by omega) (by omega) ?_ | with_reducible refine r_mulR (by omega) (by omega) ?_ | with_reducible refine r_pow (by omega) (by omega) (by decide) ?_))
local macro_rules | `(tactic| walk_at "rd") => `(tactic| repeat (first | walk_at "rd1" | (dsimp only; walk_at "rd1")))
structure PlanR (H : Hp) (p l : Addr) (m : Nat) (bs : List (List Int)) : Prop where
  tup : H p = some (.tup [.int (m : Int), .ref l])
  blk : Blks H l bs
  rb : ∀ b ∈ bs, Rise2 m b
  le : bs.length ≤ 150
  m60 : m ≤ 60
theorem PlanR.same {H H' : Hp} {p l : Addr} {m : Nat} {bs : List (List Int)} (h : PlanR H p l m bs) (s : Same H H') : PlanR H' p l m bs := ⟨s _ _ h.tup, h.blk.same s, h.rb, h.le, h.m60⟩
theorem PlanR.c {H : Hp} {p l : Addr} {m : Nat} {bs : List (List Int)} (h : PlanR H p l m bs) : PlanC H p l m bs := ⟨h.tup, h.blk, by have := h.le; omega, fun b hb => (h.rb b hb).1, fun b hb => by have := rise_len (h.rb b hb); have := h.m60; omega, by have := h.m60; omega⟩
open Classical in
inductive Deed (H : Hp) (m : Nat) (bs : List (List Int)) : Str → V → Option Nat → Prop
  | moved {r : Addr} {o : List Int} : H r = some (.lst (o.map V.int)) → o.length ≤ 100 → m ≤ 40 → Deed H m bs "moved" (.ref r) (if o.length = m ∧ isort o = rngV 0 m then none else some 14)
  | beside {p2 l2 : Addr} {m2 : Int} {cs : List (List Int)} : H p2 = some (.tup [.int m2, .ref l2]) → Blks H l2 cs → cs.length ≤ 200 → Deed H m bs "beside" (.ref p2) (if (m : Int) = m2 then none else some 16)
  | swapped {z : Int} : Deed H m bs "swapped" (.int z) (if bs = [] then some 1 else none)
  | within {z : Int} : Deed H m bs "within" (.int z) (if ∃ (j : Nat) (b : List Int), z = (j : Int) ∧ bs[j]? = some b ∧ b ≠ [] then none else some 1)
  | without {z : Int} : Deed H m bs "without" (.int z) (if ∃ (j : Nat) (b : List Int), z = (j : Int) ∧ bs[j]? = some b ∧ compl m b ≠ [] then none else some 1)
theorem Deed.same {H H' : Hp} {m : Nat} {bs : List (List Int)} {x : Str} {t : V} {o : Option Nat} (h : Deed H m bs x t o) (s : Same H H') : Deed H' m bs x t o := by
  cases h with
  | moved a b c => exact .moved (s _ _ a) b c
  | beside a b c => exact .beside (s _ _ a) (b.same s) c
  | swapped => exact .swapped
  | within => exact .within
  | without => exact .without
def clB (CT CU CB : Addr) (i : Nat) : Addr := if i = 14 then CT else if i = 16 then CU else CB
def ansB : Option Nat → Str
  | none => "told"
  | some i => wordB i
def spToldX (CT CU CB : Addr) : Sp := fun vs H Q E => ∃ (p l : Addr) (m : Nat) (bs : List (List Int)) (x : Str) (t : V) (o : Option Nat), vs = [.str x, .ref p, t] ∧ PlanR H p l m bs ∧ Deed H m bs x t o ∧
  (o = none → ∀ v H', Same H H' → Q v H') ∧ (∀ i, o = some i → ∀ H', Same H H' → E (.ref (clB CT CU CB i)) none H')
def spRefB : Sp := fun vs H Q _ => ∃ (p l : Addr) (m : Nat) (bs : List (List Int)) (x : Str) (t : V) (o : Option Nat), vs = [.str x, .ref p, t] ∧ PlanR H p l m bs ∧ Deed H m bs x t o ∧ ∀ H', Same H H' → Q (.str (ansB o)) H'
section
variable {P : Program} {w : World} {K : PySem.W.Frag} {mg : Str → Option Value} {base : Heap}
structure TxToldX (P : Program) (w : World) (K : PySem.W.Frag) (mg : Str → Option Value) (base : Heap) (CT CU CB : Addr) : Prop where
  moved : HasX P w K mg base 1 "moved" ["plan", "turning"] (spMovedX CT)
  beside : HasX P w K mg base 1 "beside" ["one", "other"] (spBesideX CU)
  swapped : HasX P w K mg base 1 "swapped" ["plan"] (spSwappedX CB)
  within : HasX P w K mg base 2 "within" ["plan", "place"] (spWithin false CB)
  without : HasX P w K mg base 2 "without" ["plan", "place"] (spWithin true CB)
abbrev sTold : Stmt := top 39
theorem scTold : FnScope ["_law_which", "_law_plan_here", "_law_thing"] ["_law_which", "_law_plan_here", "_law_thing"] (defScope sTold) := ⟨rfl, rfl, rfl, by decide +kernel, rfl, by decide +kernel, by decide +kernel⟩
set_option maxHeartbeats 1000000 in
theorem has_toldX {CT CU CB : Addr} (F : FunAt K mg "_law_told" sTold ["_law_which", "_law_plan_here", "_law_thing"]) (T : TxToldX P w K mg base CT CU CB) : HasX P w K mg base 3 "_law_told" ["_law_which", "_law_plan_here", "_law_thing"] (spToldX CT CU CB) := by
  refine F.hasX scTold (fun vs H Q E h => ?_) (fun f cdv A0 outer s H vs Q E hr h => ?_)
  · obtain ⟨p, l, m, bs, x, t, o, rfl, _⟩ := h
    rfl
  obtain ⟨p, l, m, bs, x, t, o, rfl, R, D, kq, ke⟩ := h
  refine ⟨_, (pss_cons (ps_if (pt_cmpR op_eq (pv 0) pe_str (nomark _))
    (pss_one (ps_ret (pcallX raises T.moved hr (by decide) (by rfl) (pa_cons (pv 1) (pa_cons (pv 2) pa_nil)))))
    pss_nil)
    (pss_cons (ps_if (pt_cmpR op_eq (pv 0) pe_str (nomark _))
    (pss_one (ps_ret (pcallX raises T.beside hr (by decide) (by rfl) (pa_cons (pv 1) (pa_cons (pv 2) pa_nil)))))
    pss_nil)
    (pss_cons (ps_if (pt_cmpR op_eq (pv 0) pe_str (nomark _))
    (pss_one (ps_ret (pcallX raises T.swapped hr (by decide) (by rfl) (pa_cons (pv 1) pa_nil))))
    pss_nil)
    (pss_cons (ps_if (pt_cmpR op_eq (pv 0) pe_str (nomark _))
    (pss_one (ps_ret (pcallX raises T.within hr (by decide) (by rfl) (pa_cons (pv 1) (pa_cons (pv 2) pa_nil)))))
    pss_nil)
    (pss_one (ps_ret (pcallX raises T.without hr (by decide) (by rfl) (pa_cons (pv 1) (pa_cons (pv 2) pa_nil))))))))), ?_⟩
  have PC := R.c
  have le := R.le
  have m60 := R.m60
  cases D with
  | @moved r o a b c =>
    walk_at "rd"
    refine r_eq rfl ?_
    rw [decide_eq_true rfl]
    walk_at "rd"
    refine ⟨p, l, r, m, bs, o, rfl, R.tup, R.blk, a, R.rb, by omega, c, b, fun g q H' s' => ?_, fun g H' s' => ?_⟩
    · exact kq (if_pos g) _ _ s'
    · exact ke 14 (if_neg g) _ s'
  | @beside p2 l2 m2 cs a b c =>
    walk_at "rd"
    refine r_eq rfl ?_
    rw [decide_eq_false (by decide)]
    walk_at "rd"
    refine r_eq rfl ?_
    rw [decide_eq_true rfl]
    walk_at "rd"
    refine ⟨p, p2, l, l2, (m : Int), m2, bs, cs, rfl, R.tup, a, R.blk, b, by omega, c, fun g q H' s' => ?_, fun g H' s' => ?_⟩
    · exact kq (if_pos g) _ _ s'
    · exact ke 16 (if_neg g) _ s'
  | @swapped z =>
    walk_at "rd"
    refine r_eq rfl ?_
    rw [decide_eq_false (by decide)]
    walk_at "rd"
    refine r_eq rfl ?_
    rw [decide_eq_false (by decide)]
    walk_at "rd"
    refine r_eq rfl ?_
    rw [decide_eq_true rfl]
    walk_at "rd"
    refine ⟨p, l, m, bs, rfl, R.tup, R.blk, R.rb, by omega, by omega, fun g q H' s' => ?_, fun g H' s' => ?_⟩
    · exact kq (if_neg g) _ _ s'
    · exact ke 1 (if_pos g) _ s'
  | @within z =>
    walk_at "rd"
    refine r_eq rfl ?_
    rw [decide_eq_false (by decide)]
    walk_at "rd"
    refine r_eq rfl ?_
    rw [decide_eq_false (by decide)]
    walk_at "rd"
    refine r_eq rfl ?_
    rw [decide_eq_false (by decide)]
    walk_at "rd"
    refine r_eq rfl ?_
    rw [decide_eq_true rfl]
    walk_at "rd"
    refine ⟨p, l, m, z, bs, rfl, PC, fun j b ts ez hb ets => ⟨fun ne q l2 cs H' s' _ _ _ _ => ?_, fun em H' s' => ?_⟩, fun bad H' s' => ?_⟩
    · have ets : ts = b := ets
      subst ets
      exact kq (if_pos ⟨j, ts, ez, hb, ne⟩) _ _ s'
    · have ets : ts = b := ets
      subst ets
      refine ke 1 (if_neg ?_) _ s'
      rintro ⟨j', b', ez', hb', ne⟩
      obtain rfl : j = j' := by omega
      rw [hb] at hb'
      cases hb'
      exact ne em
    · refine ke 1 (if_neg ?_) _ s'
      rintro ⟨j', b', ez', hb', ne⟩
      have := (List.getElem?_eq_some_iff.mp hb').1
      omega
  | @without z =>
    walk_at "rd"
    refine r_eq rfl ?_
    rw [decide_eq_false (by decide)]
    walk_at "rd"
    refine r_eq rfl ?_
    rw [decide_eq_false (by decide)]
    walk_at "rd"
    refine r_eq rfl ?_
    rw [decide_eq_false (by decide)]
    walk_at "rd"
    refine r_eq rfl ?_
    rw [decide_eq_false (by decide)]
    walk_at "rd"
    refine ⟨p, l, m, z, bs, rfl, PC, fun j b ts ez hb ets => ⟨fun ne q l2 cs H' s' _ _ _ _ => ?_, fun em H' s' => ?_⟩, fun bad H' s' => ?_⟩
    · have ets : ts = compl m b := ets
      exact kq (if_pos ⟨j, b, ez, hb, ets ▸ ne⟩) _ _ s'
    · have ets : ts = compl m b := ets
      refine ke 1 (if_neg ?_) _ s'
      rintro ⟨j', b', ez', hb', ne⟩
      obtain rfl : j = j' := by omega
      rw [hb] at hb'
      cases hb'
      exact ne (ets ▸ em)
    · refine ke 1 (if_neg ?_) _ s'
      rintro ⟨j', b', ez', hb', ne⟩
      have := (List.getElem?_eq_some_iff.mp hb').1
      omega
theorem r_nePl {K : PySem.W.Frag} {H : Hp} {Q : VK} {p q a b : Addr} {m : Int} {bs : List (List Int)} (hp : H p = some (.tup [.int m, .ref a])) (ha : Blks H a bs) (hq : H q = some (.tup [.int m, .ref b])) (hb : Blks H b bs) (h : Q (.bl false) H) : rNeD K (.ref p) (.ref q) H Q := by
  refine ⟨.tuple [.int m, .list (dB bs)], .tuple [.int m, .list (dB bs)], .tup (SqT.of hp) (.cons (.int m) (.cons (dp_blks ha) .nil)), .tup (SqT.of hq) (.cons (.int m) (.cons (dp_blks hb) .nil)), sh_plan _ _, sh_plan _ _, ?_⟩
  have : PyData.eqv (.tuple [.int m, .list (dB bs)]) (.tuple [.int m, .list (dB bs)]) = true := by
    show ((m == m) && (PyData.eqvAll (dB bs) (dB bs) && true)) = true
    rw [eqvA_blks]
    simp
  rw [this]
  exact h
structure TxRefB (P : Program) (w : World) (K : PySem.W.Frag) (mg : Str → Option Value) (base : Heap) (CT CU CB CE : Addr) (cs : List Addr) : Prop where
  list : mg "list" = none
  BlockError : XTop K mg "BlockError" CE
  sub : ∀ i ∈ [14, 16, 1], PySem.W.mroIn K (clB CT CU CB i) (.ref CE) = some true
  wd : ∀ i ∈ [14, 16, 1], Wd K cs (clB CT CU CB i) i
  be : ∀ i ∈ [14, 16, 1], PySem.W.kitOne K (.ref (clB CT CU CB i)) (.ref CE) = some true
  _law_told_x : HasX P w K mg base 3 "_law_told" ["_law_which", "_law_plan_here", "_law_thing"] (spToldX CT CU CB)
  _law_word : Has P w K mg base 1 "_law_word" ["_law_caught"] (spWordB K cs CE)
abbrev sRefused : Stmt := top 40
theorem scRefused : FnScope ["_law_which", "_law_plan_here", "_law_thing", "_law_caught", "_law_kept", "e"] ["_law_which", "_law_plan_here", "_law_thing"] (defScope sRefused) := ⟨rfl, rfl, rfl, by decide +kernel, rfl, by decide +kernel, by decide +kernel⟩
set_option maxHeartbeats 1000000 in
theorem has_refB {CT CU CB CE : Addr} {cs : List Addr} (F : FunAt K mg "_law_refused" sRefused ["_law_which", "_law_plan_here", "_law_thing"]) (T : TxRefB P w K mg base CT CU CB CE cs) : Has P w K mg base 5 "_law_refused" ["_law_which", "_law_plan_here", "_law_thing"] spRefB := by
  refine F.has scRefused (fun vs H Q E h => ?_) (fun f cdv A outer s H vs Q E hr h => ?_)
  · obtain ⟨p, l, m, bs, x, t, o, rfl, _⟩ := h
    rfl
  obtain ⟨p, l, m, bs, x, t, o, rfl, R, D, kk⟩ := h
  refine ⟨_, (pss_cons (ps_set (i := 3) scRefused.nd rfl (Or.inl rfl) pe_non)
    (pss_cons (ps_set (i := 4) scRefused.nd rfl (Or.inl rfl) (pe_tup (pa_cons (pe_ix ix_tupF (pv 1) pe_int (fun _ _ => rfl)) (pa_cons (pe_callTy k_list (by rfl) T.list (by decide +kernel) (pa_cons (pe_ix ix_tupF (pv 1) pe_int (fun _ _ => rfl)) pa_nil)) pa_nil))))
    (pss_cons (ps_try (i := 5) rfl rfl T.BlockError (by rfl) scRefused.nd rfl rfl
    (psx_expr (pex_call T._law_told_x hr (by decide) (by rfl) (pa_cons (pv 0) (pa_cons (pv 1) (pa_cons (pv 2) pa_nil)))))
    (fun _ => (pss_one (ps_set (i := 3) scRefused.nd rfl (Or.inl rfl) (pv 5)))))
    (pss_cons (ps_if (pt_cmpR (op_neD hr.units) (pv 1) (pv 4) (nomark _))
    (pss_one (ps_ret pe_str))
    pss_nil)
    (pss_cons (ps_if (pt_cmpR op_isNF (pv 3) pe_non (nomark _))
    (pss_one (ps_ret pe_str))
    pss_nil)
    (pss_one (ps_ret (pcall T._law_word hr (by decide) (by rfl) (pa_cons (pv 3) pa_nil))))))))), ?_⟩
  obtain ⟨ps, el, tu⟩ := id R.blk
  have et := R.tup
  walk_at "rd"
  refine r_list (sqAt_lst el) ?_
  intro l1 hl1
  obtain ⟨H1, s1, e1, eq_l1⟩ : ∃ Hx, Same _ Hx ∧ Hx l1 = some _ ∧ upd _ l1 _ = Hx := ⟨_, Same.new hl1 _, upd_same, rfl⟩
  rw [eq_l1]; clear eq_l1
  walk_at "rd"
  refine ⟨Nat.le_of_ble_eq_true rfl, ?_⟩
  intro p2 hp2
  obtain ⟨H2, s2, e2, eq_p2⟩ : ∃ Hx, Same _ Hx ∧ Hx p2 = some _ ∧ upd _ p2 _ = Hx := ⟨_, Same.new hp2 _, upd_same, rfl⟩
  rw [eq_p2]; clear eq_p2
  have s12 := s1.trans s2
  walk_at "rd"
  have io : ∀ i, o = some i → i ∈ [14, 16, 1] := by
    intro i hi
    cases D <;> (split at hi <;> cases hi <;> decide)
  refine ⟨p, l, m, bs, x, t, o, rfl, R.same s12, D.same s12, fun e v H3 s3 => ?_, fun i e H3 s3 => ?_⟩
  · walk_at "rd"
    refine r_nePl (s3 _ _ (s12 _ _ et)) (R.blk.same (s12.trans s3)) (s3 _ _ e2) ⟨ps, s3 _ _ (s2 _ _ e1), tu.same (s12.trans s3)⟩ ?_
    walk_at "rd"
    have := kk H3 (s12.trans s3)
    rw [e] at this
    exact this
  · refine ⟨_, rfl, T.sub i (io i e), fun y hy => ?_⟩
    obtain ⟨J0, s0, e0, eq0⟩ : ∃ Hx, Same H3 Hx ∧ Hx y = some (.ext (xcO y (clB CT CU CB i))) ∧ upd H3 y (.ext (xcO y (clB CT CU CB i))) = Hx := ⟨_, Same.new hy _, upd_same, rfl⟩
    rw [eq0]
    clear eq0
    have s30 := s3.trans s0
    walk_at "rd"
    refine r_nePl (s30 _ _ (s12 _ _ et)) (R.blk.same (s12.trans s30)) (s30 _ _ e2) ⟨ps, s30 _ _ (s2 _ _ e1), tu.same (s12.trans s30)⟩ ?_
    walk_at "rd"
    refine ⟨y, _, i, rfl, e0, T.wd i (io i e), T.be i (io i e), fun H4 s4 => ?_⟩
    have := kk H4 ((s12.trans s30).trans s4)
    rw [e] at this
    exact this
def spGoodB : Sp := fun vs H Q _ => ∃ (p l r : Addr) (m : Nat) (bs : List (List Int)) (o : List Int), vs = [.ref p, .ref r] ∧ PlanR H p l m bs ∧ m ≤ 40 ∧ H r = some (.lst (o.map V.int)) ∧ Turng m o ∧ bs[0]? = some [] ∧ bs[1]? = some (rngV 0 m) ∧ 0 < m ∧ ∀ H', Same H H' → Q (.bl true) H'
structure TxGoodB (P : Program) (w : World) (K : PySem.W.Frag) (mg : Str → Option Value) (base : Heap) : Prop where
  _law_refused : Has P w K mg base 5 "_law_refused" ["_law_which", "_law_plan_here", "_law_thing"] spRefB
abbrev sGood : Stmt := top 42
theorem scGood : FnScope ["_law_plan_here", "_law_order_here", "_law_rows", "_law_which", "_law_thing"] ["_law_plan_here", "_law_order_here"] (defScope sGood) := ⟨rfl, rfl, rfl, by decide +kernel, rfl, by decide +kernel, by decide +kernel⟩
set_option maxHeartbeats 1000000 in
theorem has_goodB (F : FunAt K mg "_law_good" sGood ["_law_plan_here", "_law_order_here"]) (T : TxGoodB P w K mg base) : Has P w K mg base 6 "_law_good" ["_law_plan_here", "_law_order_here"] spGoodB := by
  refine F.has scGood (fun vs H Q E h => ?_) (fun f cdv A outer s H vs Q E hr h => ?_)
  · obtain ⟨p, l, r, m, bs, o, rfl, _⟩ := h
    rfl
  obtain ⟨p, l, r, m, bs, o, rfl, R, m40, er, to, b0, b1, m0, kk⟩ := h
  refine ⟨_, (pss_cons (ps_set (i := 2) scGood.nd rfl (Or.inl rfl) (pe_lst (pa_cons (pe_tup (pa_cons pe_str (pa_cons (pv 1) pa_nil))) (pa_cons (pe_tup (pa_cons pe_str (pa_cons (pv 0) pa_nil))) (pa_cons (pe_tup (pa_cons pe_str (pa_cons pe_int pa_nil))) (pa_cons (pe_tup (pa_cons pe_str (pa_cons pe_int pa_nil))) (pa_cons (pe_tup (pa_cons pe_str (pa_cons pe_int pa_nil))) pa_nil)))))))
    (pss_one (ps_ret (pe_cmpR (op_eqD hr.units) (pe_lc (own := [("_law_which", 3), ("_law_thing", 4)])  (by rfl) scGood.nd (pi_list (pv 2)) (blkOk_by (own := [("_law_which", 3), ("_law_thing", 4)]) (N := ["_law_plan_here", "_law_order_here", "_law_rows", "_law_which", "_law_thing"]) (sc := defScope sGood) (by decide +kernel)) (fun _ _ _ _ _ => (pg_tupF (n := 2) (by rfl) (pgs_cons (pg_name (i := 3) scGood.nd rfl (Or.inl rfl)) (pgs_cons (pg_name (i := 4) scGood.nd rfl (Or.inl rfl)) pgs_nil)))) (fun _ _ _ _ _ => pts_one (pt_cmpR op_ne (pcall T._law_refused hr (by decide) (by rfl) (pa_cons (pv 3) (pa_cons (pv 0) (pa_cons (pv 4) pa_nil)))) pe_str (nomark _))) (fun _ _ _ _ _ => by exact (pv 3))) (pe_lst pa_nil) (nomark _))))), ?_⟩
  have le := R.le
  walk_at "rd"
  refine ⟨Nat.le_of_ble_eq_true rfl, ?_⟩
  intro t1 ht1
  obtain ⟨H1, s1, e1, eq_t1⟩ : ∃ Hx, Same _ Hx ∧ Hx t1 = some _ ∧ upd _ t1 _ = Hx := ⟨_, Same.new ht1 _, upd_same, rfl⟩
  rw [eq_t1]; clear eq_t1
  walk_at "rd"
  refine ⟨Nat.le_of_ble_eq_true rfl, ?_⟩
  intro t2 ht2
  obtain ⟨H2, s2, e2, eq_t2⟩ : ∃ Hx, Same _ Hx ∧ Hx t2 = some _ ∧ upd _ t2 _ = Hx := ⟨_, Same.new ht2 _, upd_same, rfl⟩
  rw [eq_t2]; clear eq_t2
  walk_at "rd"
  refine ⟨Nat.le_of_ble_eq_true rfl, ?_⟩
  intro t3 ht3
  obtain ⟨H3, s3, e3, eq_t3⟩ : ∃ Hx, Same _ Hx ∧ Hx t3 = some _ ∧ upd _ t3 _ = Hx := ⟨_, Same.new ht3 _, upd_same, rfl⟩
  rw [eq_t3]; clear eq_t3
  walk_at "rd"
  refine ⟨Nat.le_of_ble_eq_true rfl, ?_⟩
  intro t4 ht4
  obtain ⟨H4, s4, e4, eq_t4⟩ : ∃ Hx, Same _ Hx ∧ Hx t4 = some _ ∧ upd _ t4 _ = Hx := ⟨_, Same.new ht4 _, upd_same, rfl⟩
  rw [eq_t4]; clear eq_t4
  walk_at "rd"
  refine ⟨Nat.le_of_ble_eq_true rfl, ?_⟩
  intro t5 ht5
  obtain ⟨H5, s5, e5, eq_t5⟩ : ∃ Hx, Same _ Hx ∧ Hx t5 = some _ ∧ upd _ t5 _ = Hx := ⟨_, Same.new ht5 _, upd_same, rfl⟩
  rw [eq_t5]; clear eq_t5
  walk_at "rd"
  refine ⟨Nat.le_of_ble_eq_true rfl, ?_⟩
  intro l6 hl6
  obtain ⟨H6, s6, e6, eq_l6⟩ : ∃ Hx, Same _ Hx ∧ Hx l6 = some _ ∧ upd _ l6 _ = Hx := ⟨_, Same.new hl6 _, upd_same, rfl⟩
  rw [eq_l6]; clear eq_l6
  have s06 := s1.trans (s2.trans (s3.trans (s4.trans (s5.trans s6))))
  have R6 := R.same s06
  have er6 := s06 _ _ er
  have d1 : Deed H6 m bs "moved" (.ref r) none := by
    have := Deed.moved (bs := bs) er6 (by rw [to.len]; omega) m40
    rwa [if_pos ⟨to.len, to.sorted⟩] at this
  have d2 : Deed H6 m bs "beside" (.ref p) none := by
    have := Deed.beside (bs := bs) (m := m) R6.tup R6.blk (by omega)
    rwa [if_pos rfl] at this
  have bne : bs ≠ [] := fun z => by rw [z] at b0; cases b0
  have d3 : Deed H6 m bs "swapped" (.int 0) none := by
    have := Deed.swapped (H := H6) (m := m) (bs := bs) (z := 0)
    rwa [if_neg bne] at this
  have rne : rngV 0 m ≠ [] := fun z => by
    have := congrArg List.length z
    rw [rngV_length] at this
    exact absurd this (by show ¬ m = 0; omega)
  have d4 : Deed H6 m bs "within" (.int 1) none := by
    have := Deed.within (H := H6) (m := m) (bs := bs) (z := 1)
    rwa [if_pos ⟨1, _, rfl, b1, rne⟩] at this
  have cne : compl m [] ≠ [] := fun z => by
    have : (0 : Int) ∈ compl m [] := by
      unfold compl
      rw [List.mem_filter, mem_rngV_iff]
      exact ⟨by omega, rfl⟩
    rw [z] at this
    cases this
  have d5 : Deed H6 m bs "without" (.int 0) none := by
    have := Deed.without (H := H6) (m := m) (bs := bs) (z := 0)
    rwa [if_pos ⟨0, _, rfl, b0, cne⟩] at this
  have row : ∀ q ∈ [t1, t2, t3, t4, t5], ∃ (x : Str) (t : V), H6 q = some (.tup [.str x, t]) ∧ Deed H6 m bs x t none := by
    have e1' := (s2.trans (s3.trans (s4.trans (s5.trans s6)))) _ _ e1
    have e2' := (s3.trans (s4.trans (s5.trans s6))) _ _ e2
    have e3' := (s4.trans (s5.trans s6)) _ _ e3
    have e4' := (s5.trans s6) _ _ e4
    have e5' := s6 _ _ e5
    intro q hq
    simp only [List.mem_cons, List.not_mem_nil, or_false] at hq
    rcases hq with rfl | rfl | rfl | rfl | rfl
    · exact ⟨_, _, e1', d1⟩
    · exact ⟨_, _, e2', d2⟩
    · exact ⟨_, _, e3', d3⟩
    · exact ⟨_, _, e4', d4⟩
    · exact ⟨_, _, e5', d5⟩
  have e6' : H6 l6 = some (.lst ([t1, t2, t3, t4, t5].map V.ref)) := e6
  walk_at "rd"
  refine ⟨l6, rfl, ⟨_, SqL.of e6'⟩, ?_⟩
  refine fun D hD => lcm_list hD eInt (f := V.ref) (l := [t1, t2, t3, t4, t5]) (fun _ => []) (fun _ => Nat.zero_le _) (Nat.le_of_ble_eq_true rfl) (fun H s => SqL.of (s _ _ e6')) (fun i q H7 Qe Qn hq s7 hacc ke kn => ?_) (fun H7 ws s7 eD pr => ?_)
  · obtain ⟨x, t, eq, dq⟩ := row q (List.mem_of_getElem? hq)
    have eq7 := s7 _ _ eq
    walk_at "rd"
    refine ⟨rfl, ?_⟩
    walk_at "rd"
    refine ⟨p, l, m, bs, x, t, none, rfl, R6.same s7, dq.same s7, fun H8 s8 => ?_⟩
    walk_at "rd"
    refine r_ne rfl ?_
    rw [decide_eq_true (show V.str (ansB none) = V.str "told" from rfl)]
    walk_at "rd"
    exact kn _ s8 rfl
  · have ew : ws = [] := by
      cases pr
      rfl
    subst ew
    walk_at "rd"
    refine ⟨Nat.le_of_ble_eq_true rfl, ?_⟩
    intro l8 hl8
    obtain ⟨H8, s8, e8, eq_l8⟩ : ∃ Hx, Same _ Hx ∧ Hx l8 = some _ ∧ upd _ l8 _ = Hx := ⟨_, Same.new hl8 _, upd_same, rfl⟩
    rw [eq_l8]; clear eq_l8
    refine r_eqInts (ns := []) (ms := []) (s8 _ _ eD) e8 ?_
    rw [decide_eq_true rfl]
    exact kk _ (s06.trans (s7.trans s8))
def BadT (m : Nat) (o : List Int) : Prop := ¬ (o.length = m ∧ isort o = rngV 0 m)
def spBadB : Sp := fun vs H Q _ => ∃ (r : Addr) (m : Nat) (f : Int) (o : List Int), vs = [.int (m : Nat), .ref r, .int f] ∧ 0 < m ∧ m ≤ 40 ∧ 0 < f ∧ H r = some (.lst (o.map V.int)) ∧ Turng m o ∧
  ∀ q (rs : List Addr) H', Same H H' → H' q = some (.lst (rs.map V.ref)) → rs.length ≤ 10 → (∀ x ∈ rs, ∃ o', H' x = some (.lst (o'.map V.int)) ∧ o'.length ≤ 100 ∧ BadT m o') → Q (.ref q) H'
end
end My
set_option Elab.async false
set_option linter.all false
set_option maxRecDepth 100000
namespace My
open PySem PySem.Spec L2
local macro_rules | `(tactic| walk_at "rd1") => `(tactic| first
  | with_reducible refine r_seq ?_ | with_reducible refine r_asg ?_ | with_reducible refine r_name ?_ | with_reducible refine r_ret ?_ | with_reducible refine r_drop ?_ | with_reducible refine r_ifs ?_ | with_reducible refine r_next ?_
  | with_reducible refine r_var rfl ?_ | with_reducible refine r_c ?_ | with_reducible refine r_op ?_ | with_reducible refine r_I0 ?_
  | with_reducible refine r_test ?_ | with_reducible refine r_b ?_ | with_reducible refine r_k ?_ | with_reducible refine r_cons ?_ | with_reducible refine r_nil ?_ | with_reducible refine r_call ?_ | with_reducible refine r_cb ?_
  | with_reducible refine r_lst ?_ | with_reducible refine r_tup ?_ | with_reducible refine r_sub ?_ | with_reducible refine r_andV ?_ | with_reducible refine r_orV ?_ | with_reducible refine r_notV ?_
  | with_reducible refine r_and ?_ | with_reducible refine r_or ?_ | with_reducible refine r_not ?_ | with_reducible refine r_eqI ?_ | with_reducible refine r_neI ?_ | with_reducible refine r_aug rfl ?_ | with_reducible refine r_ipI ?_ | with_reducible refine r_un ?_
  | with_reducible refine r_bm ?_ | with_reducible refine r_bm0 ?_ | with_reducible refine r_yes ?_
  | with_reducible refine r_dnewT ?_ | with_reducible refine r_dget2 ?_ 
  | with_reducible refine r_U ?_ | with_reducible refine r_lit ?_
  | with_reducible refine r_fb ?_ | with_reducible refine r_m1 ?_ | with_reducible refine r_augS ?_ | with_reducible refine r_isNn ?_ | with_reducible refine r_notNn ?_ | with_reducible refine r_isNr ?_ | with_reducible refine r_notNr ?_ | with_reducible refine r_tru ?_ | with_reducible refine r_count ?_
  | with_reducible refine r_for ?_ | with_reducible refine r_dc ?_ | with_reducible refine r_lc ?_ | with_reducible refine r_sc ?_ | with_reducible refine r_zipN ?_ | with_reducible refine r_ifX ?_ | with_reducible refine r_zip3 ?_ | with_reducible refine r_rng1 ?_ | with_reducible refine r_rng2 ?_ | with_reducible refine r_ilist ?_ | with_reducible refine r_itup ?_ | with_reducible refine r_enum ?_
  | with_reducible refine r_sl ?_ | with_reducible refine r_nopart ?_ | with_reducible refine r_part ?_ | with_reducible refine r_int ?_ | with_reducible refine r_gcons ?_ | with_reducible refine r_gnil ?_ | with_reducible refine r_revT ?_
  | with_reducible refine r_intB (fun z hz z0 z1 => ?_) | with_reducible refine r_intI ?_ | with_reducible refine r_min2 ?_ | with_reducible refine r_max2 ?_ | with_reducible refine r_rng1V ?_ | with_reducible refine r_rng2V ?_
  | with_reducible refine r_dget ?_ | with_reducible refine r_disp ?_ | with_reducible refine r_pcons ?_ | with_reducible refine r_pnil ?_ | with_reducible refine r_enumT ?_ | with_reducible refine r_zip ?_ | with_reducible refine r_abs (fun z hz z0 => ?_)
  | with_reducible refine r_try ?_ | with_reducible refine r_try0 ?_ | with_reducible refine r_dropX ?_ | with_reducible refine r_setX ?_ | with_reducible refine r_callX ?_ | with_reducible refine r_methX ?_ | with_reducible refine r_raise ?_
  | with_reducible refine r_zipI ?_ | with_reducible refine r_zipT ?_ | with_reducible refine r_sfld ?_ | with_reducible refine r_fld ?_ | with_reducible refine r_meth ?_ | with_reducible refine r_make ?_ | with_reducible refine r_notC ?_ | with_reducible refine r_revS ?_ | with_reducible refine r_rev ?_ | with_reducible refine r_dputK ?_ | with_reducible refine r_chain4 ?_ | with_reducible refine r_chain3 ?_ | with_reducible refine r_chain ?_ | with_reducible refine r_din ?_ | with_reducible refine r_dnotin ?_ | with_reducible refine r_ifE ?_
  | ((with_reducible show cIsiR _ _ _ _ _); first | with_reducible refine r_itT (by first | assumption | exact upd_same) ?_ | with_reducible refine r_itL (by first | assumption | exact upd_same) ?_)
  | ((with_reducible show kDGet _ _ _ _); with_reducible refine pot_g (by first | assumption | exact upd_same) ?_) | ((with_reducible show kDGet _ _ _ _); with_reducible refine pot_s (by first | assumption | exact upd_same) ?_) | ((with_reducible show kDGet _ _ _ _); with_reducible refine pot_t (by first | assumption | exact upd_same) ?_)
  | ((with_reducible show kDPut _ _ _ _ _); with_reducible refine pot_pg (by first | assumption | exact upd_same) ?_) | ((with_reducible show kDPut _ _ _ _ _); with_reducible refine pot_pt (by first | assumption | exact upd_same) ?_)
  | with_reducible refine iteT ?_ | with_reducible refine iteF ?_ | with_reducible refine r_nf ?_ | with_reducible refine r_nt ?_
  | with_reducible refine r_ii ?_ | with_reducible refine r_ib ?_
  | ((with_reducible show rIxLF _ _ _ _); with_reducible refine r_ixL (by first | assumption | exact upd_same) rfl ?_)
  | ((with_reducible show rIxTF _ _ _ _); with_reducible refine r_ixT (by first | assumption | exact upd_same) rfl ?_)
  | ((with_reducible show rSetL _ _ _ _ _); with_reducible refine r_setL (by first | assumption | exact upd_same) rfl ?_)
  | ((with_reducible show cLen _ _ _); with_reducible refine r_len (by first | exact sqAt_lst (by assumption) | exact sqAt_tup (by assumption) | exact sqAt_lst upd_same | exact sqAt_tup upd_same) ?_)
  | ((with_reducible show rSlLF _ _ _ _ _); with_reducible refine r_slL (by first | assumption | exact upd_same) ?_)
  | ((with_reducible show gTupF _ _ _ _ _ _); with_reducible refine r_gtup (by first | assumption | exact upd_same) rfl ?_)
  | ((with_reducible show rI _ _ _ _ _ _); first | with_reducible refine r_mod (by omega) ?_ | with_reducible refine r_div (by omega) (by omega) ?_ | with_reducible refine r_mulL (by omega) (by omega) ?_ | with_reducible refine r_mulR (by omega) (by omega) ?_ | with_reducible refine r_pow (by omega) (by omega) (by decide) ?_))
local macro_rules | `(tactic| walk_at "rd") => `(tactic| repeat (first | walk_at "rd1" | (dsimp only; walk_at "rd1")))
theorem cut_init {xs : List V} (h : 0 < xs.length) : cutV xs none (some (-1)) = xs.take (xs.length - 1) := by
  unfold cutV HT.sIx
  simp only [List.drop_zero, Nat.sub_zero]
  congr 1
  simp
  omega
theorem bad_len {m : Nat} {o : List Int} (h : o.length ≠ m) : BadT m o := fun z => h z.1
theorem bad_mem {m : Nat} {o : List Int} {x : Int} (h : x ∈ o) (r : x < 0 ∨ (m : Int) ≤ x) : BadT m o := fun z => by
  have := (isort_perm o).mem_iff.mpr h
  rw [z.2, mem_rngV_iff] at this
  omega
theorem bad_dup {m : Nat} {o : List Int} (h : ¬ o.Nodup) : BadT m o := fun z => by
  have := (isort_perm o).nodup_iff.mp (by rw [z.2]; exact lt_nodup (rngV_lt 0 m))
  exact h this
theorem has_zero {m : Nat} {o : List Int} (to : Turng m o) {x : Int} (h0 : 0 ≤ x) (h1 : x < (m : Int)) : x ∈ o := by
  have := (isort_perm o).mem_iff (a := x)
  rw [to.sorted, mem_rngV_iff] at this
  exact this.mp (by omega)
section
variable {P : Program} {w : World} {K : PySem.W.Frag} {mg : Str → Option Value} {base : Heap}
abbrev sBadTurnings : Stmt := top 41
theorem scBadTurnings : FnScope ["_law_many", "_law_order_here", "_law_far", "_law_rows", "_law_thing"] ["_law_many", "_law_order_here", "_law_far"] (defScope sBadTurnings) := ⟨rfl, rfl, rfl, by decide +kernel, rfl, by decide +kernel, by decide +kernel⟩
set_option maxHeartbeats 2000000 in
theorem has_badB (F : FunAt K mg "_law_bad_turnings" sBadTurnings ["_law_many", "_law_order_here", "_law_far"]) : Has P w K mg base 1 "_law_bad_turnings" ["_law_many", "_law_order_here", "_law_far"] spBadB := by
  refine F.has scBadTurnings (fun vs H Q E h => ?_) (fun f cdv A outer s H vs Q E hr h => ?_)
  · obtain ⟨r, m, g, o, rfl, _⟩ := h
    rfl
  obtain ⟨r, m, g, o, rfl, m0, m40, g0, er, to, kk⟩ := h
  refine ⟨_, (pss_cons (ps_set (i := 3) scBadTurnings.nd rfl (Or.inl rfl) (pe_lst (pa_cons (pe_slice sl_listF (pv 1) (po_some pe_int) po_none) (pa_cons (pe_op op_cat (pv 1) (pe_lst (pa_cons (pv 0) pa_nil))) (pa_cons (pe_op op_cat (pv 1) (pe_slice sl_listF (pv 1) po_none (po_some pe_int))) (pa_cons (pe_lc (own := [("_law_thing", 4)]) (g := gName 4) (by rfl) scBadTurnings.nd (pi_list (pv 1)) (blkOk_by (own := [("_law_thing", 4)]) (N := ["_law_many", "_law_order_here", "_law_far", "_law_rows", "_law_thing"]) (sc := defScope sBadTurnings) (by decide +kernel)) (fun _ _ _ _ _ => (pg_name (i := 4) scBadTurnings.nd rfl (Or.inl rfl))) (fun _ _ _ _ _ => pts_nil) (fun _ _ _ _ _ => by exact (pe_op op_sub (pv 4) pe_int))) pa_nil))))))
    (pss_cons (ps_set (i := 3) scBadTurnings.nd rfl (Or.inl rfl) (pe_op op_cat (pv 3) (pe_lst (pa_cons (pe_lc (own := [("_law_thing", 4)]) (g := gName 4) (by rfl) scBadTurnings.nd (pi_list (pv 1)) (blkOk_by (own := [("_law_thing", 4)]) (N := ["_law_many", "_law_order_here", "_law_far", "_law_rows", "_law_thing"]) (sc := defScope sBadTurnings) (by decide +kernel)) (fun _ _ _ _ _ => (pg_name (i := 4) scBadTurnings.nd rfl (Or.inl rfl))) (fun _ _ _ _ _ => pts_nil) (fun _ _ _ _ _ => by exact (pe_op op_add (pv 4) pe_int))) (pa_cons (pe_op op_cat (pe_slice sl_listF (pv 1) po_none (po_some (pe_un un_neg pe_int))) (pe_lst (pa_cons (pe_op op_add (pv 2) (pv 0)) pa_nil))) (pa_cons (pe_op op_cat (pe_slice sl_listF (pv 1) po_none (po_some (pe_un un_neg pe_int))) (pe_lst (pa_cons (pe_op op_sub pe_int (pv 2)) pa_nil))) pa_nil))))))
    (pss_cons (ps_if (pt_cmpR op_gt (pv 0) pe_int (nomark _))
    (pss_one (ps_expr (pe_bm PySem.F.plainAttrs_list PySem.F.slot_list_append PySem.F.type_list_append mt_append (pv 3) (pa_cons (pe_op op_cat (pe_slice sl_listF (pv 1) po_none (po_some (pe_un un_neg pe_int))) (pe_slice sl_listF (pv 1) po_none (po_some pe_int))) pa_nil))))
    pss_nil)
    (pss_one (ps_ret (pv 3)))))), ?_⟩
  have lo := to.len
  have lom : (o.map V.int).length = m := by rw [List.length_map]; exact lo
  have g3 : ∀ {xs : List V} {i : Nat}, i ≤ xs.length → cutV xs none (some (i : Int)) = xs.take i := fun h => cut_pre h
  walk_at "rd"
  intro a1 ha1
  obtain ⟨H1, s1, e1, eq_a1⟩ : ∃ Hx, Same _ Hx ∧ Hx a1 = some _ ∧ upd _ a1 _ = Hx := ⟨_, Same.new ha1 _, upd_same, rfl⟩
  rw [eq_a1]; clear eq_a1
  rw [cut_tail, ← List.map_drop] at e1
  walk_at "rd"
  refine ⟨Nat.le_of_ble_eq_true rfl, ?_⟩
  intro t2 ht2
  obtain ⟨H2, s2, e2, eq_t2⟩ : ∃ Hx, Same _ Hx ∧ Hx t2 = some _ ∧ upd _ t2 _ = Hx := ⟨_, Same.new ht2 _, upd_same, rfl⟩
  rw [eq_t2]; clear eq_t2
  walk_at "rd"
  refine r_cat ((s1.trans s2) _ _ er) e2 (by rw [lom]; show m + 1 ≤ 16777216; omega) ?_
  intro a2 ha2
  obtain ⟨H3, s3, e3, eq_a2⟩ : ∃ Hx, Same _ Hx ∧ Hx a2 = some _ ∧ upd _ a2 _ = Hx := ⟨_, Same.new ha2 _, upd_same, rfl⟩
  rw [eq_a2]; clear eq_a2
  have s03 := s1.trans (s2.trans s3)
  walk_at "rd"
  refine r_slL (s03 _ _ er) ?_
  intro t4 ht4
  obtain ⟨H4, s4, e4, eq_t4⟩ : ∃ Hx, Same _ Hx ∧ Hx t4 = some _ ∧ upd _ t4 _ = Hx := ⟨_, Same.new ht4 _, upd_same, rfl⟩
  rw [eq_t4]; clear eq_t4
  rw [show cutV (o.map V.int) none (some 1) = (o.map V.int).take 1 from g3 (i := 1) (by omega), ← List.map_take] at e4
  walk_at "rd"
  refine r_cat ((s03.trans s4) _ _ er) e4 (by rw [lom, List.length_map, List.length_take]; show _ ≤ 16777216; omega) ?_
  intro a3 ha3
  obtain ⟨H5, s5, e5, eq_a3⟩ : ∃ Hx, Same _ Hx ∧ Hx a3 = some _ ∧ upd _ a3 _ = Hx := ⟨_, Same.new ha3 _, upd_same, rfl⟩
  rw [eq_a3]; clear eq_a3
  have s05 := s03.trans (s4.trans s5)
  walk_at "rd"
  refine ⟨r, rfl, ⟨_, SqL.of (s05 _ _ er)⟩, ?_⟩
  refine fun a4 ha4 => lcm_list ha4 eInt (f := V.int) (l := o) (fun x => [x - 1]) (fun _ => len_one _) (by omega) (fun H s => SqL.of (s _ _ (s05 _ _ er))) (fun i x H6 Qe Qn hx s6 hacc ke kn => ?_) (fun H6 ws s6 e6 pr => ?_)
  · refine r_name ⟨rfl, ?_⟩
    walk_at "rd"
    exact ke _ _ _ (Same.refl _) rfl rfl
  rw [flat_ones] at pr
  have ew := Pd.ints pr
  subst ew
  walk_at "rd"
  refine ⟨Nat.le_of_ble_eq_true rfl, ?_⟩
  intro l7 hl7
  obtain ⟨H7, s7, e7, eq_l7⟩ : ∃ Hx, Same _ Hx ∧ Hx l7 = some _ ∧ upd _ l7 _ = Hx := ⟨_, Same.new hl7 _, upd_same, rfl⟩
  rw [eq_l7]; clear eq_l7
  have s07 := s05.trans (s6.trans s7)
  walk_at "rd"
  refine ⟨r, rfl, ⟨_, SqL.of (s07 _ _ er)⟩, ?_⟩
  refine fun a5 ha5 => lcm_list ha5 eInt (f := V.int) (l := o) (fun x => [x + 1]) (fun _ => len_one _) (by omega) (fun H s => SqL.of (s _ _ (s07 _ _ er))) (fun i x H8 Qe Qn hx s8 hacc ke kn => ?_) (fun H8 ws s8 e8 pr => ?_)
  · refine r_name ⟨rfl, ?_⟩
    walk_at "rd"
    exact ke _ _ _ (Same.refl _) rfl rfl
  rw [flat_ones] at pr
  have ew := Pd.ints pr
  subst ew
  have s08 := s07.trans s8
  walk_at "rd"
  refine r_slL (s08 _ _ er) ?_
  intro t9 ht9
  obtain ⟨H9, s9, e9, eq_t9⟩ : ∃ Hx, Same _ Hx ∧ Hx t9 = some _ ∧ upd _ t9 _ = Hx := ⟨_, Same.new ht9 _, upd_same, rfl⟩
  rw [eq_t9]; clear eq_t9
  rw [cut_init (by omega), lom, ← List.map_take] at e9
  walk_at "rd"
  refine ⟨Nat.le_of_ble_eq_true rfl, ?_⟩
  intro t10 ht10
  obtain ⟨H10, s10, e10, eq_t10⟩ : ∃ Hx, Same _ Hx ∧ Hx t10 = some _ ∧ upd _ t10 _ = Hx := ⟨_, Same.new ht10 _, upd_same, rfl⟩
  rw [eq_t10]; clear eq_t10
  walk_at "rd"
  refine r_cat (s10 _ _ e9) e10 (by rw [List.length_map, List.length_take]; show _ + 1 ≤ 16777216; omega) ?_
  intro a6 ha6
  obtain ⟨H11, s11, e11, eq_a6⟩ : ∃ Hx, Same _ Hx ∧ Hx a6 = some _ ∧ upd _ a6 _ = Hx := ⟨_, Same.new ha6 _, upd_same, rfl⟩
  rw [eq_a6]; clear eq_a6
  have s011 := s08.trans (s9.trans (s10.trans s11))
  walk_at "rd"
  refine r_slL (s011 _ _ er) ?_
  intro t12 ht12
  obtain ⟨H12, s12, e12, eq_t12⟩ : ∃ Hx, Same _ Hx ∧ Hx t12 = some _ ∧ upd _ t12 _ = Hx := ⟨_, Same.new ht12 _, upd_same, rfl⟩
  rw [eq_t12]; clear eq_t12
  rw [cut_init (by omega), lom, ← List.map_take] at e12
  walk_at "rd"
  refine ⟨Nat.le_of_ble_eq_true rfl, ?_⟩
  intro t13 ht13
  obtain ⟨H13, s13, e13, eq_t13⟩ : ∃ Hx, Same _ Hx ∧ Hx t13 = some _ ∧ upd _ t13 _ = Hx := ⟨_, Same.new ht13 _, upd_same, rfl⟩
  rw [eq_t13]; clear eq_t13
  walk_at "rd"
  refine r_cat (s13 _ _ e12) e13 (by rw [List.length_map, List.length_take]; show _ + 1 ≤ 16777216; omega) ?_
  intro a7 ha7
  obtain ⟨H14, s14, e14, eq_a7⟩ : ∃ Hx, Same _ Hx ∧ Hx a7 = some _ ∧ upd _ a7 _ = Hx := ⟨_, Same.new ha7 _, upd_same, rfl⟩
  rw [eq_a7]; clear eq_a7
  walk_at "rd"
  refine ⟨Nat.le_of_ble_eq_true rfl, ?_⟩
  intro l15 hl15
  obtain ⟨H15, s15, e15, eq_l15⟩ : ∃ Hx, Same _ Hx ∧ Hx l15 = some _ ∧ upd _ l15 _ = Hx := ⟨_, Same.new hl15 _, upd_same, rfl⟩
  rw [eq_l15]; clear eq_l15
  walk_at "rd"
  have s715 := s8.trans (s9.trans (s10.trans (s11.trans (s12.trans (s13.trans (s14.trans s15))))))
  refine r_cat (s715 _ _ e7) e15 (Nat.le_of_ble_eq_true rfl) ?_
  intro l16 hl16
  obtain ⟨H16, s16, e16, eq_l16⟩ : ∃ Hx, Same _ Hx ∧ Hx l16 = some _ ∧ upd _ l16 _ = Hx := ⟨_, Same.new hl16 _, upd_same, rfl⟩
  rw [eq_l16]; clear eq_l16
  walk_at "rd"
  have s016 := s07.trans (s715.trans s16)
  have h0 : (0 : Int) ∈ o := has_zero to (by omega) (by omega)
  have hm : ((m : Int) - 1) ∈ o := has_zero to (by omega) (by omega)
  have f1 : H16 a1 = some (.lst ((o.drop 1).map V.int)) := (s2.trans (s3.trans (s4.trans (s5.trans (s6.trans (s7.trans (s715.trans s16))))))) _ _ e1
  have f2 : H16 a2 = some (.lst ((o ++ [(m : Int)]).map V.int)) := by rw [List.map_append]; exact (s4.trans (s5.trans (s6.trans (s7.trans (s715.trans s16))))) _ _ e3
  have f3 : H16 a3 = some (.lst ((o ++ o.take 1).map V.int)) := by rw [List.map_append]; exact (s6.trans (s7.trans (s715.trans s16))) _ _ e5
  have f4 : H16 a4 = some (.lst ((o.map fun x => x - 1).map V.int)) := (s7.trans (s715.trans s16)) _ _ e6
  have f5 : H16 a5 = some (.lst ((o.map fun x => x + 1).map V.int)) := (s9.trans (s10.trans (s11.trans (s12.trans (s13.trans (s14.trans (s15.trans s16))))))) _ _ e8
  have f6 : H16 a6 = some (.lst ((o.take (m - 1) ++ [g + (m : Int)]).map V.int)) := by rw [List.map_append]; exact (s12.trans (s13.trans (s14.trans (s15.trans s16)))) _ _ e11
  have f7 : H16 a7 = some (.lst ((o.take (m - 1) ++ [0 - g]).map V.int)) := by rw [List.map_append]; exact (s15.trans s16) _ _ e14
  have rows : ∀ x ∈ [a1, a2, a3, a4, a5, a6, a7], ∃ o', H16 x = some (.lst (o'.map V.int)) ∧ o'.length ≤ 100 ∧ BadT m o' := by
    intro x hx
    simp only [List.mem_cons, List.not_mem_nil, or_false] at hx
    rcases hx with rfl | rfl | rfl | rfl | rfl | rfl | rfl
    · exact ⟨_, f1, by rw [List.length_drop]; omega, bad_len (by rw [List.length_drop]; omega)⟩
    · exact ⟨_, f2, by rw [List.length_append, List.length_singleton]; omega, bad_len (by rw [List.length_append, List.length_singleton]; omega)⟩
    · exact ⟨_, f3, by rw [List.length_append, List.length_take]; omega, bad_len (by rw [List.length_append, List.length_take]; omega)⟩
    · exact ⟨_, f4, by rw [List.length_map]; omega, bad_mem (x := 0 - 1) (List.mem_map.mpr ⟨0, h0, rfl⟩) (by omega)⟩
    · exact ⟨_, f5, by rw [List.length_map]; omega, bad_mem (x := (m : Int) - 1 + 1) (List.mem_map.mpr ⟨_, hm, rfl⟩) (by omega)⟩
    · exact ⟨_, f6, by rw [List.length_append, List.length_take, List.length_singleton]; omega, bad_mem (List.mem_append_right _ (List.mem_singleton.mpr rfl)) (by omega)⟩
    · exact ⟨_, f7, by rw [List.length_append, List.length_take, List.length_singleton]; omega, bad_mem (List.mem_append_right _ (List.mem_singleton.mpr rfl)) (by omega)⟩
  have e16' : H16 l16 = some (.lst ([a1, a2, a3, a4, a5, a6, a7].map V.ref)) := e16
  refine r_if (fun c => ?_) (fun c => ?_)
  · walk_at "rd"
    refine ⟨.inl ⟨rfl, _, SqL.of e16'⟩, ?_⟩
    walk_at "rd"
    refine r_slL (s016 _ _ er) ?_
    intro t17 ht17
    obtain ⟨H17, s17, e17, eq_t17⟩ : ∃ Hx, Same _ Hx ∧ Hx t17 = some _ ∧ upd _ t17 _ = Hx := ⟨_, Same.new ht17 _, upd_same, rfl⟩
    rw [eq_t17]; clear eq_t17
    rw [cut_init (by omega), lom, ← List.map_take] at e17
    walk_at "rd"
    refine r_slL ((s016.trans s17) _ _ er) ?_
    intro t18 ht18
    obtain ⟨H18, s18, e18, eq_t18⟩ : ∃ Hx, Same _ Hx ∧ Hx t18 = some _ ∧ upd _ t18 _ = Hx := ⟨_, Same.new ht18 _, upd_same, rfl⟩
    rw [eq_t18]; clear eq_t18
    rw [show cutV (o.map V.int) none (some 1) = (o.map V.int).take 1 from g3 (i := 1) (by omega), ← List.map_take] at e18
    walk_at "rd"
    refine r_cat (s18 _ _ e17) e18 (by rw [List.length_map, List.length_map, List.length_take, List.length_take]; show _ ≤ 16777216; omega) ?_
    intro a8 ha8
    obtain ⟨H19, s19, e19, eq_a8⟩ : ∃ Hx, Same _ Hx ∧ Hx a8 = some _ ∧ upd _ a8 _ = Hx := ⟨_, Same.new ha8 _, upd_same, rfl⟩
    rw [eq_a8]; clear eq_a8
    rw [← List.map_append] at e19
    have s1619 := s17.trans (s18.trans s19)
    walk_at "rd"
    refine r_append (s1619 _ _ e16') (Nat.le_of_ble_eq_true rfl) ?_
    walk_at "rd"
    have n16 : H l16 = none := (s07.trans s715).free hl16
    refine kk l16 [a1, a2, a3, a4, a5, a6, a7, a8] _ ((s016.trans s1619).late n16 _) upd_same (Nat.le_of_ble_eq_true rfl) fun x hx => ?_
    have ne : ∀ {y : Addr} {q : List Int}, H19 y = some (.lst (q.map V.int)) → y ≠ l16 := fun {y q} e z => by
      subst z
      have h1 := s1619 _ _ e16'
      rw [h1] at e
      have := HO.lst.inj (Option.some.inj e)
      cases q with
      | nil => cases this
      | cons w q => injection this with h2 _; cases h2
    have up : ∀ {y : Addr} {q : List Int} {ob : HO}, H19 y = some (.lst (q.map V.int)) → upd H19 l16 ob y = some (.lst (q.map V.int)) := fun e => by rw [upd_ne (ne e)]; exact e
    rcases List.mem_append.mp (show x ∈ [a1, a2, a3, a4, a5, a6, a7] ++ [a8] from hx) with hx | hx
    · obtain ⟨o', eo, lo', bo⟩ := rows x hx
      exact ⟨o', up (s1619 _ _ eo), lo', bo⟩
    · rw [List.mem_singleton.mp hx]
      refine ⟨_, up e19, by rw [List.length_append, List.length_take, List.length_take]; omega, bad_dup fun nd => ?_⟩
      cases o with
      | nil => rw [List.length_nil] at lo; omega
      | cons x o =>
        obtain ⟨k, hk⟩ : ∃ k, m - 1 = k + 1 := ⟨m - 2, by omega⟩
        rw [hk, List.take_succ_cons] at nd
        have := (List.nodup_append.mp nd).2.2 x List.mem_cons_self x (by simp)
        exact this rfl
  · walk_at "rd"
    exact kk l16 _ H16 s016 e16' (Nat.le_of_ble_eq_true rfl) rows
end
end My
set_option Elab.async false
set_option linter.all false
set_option maxRecDepth 100000
namespace My
open PySem PySem.Spec L2
local macro_rules | `(tactic| walk_at "rd1") => `(tactic| first
  | with_reducible refine r_seq ?_ | with_reducible refine r_asg ?_ | with_reducible refine r_name ?_ | with_reducible refine r_ret ?_ | with_reducible refine r_drop ?_ | with_reducible refine r_ifs ?_ | with_reducible refine r_next ?_
  | with_reducible refine r_var rfl ?_ | with_reducible refine r_c ?_ | with_reducible refine r_op ?_ | with_reducible refine r_I0 ?_
  | with_reducible refine r_test ?_ | with_reducible refine r_b ?_ | with_reducible refine r_k ?_ | with_reducible refine r_cons ?_ | with_reducible refine r_nil ?_ | with_reducible refine r_call ?_ | with_reducible refine r_cb ?_
  | with_reducible refine r_lst ?_ | with_reducible refine r_tup ?_ | with_reducible refine r_sub ?_ | with_reducible refine r_andV ?_ | with_reducible refine r_orV ?_ | with_reducible refine r_notV ?_
  | with_reducible refine r_and ?_ | with_reducible refine r_or ?_ | with_reducible refine r_not ?_ | with_reducible refine r_eqI ?_ | with_reducible refine r_neI ?_ | with_reducible refine r_aug rfl ?_ | with_reducible refine r_ipI ?_ | with_reducible refine r_un ?_
  | with_reducible refine r_bm ?_ | with_reducible refine r_bm0 ?_ | with_reducible refine r_yes ?_
  | with_reducible refine r_dnewT ?_ | with_reducible refine r_dget2 ?_ 
  | with_reducible refine r_U ?_ | with_reducible refine r_lit ?_
  | with_reducible refine r_fb ?_ | with_reducible refine r_m1 ?_ | with_reducible refine r_augS ?_ | with_reducible refine r_isNn ?_ | with_reducible refine r_notNn ?_ | with_reducible refine r_isNr ?_ | with_reducible refine r_notNr ?_ | with_reducible refine r_tru ?_ | with_reducible refine r_count ?_
  | with_reducible refine r_for ?_ | with_reducible refine r_dc ?_ | with_reducible refine r_lc ?_ | with_reducible refine r_sc ?_ | with_reducible refine r_zipN ?_ | with_reducible refine r_ifX ?_ | with_reducible refine r_zip3 ?_ | with_reducible refine r_rng1 ?_ | with_reducible refine r_rng2 ?_ | with_reducible refine r_ilist ?_ | with_reducible refine r_itup ?_ | with_reducible refine r_enum ?_
  | with_reducible refine r_sl ?_ | with_reducible refine r_nopart ?_ | with_reducible refine r_part ?_ | with_reducible refine r_int ?_ | with_reducible refine r_gcons ?_ | with_reducible refine r_gnil ?_ | with_reducible refine r_revT ?_
  | with_reducible refine r_intB (fun z hz z0 z1 => ?_) | with_reducible refine r_intI ?_ | with_reducible refine r_min2 ?_ | with_reducible refine r_max2 ?_ | with_reducible refine r_rng1V ?_ | with_reducible refine r_rng2V ?_
  | with_reducible refine r_dget ?_ | with_reducible refine r_disp ?_ | with_reducible refine r_pcons ?_ | with_reducible refine r_pnil ?_ | with_reducible refine r_enumT ?_ | with_reducible refine r_zip ?_ | with_reducible refine r_abs (fun z hz z0 => ?_)
  | with_reducible refine r_try ?_ | with_reducible refine r_try0 ?_ | with_reducible refine r_dropX ?_ | with_reducible refine r_setX ?_ | with_reducible refine r_callX ?_ | with_reducible refine r_methX ?_ | with_reducible refine r_raise ?_
  | with_reducible refine r_zipI ?_ | with_reducible refine r_zipT ?_ | with_reducible refine r_sfld ?_ | with_reducible refine r_fld ?_ | with_reducible refine r_meth ?_ | with_reducible refine r_make ?_ | with_reducible refine r_notC ?_ | with_reducible refine r_revS ?_ | with_reducible refine r_rev ?_ | with_reducible refine r_dputK ?_ | with_reducible refine r_chain4 ?_ | with_reducible refine r_chain3 ?_ | with_reducible refine r_chain ?_ | with_reducible refine r_din ?_ | with_reducible refine r_dnotin ?_ | with_reducible refine r_ifE ?_
  | ((with_reducible show cIsiR _ _ _ _ _); first | with_reducible refine r_itT (by first | assumption | exact upd_same) ?_ | with_reducible refine r_itL (by first | assumption | exact upd_same) ?_)
  | ((with_reducible show kDGet _ _ _ _); with_reducible refine pot_g (by first | assumption | exact upd_same) ?_) | ((with_reducible show kDGet _ _ _ _); with_reducible refine pot_s (by first | assumption | exact upd_same) ?_) | ((with_reducible show kDGet _ _ _ _); with_reducible refine pot_t (by first | assumption | exact upd_same) ?_)
  | ((with_reducible show kDPut _ _ _ _ _); with_reducible refine pot_pg (by first | assumption | exact upd_same) ?_) | ((with_reducible show kDPut _ _ _ _ _); with_reducible refine pot_pt (by first | assumption | exact upd_same) ?_)
  | with_reducible refine iteT ?_ | with_reducible refine iteF ?_ | with_reducible refine r_nf ?_ | with_reducible refine r_nt ?_
  | with_reducible refine r_ii ?_ | with_reducible refine r_ib ?_
  | ((with_reducible show rIxLF _ _ _ _); with_reducible refine r_ixL (by first | assumption | exact upd_same) rfl ?_)
  | ((with_reducible show rIxTF _ _ _ _); with_reducible refine r_ixT (by first | assumption | exact upd_same) rfl ?_)
  | ((with_reducible show rSetL _ _ _ _ _); with_reducible refine r_setL (by first | assumption | exact upd_same) rfl ?_)
  | ((with_reducible show cLen _ _ _); with_reducible refine r_len (by first | exact sqAt_lst (by assumption) | exact sqAt_tup (by assumption) | exact sqAt_lst upd_same | exact sqAt_tup upd_same) ?_)
  | ((with_reducible show rSlLF _ _ _ _ _); with_reducible refine r_slL (by first | assumption | exact upd_same) ?_)
  | ((with_reducible show gTupF _ _ _ _ _ _); with_reducible refine r_gtup (by first | assumption | exact upd_same) rfl ?_)
  | ((with_reducible show rI _ _ _ _ _ _); first | with_reducible refine r_mod (by omega) ?_ | with_reducible refine r_div (by omega) (by omega) ?_ | with_reducible refine r_mulL (by omega) (by omega) ?_ | with_reducible refine r_mulR (by omega) (by omega) ?_ | with_reducible refine r_pow (by omega) (by omega) (by decide) ?_))
local macro_rules | `(tactic| walk_at "rd") => `(tactic| repeat (first | walk_at "rd1" | (dsimp only; walk_at "rd1")))
def spLaw (K : PySem.W.Frag) : Sp := fun vs H Q _ => ∃ (a : Addr) (ns : List Int), vs = [.ref a] ∧ SqL K H a (ns.map V.int) ∧ ns.length ≤ 63 ∧ ∀ H', Q (.bl true) H'
theorem rise_mono {m m' : Nat} {b : List Int} (h : Rise2 m b) (l : m ≤ m') : Rise2 m' b := ⟨h.1, fun x hx => by have := h.2 x hx; omega⟩
theorem compl_all (m : Nat) : compl m (rngV 0 m) = [] := by
  unfold compl
  rw [List.filter_eq_nil_iff]
  intro x hx
  simp [hx]
theorem bad_in {H : Hp} {m : Nat} {bs : List (List Int)} {z : Int} (h : ∀ (j : Nat) (b : List Int), z = (j : Int) → bs[j]? = some b → b = []) : Deed H m bs "within" (.int z) (some 1) := by
  have := Deed.within (H := H) (m := m) (bs := bs) (z := z)
  rwa [if_neg (by rintro ⟨j, b, e1, e2, e3⟩; exact e3 (h j b e1 e2))] at this
theorem bad_out {H : Hp} {m : Nat} {bs : List (List Int)} {z : Int} (h : ∀ (j : Nat) (b : List Int), z = (j : Int) → bs[j]? = some b → compl m b = []) : Deed H m bs "without" (.int z) (some 1) := by
  have := Deed.without (H := H) (m := m) (bs := bs) (z := z)
  rwa [if_neg (by rintro ⟨j, b, e1, e2, e3⟩; exact e3 (h j b e1 e2))] at this
section
variable {P : Program} {w : World} {K : PySem.W.Frag} {mg : Str → Option Value} {base : Heap}
structure TxLaw (P : Program) (w : World) (K : PySem.W.Frag) (mg : Str → Option Value) (base : Heap) : Prop where
  len : mg "len" = none
  range : mg "range" = none
  tuple : mg "tuple" = none
  _law_plan : Has P w K mg base 4 "_law_plan" ["_law_script", "_law_k", "_law_most"] (spPlanM K)
  _law_box : Has P w K mg base 1 "_law_box" ["_law_script", "_law_k"] (spBox K)
  _law_next : Has P w K mg base 1 "_law_next" ["_law_box_here", "_law_many"] spNext
  _law_order : Has P w K mg base 2 "_law_order" ["_law_box_here", "_law_many"] spOrder
  _law_good : Has P w K mg base 6 "_law_good" ["_law_plan_here", "_law_order_here"] spGoodB
  _law_bad_turnings : Has P w K mg base 1 "_law_bad_turnings" ["_law_many", "_law_order_here", "_law_far"] spBadB
  _law_refused : Has P w K mg base 5 "_law_refused" ["_law_which", "_law_plan_here", "_law_thing"] spRefB
abbrev sLaw : Stmt := top 43
theorem scLaw : FnScope ["_law_script", "_law_plan_here", "_law_box_here", "_law_order_here", "_law_far", "_law_row", "_law_other", "_law_place", "_law_many", "_law_blocks"] ["_law_script"] (defScope sLaw) := ⟨rfl, rfl, rfl, by decide +kernel, rfl, by decide +kernel, by decide +kernel⟩
set_option maxHeartbeats 4000000 in
theorem has_law (F : FunAt K mg "law" sLaw ["_law_script"]) (T : TxLaw P w K mg base) : Has P w K mg base 7 "law" ["_law_script"] (spLaw K) := by
  refine F.has scLaw (fun vs H Q E h => ?_) (fun f cdv A outer s H vs Q E hr h => ?_)
  · obtain ⟨a, ns, rfl, _⟩ := h
    rfl
  obtain ⟨a, ns, rfl, hS, ln, kk⟩ := h
  refine ⟨_, (pss_cons (ps_asg (pcall T._law_plan hr (by decide) (by rfl) (pa_cons (pv 0) (pa_cons pe_int (pa_cons pe_int pa_nil)))) (pg_tupF (n := 2) (by rfl) (pgs_cons (pg_name (i := 8) scLaw.nd rfl (Or.inl rfl)) (pgs_cons (pg_name (i := 9) scLaw.nd rfl (Or.inl rfl)) pgs_nil))))
    (pss_cons (ps_set (i := 1) scLaw.nd rfl (Or.inl rfl) (pe_tup (pa_cons (pv 8) (pa_cons (pe_op op_cat (pe_lst (pa_cons (pe_tup pa_nil) (pa_cons (pe_callTy (k_tupleR rfl) (by rfl) T.tuple (by decide +kernel) (pa_cons (pe_callTy k_rng1 (by rfl) T.range (by decide +kernel) (pa_cons (pv 8) pa_nil)) pa_nil)) pa_nil))) (pv 9)) pa_nil))))
    (pss_cons (ps_set (i := 2) scLaw.nd rfl (Or.inl rfl) (pcall T._law_box hr (by decide) (by rfl) (pa_cons (pv 0) (pa_cons pe_int pa_nil))))
    (pss_cons (ps_set (i := 3) scLaw.nd rfl (Or.inl rfl) (pcall T._law_order hr (by decide) (by rfl) (pa_cons (pv 2) (pa_cons (pv 8) pa_nil))))
    (pss_cons (ps_set (i := 4) scLaw.nd rfl (Or.inl rfl) (pe_op op_add pe_int (pcall T._law_next hr (by decide) (by rfl) (pa_cons (pv 2) (pa_cons (pe_op op_pow pe_int pe_int) pa_nil)))))
    (pss_cons (ps_if (pt_not (pt_val (pcall T._law_good hr (by decide) (by rfl) (pa_cons (pv 1) (pa_cons (pv 3) pa_nil)))))
    (pss_one (ps_ret pe_bl))
    pss_nil)
    (pss_cons (ps_for PassesOwn.never rfl (pi_list (pcall T._law_bad_turnings hr (by decide) (by rfl) (pa_cons (pv 8) (pa_cons (pv 3) (pa_cons (pv 4) pa_nil))))) (pg_name (i := 5) scLaw.nd rfl (Or.inl rfl))
    (pss_one (ps_if (pt_cmpR op_ne (pcall T._law_refused hr (by decide) (by rfl) (pa_cons pe_str (pa_cons (pv 1) (pa_cons (pv 5) pa_nil)))) pe_str (nomark _))
      (pss_one (ps_ret pe_bl))
      pss_nil)))
    (pss_cons (ps_for PassesOwn.never rfl (pi_list (pe_lst (pa_cons (pe_tup (pa_cons (pe_op op_add (pv 8) pe_int) (pa_cons (pe_ix ix_tupF (pv 1) pe_int (fun _ _ => rfl)) pa_nil))) (pa_cons (pe_tup (pa_cons (pe_op op_add (pe_op op_add (pv 8) (pe_op op_mod (pv 4) pe_int)) pe_int) (pa_cons (pe_lst pa_nil) pa_nil))) pa_nil)))) (pg_name (i := 6) scLaw.nd rfl (Or.inl rfl))
    (pss_one (ps_if (PW.pt (pw_or (pt_cmpR op_ne (pcall T._law_refused hr (by decide) (by rfl) (pa_cons pe_str (pa_cons (pv 1) (pa_cons (pv 6) pa_nil)))) pe_str (nomark _)) (pw_or1 (pt_cmpR op_ne (pcall T._law_refused hr (by decide) (by rfl) (pa_cons pe_str (pa_cons (pv 6) (pa_cons (pv 1) pa_nil)))) pe_str (nomark _)))))
      (pss_one (ps_ret pe_bl))
      pss_nil)))
    (pss_cons (ps_for PassesOwn.never rfl (pi_list (pe_lst (pa_cons (pe_un un_neg pe_int) (pa_cons (pe_op op_sub pe_int (pv 4)) (pa_cons (pe_callB k_len (by rfl) T.len (by decide +kernel) (pa_cons (pe_ix ix_tupF (pv 1) pe_int (fun _ _ => rfl)) pa_nil)) (pa_cons (pe_op op_add (pe_op op_sub (pe_callB k_len (by rfl) T.len (by decide +kernel) (pa_cons (pe_ix ix_tupF (pv 1) pe_int (fun _ _ => rfl)) pa_nil)) pe_int) (pv 4)) pa_nil)))))) (pg_name (i := 7) scLaw.nd rfl (Or.inl rfl))
    (pss_one (ps_if (PW.pt (pw_or (pt_cmpR op_ne (pcall T._law_refused hr (by decide) (by rfl) (pa_cons pe_str (pa_cons (pv 1) (pa_cons (pv 7) pa_nil)))) pe_str (nomark _)) (pw_or1 (pt_cmpR op_ne (pcall T._law_refused hr (by decide) (by rfl) (pa_cons pe_str (pa_cons (pv 1) (pa_cons (pv 7) pa_nil)))) pe_str (nomark _)))))
      (pss_one (ps_ret pe_bl))
      pss_nil)))
    (pss_cons (ps_if (PW.pt (pw_or (pt_cmpR op_ne (pcall T._law_refused hr (by decide) (by rfl) (pa_cons pe_str (pa_cons (pv 1) (pa_cons pe_int pa_nil)))) pe_str (nomark _)) (pw_or1 (pt_cmpR op_ne (pcall T._law_refused hr (by decide) (by rfl) (pa_cons pe_str (pa_cons (pv 1) (pa_cons pe_int pa_nil)))) pe_str (nomark _)))))
    (pss_one (ps_ret pe_bl))
    pss_nil)
    (pss_one (ps_ret (pe_and (pe_cmpR op_eq (pcall T._law_refused hr (by decide) (by rfl) (pa_cons pe_str (pa_cons (pe_tup (pa_cons (pv 8) (pa_cons (pe_lst pa_nil) pa_nil))) (pa_cons pe_int pa_nil)))) pe_str (nomark _)) (pe_one (pcall T._law_good hr (by decide) (by rfl) (pa_cons (pv 1) (pa_cons (pv 3) pa_nil))))))))))))))))), ?_⟩
  walk_at "rd"
  refine ⟨a, 0, 30, ns, rfl, hS, ln, by decide, by decide, by decide, by decide, fun p l m bs H1 s1 pm => ?_⟩
  have pl := pm.pl
  have m1 := pm.m1
  have m40 := pm.m40
  have ble := pm.le
  obtain ⟨ps, el, tu⟩ := id pm.bl
  walk_at "rd"
  refine ⟨Nat.le_of_ble_eq_true rfl, ?_⟩
  intro p2 hp2
  obtain ⟨H2, s2, e2, eq_p2⟩ : ∃ Hx, Same _ Hx ∧ Hx p2 = some _ ∧ upd _ p2 _ = Hx := ⟨_, Same.new hp2 _, upd_same, rfl⟩
  rw [eq_p2]; clear eq_p2
  walk_at "rd"
  intro p3 hp3
  obtain ⟨H3, s3, e3, eq3⟩ : ∃ Hx, Same H2 Hx ∧ Hx p3 = some (.rng 0 (m : Int)) ∧ upd H2 p3 (.rng 0 (m : Int)) = Hx := ⟨_, Same.new hp3 _, upd_same, rfl⟩
  rw [eq3]; clear eq3
  walk_at "rd"
  refine r_tupR e3 (by omega) (by omega) (by omega) (by omega) (by omega) ?_
  intro p4 hp4
  obtain ⟨H4, s4, e4, eq_p4⟩ : ∃ Hx, Same _ Hx ∧ Hx p4 = some _ ∧ upd _ p4 _ = Hx := ⟨_, Same.new hp4 _, upd_same, rfl⟩
  rw [eq_p4]; clear eq_p4
  rw [show ((m : Int) - 0).toNat = m by omega] at e4
  walk_at "rd"
  refine ⟨Nat.le_of_ble_eq_true rfl, ?_⟩
  intro l5 hl5
  obtain ⟨H5, s5, e5, eq_l5⟩ : ∃ Hx, Same _ Hx ∧ Hx l5 = some _ ∧ upd _ l5 _ = Hx := ⟨_, Same.new hl5 _, upd_same, rfl⟩
  rw [eq_l5]; clear eq_l5
  have s15 := s2.trans (s3.trans (s4.trans s5))
  walk_at "rd"
  refine r_cat e5 (s15 _ _ el) (by rw [List.length_map, tu.1]; show 2 + _ ≤ 16777216; omega) ?_
  intro l6 hl6
  obtain ⟨H6, s6, e6, eq_l6⟩ : ∃ Hx, Same _ Hx ∧ Hx l6 = some _ ∧ upd _ l6 _ = Hx := ⟨_, Same.new hl6 _, upd_same, rfl⟩
  rw [eq_l6]; clear eq_l6
  walk_at "rd"
  refine ⟨Nat.le_of_ble_eq_true rfl, ?_⟩
  intro pp hpp
  obtain ⟨H7, s7, e7, eq_pp⟩ : ∃ Hx, Same _ Hx ∧ Hx pp = some _ ∧ upd _ pp _ = Hx := ⟨_, Same.new hpp _, upd_same, rfl⟩
  rw [eq_pp]; clear eq_pp
  obtain ⟨bs2, ebs2⟩ : ∃ bs2, bs2 = [] :: rngV 0 m :: bs := ⟨_, rfl⟩
  have s17 := s15.trans (s6.trans s7)
  have B7 : Blks H7 l6 bs2 := by
    rw [ebs2]
    refine ⟨p2 :: p4 :: ps, s7 _ _ e6, by show _ + 1 + 1 = _ + 1 + 1; rw [tu.1], fun i q b h1 h2 => ?_⟩
    match i, h1, h2 with
    | 0, h1, h2 => cases h1; cases h2; exact (s3.trans (s4.trans (s5.trans (s6.trans s7)))) _ _ e2
    | 1, h1, h2 => cases h1; cases h2; exact (s5.trans (s6.trans s7)) _ _ e4
    | i + 2, h1, h2 => exact s17 _ _ (tu.2 i q b h1 h2)
  have lb2 : bs2.length = bs.length + 2 := by rw [ebs2]; rfl
  have b20 : bs2[0]? = some [] := by rw [ebs2]; rfl
  have b21 : bs2[1]? = some (rngV 0 m) := by rw [ebs2]; rfl
  have R7 : PlanR H7 pp l6 m bs2 := ⟨e7, B7, fun b hb => by
    rw [ebs2] at hb
    rcases List.mem_cons.mp hb with rfl | hb
    · exact ⟨List.Pairwise.nil, fun x hx => by cases hx⟩
    rcases List.mem_cons.mp hb with rfl | hb
    · exact ⟨rngV_lt 0 m, fun x hx => by have := mem_rngV_iff.mp hx; omega⟩
    · exact pm.rb b hb, by omega, by omega⟩
  have g7 := s1.trans s17
  clear e2 e3 e4 e5 e6
  walk_at "rd"
  refine ⟨a, 1, ns, rfl, g7.seq hS, by decide, by decide, fun q b0 b1 b2 hq ok => ?_⟩
  walk_at "rd"
  refine ⟨q, (m : Int), rfl, ⟨b0, b1, b2, upd_same, ok⟩, by omega, by omega, fun r o H8 hr8 e8 lo nd rng bx s8 => ?_⟩
  have g8 : Same H7 H8 := (Same.new hq _).sam1 hq s8
  have to : Turng m o := ⟨by rw [lo]; omega, nd, rng⟩
  obtain ⟨c0, c1, c2, eq8, ok8⟩ := bx
  walk_at "rd"
  refine ⟨q, _, c0, c1, c2, rfl, eq8, ok8, by decide, by decide, fun f d0 d1 d2 f0 f1 ok9 => ?_⟩
  have g9 : Same H7 (upd H8 q (boxO d0 d1 d2)) := g8.late hq _
  have e9 : upd H8 q (boxO d0 d1 d2) r = some (.lst (o.map V.int)) := by
    rw [upd_ne (fun z => by subst z; rw [upd_same] at hr8; cases hr8)]
    exact e8
  generalize upd H8 q (boxO d0 d1 d2) = H9 at g9 e9
  have R9 := R7.same g9
  walk_at "rd"
  have lb2' : bs2.length ≤ 102 := by omega
  refine ⟨pp, l6, r, m, bs2, o, rfl, R9, m40, e9, to, b20, b21, by omega, fun H10 s10 => ?_⟩
  refine ⟨true, rfl, ?_⟩
  have R10 := R9.same s10
  have e10 := s10 _ _ e9
  clear g9 g8 g7 R9 e9 s10 R7 B7 eq8 hr8 e8
  walk_at "rd"
  refine ⟨r, m, 1 + f, o, rfl, by omega, m40, by omega, e10, to, fun q2 rs H11 s11 eq2 le2 rows => ?_⟩
  have R11 := R10.same s11
  walk_at "rd"
  refine ⟨q2, rfl, ⟨_, SqL.of eq2⟩, ?_⟩
  refine for_list (xs := rs.map V.ref) (fun i σ H' => ∃ v5, σ = [some (.ref a), some (.ref pp), some (.ref q), some (.ref r), some (.int (1 + f)), v5, none, none, some (.int (m : Int)), some (.ref l)] ∧ Same H11 H') ?_ ?_ ?_ ?_
  · exact ⟨_, rfl, Same.refl _⟩
  · rintro i σ H' _ ⟨_, _, s'⟩
    exact SqL.of (s' _ _ eq2)
  · rintro i y σ H12 hy ⟨v5, rfl, s12⟩
    obtain ⟨x, rfl, hx⟩ : ∃ x, y = V.ref x ∧ rs[i]? = some x := by
      rw [List.getElem?_map] at hy
      cases h : rs[i]? with
      | none => rw [h] at hy; cases hy
      | some x => rw [h] at hy; cases hy; exact ⟨x, rfl, rfl⟩
    obtain ⟨o', eo, lo', bo⟩ := rows x (List.mem_of_getElem? hx)
    have dd : Deed H12 m bs2 "moved" (.ref x) (some 14) := by
      have := Deed.moved (bs := bs2) (s12 _ _ eo) lo' m40
      rwa [if_neg bo] at this
    walk_at "rd"
    refine ⟨pp, l6, m, bs2, _, _, some 14, rfl, R11.same s12, dd, fun H13 s13 => ?_⟩
    walk_at "rd"
    refine r_ne rfl ?_
    rw [decide_eq_true (show V.str (ansB (some 14)) = V.str "turning" from rfl)]
    walk_at "rd"
    exact ⟨_, rfl, s12.trans s13⟩
  rintro σ H12 ⟨v5, rfl, s12⟩
  have R12 := R11.same s12
  have s12x := s11.trans s12
  clear R11 rows eq2 s11 s12
  have ep := R12.tup
  obtain ⟨ps6, el6, tu6⟩ := id R12.blk
  walk_at "rd"
  refine ⟨Nat.le_of_ble_eq_true rfl, ?_⟩
  intro o1 ho1
  obtain ⟨H13, s13, e13, eq_o1⟩ : ∃ Hx, Same _ Hx ∧ Hx o1 = some _ ∧ upd _ o1 _ = Hx := ⟨_, Same.new ho1 _, upd_same, rfl⟩
  rw [eq_o1]; clear eq_o1
  walk_at "rd"
  refine ⟨Nat.le_of_ble_eq_true rfl, ?_⟩
  intro ln hln
  obtain ⟨H14, s14, eln, eq_ln⟩ : ∃ Hx, Same _ Hx ∧ Hx ln = some _ ∧ upd _ ln _ = Hx := ⟨_, Same.new hln _, upd_same, rfl⟩
  rw [eq_ln]; clear eq_ln
  walk_at "rd"
  refine ⟨Nat.le_of_ble_eq_true rfl, ?_⟩
  intro o2 ho2
  obtain ⟨H15, s15, e15, eq_o2⟩ : ∃ Hx, Same _ Hx ∧ Hx o2 = some _ ∧ upd _ o2 _ = Hx := ⟨_, Same.new ho2 _, upd_same, rfl⟩
  rw [eq_o2]; clear eq_o2
  walk_at "rd"
  refine ⟨Nat.le_of_ble_eq_true rfl, ?_⟩
  intro lo2 hlo2
  obtain ⟨H16, s16, e16, eq_lo2⟩ : ∃ Hx, Same _ Hx ∧ Hx lo2 = some _ ∧ upd _ lo2 _ = Hx := ⟨_, Same.new hlo2 _, upd_same, rfl⟩
  rw [eq_lo2]; clear eq_lo2
  have s1316 := s13.trans (s14.trans (s15.trans s16))
  have R16 := R12.same s1316
  have row2 : ∀ x ∈ [o1, o2], ∃ l' m' bs', PlanR H16 x l' m' bs' ∧ m ≠ m' := by
    intro x hx
    simp only [List.mem_cons, List.not_mem_nil, or_false] at hx
    rcases hx with rfl | rfl
    · refine ⟨l6, m + 1, bs2, ⟨by rw [Int.natCast_add]; exact (s14.trans (s15.trans s16)) _ _ e13, R16.blk, fun b hb => rise_mono (R16.rb b hb) (by omega), R16.le, by omega⟩, by omega⟩
    · obtain ⟨k, hk⟩ : ∃ k : Nat, (1 + f) % 9 + 1 = (k : Int) := ⟨((1 + f) % 9 + 1).toNat, by omega⟩
      refine ⟨ln, m + k, [], ⟨?_, ⟨[], (s15.trans s16) _ _ eln, rfl, fun i q b h1 h2 => (by cases h1)⟩, fun b hb => (by cases hb), Nat.zero_le _, by omega⟩, by omega⟩
      rw [Int.natCast_add, ← hk, ← Int.add_assoc]
      exact s16 _ _ e15
  have e16' : H16 lo2 = some (.lst ([o1, o2].map V.ref)) := e16
  refine ⟨lo2, rfl, ⟨_, SqL.of e16⟩, ?_⟩
  refine for_list (xs := [o1, o2].map V.ref) (fun i σ H' => ∃ v6, σ = [some (.ref a), some (.ref pp), some (.ref q), some (.ref r), some (.int (1 + f)), v5, v6, none, some (.int (m : Int)), some (.ref l)] ∧ Same H16 H') ?_ ?_ ?_ ?_
  · exact ⟨_, rfl, Same.refl _⟩
  · rintro i σ H' _ ⟨_, _, s'⟩
    exact SqL.of (s' _ _ e16')
  · rintro i y σ H17 hy ⟨v6, rfl, s17⟩
    obtain ⟨x, rfl, hx⟩ : ∃ x, y = V.ref x ∧ [o1, o2][i]? = some x := by
      rw [List.getElem?_map] at hy
      cases h : [o1, o2][i]? with
      | none => rw [h] at hy; cases hy
      | some x => rw [h] at hy; cases hy; exact ⟨x, rfl, rfl⟩
    obtain ⟨l', m', bs', Rx, ne⟩ := row2 x (List.mem_of_getElem? hx)
    have Rp := R16.same s17
    have Rx := Rx.same s17
    have d1 : Deed H17 m bs2 "beside" (.ref x) (some 16) := by
      have := Deed.beside (m := m) (bs := bs2) Rx.tup Rx.blk (by have := Rx.le; omega)
      rwa [if_neg (by omega)] at this
    walk_at "rd"
    refine ⟨pp, l6, m, bs2, _, _, some 16, rfl, Rp, d1, fun H18 s18 => ?_⟩
    walk_at "rd"
    refine r_ne rfl ?_
    rw [decide_eq_true (show V.str (ansB (some 16)) = V.str "unlike" from rfl)]
    walk_at "rd"
    have Rp := Rp.same s18
    have Rx := Rx.same s18
    have d2 : Deed H18 m' bs' "beside" (.ref pp) (some 16) := by
      have := Deed.beside (m := m') (bs := bs') Rp.tup Rp.blk (by omega)
      rwa [if_neg (by omega)] at this
    refine ⟨x, l', m', bs', _, _, some 16, rfl, Rx, d2, fun H19 s19 => ?_⟩
    walk_at "rd"
    refine r_ne rfl ?_
    rw [decide_eq_true (show V.str (ansB (some 16)) = V.str "unlike" from rfl)]
    walk_at "rd"
    exact ⟨_, rfl, s17.trans (s18.trans s19)⟩
  rintro σ H17 ⟨v6, rfl, s17⟩
  have R17 := R16.same s17
  have e17 := s17 _ _ (s1316 _ _ (s12x _ _ e10))
  clear row2 e16 e16' ep el6 tu6
  have ep := R17.tup
  obtain ⟨ps6, el6, tu6⟩ := id R17.blk
  have lps : ps6.length = bs2.length := tu6.1
  walk_at "rd"
  rw [List.length_map, lps]
  refine ⟨Nat.le_of_ble_eq_true rfl, ?_⟩
  intro l18 hl18
  obtain ⟨H18, s18, e18, eq_l18⟩ : ∃ Hx, Same _ Hx ∧ Hx l18 = some _ ∧ upd _ l18 _ = Hx := ⟨_, Same.new hl18 _, upd_same, rfl⟩
  rw [eq_l18]; clear eq_l18
  obtain ⟨z4, ez4⟩ : ∃ z4 : List Int, z4 = [-1, 0 - (1 + f), (bs2.length : Int), (bs2.length : Int) - 1 + (1 + f)] := ⟨_, rfl⟩
  have rz : ∀ x ∈ z4, x < 0 ∨ (bs2.length : Int) ≤ x := by
    rw [ez4]
    intro x hx
    simp only [List.mem_cons, List.not_mem_nil, or_false] at hx
    rcases hx with rfl | rfl | rfl | rfl <;> omega
  have e18' : H18 l18 = some (.lst (z4.map V.int)) := by rw [e18, ez4]; rfl
  have R18 := R17.same s18
  have fst0 : ∀ (j : Nat) (b : List Int), (0 : Int) = (j : Int) → bs2[j]? = some b → b = [] := fun j b e1 e2 => by
    obtain rfl : j = 0 := by omega
    rw [b20] at e2
    exact (Option.some.inj e2).symm
  have fst1 : ∀ (j : Nat) (b : List Int), (1 : Int) = (j : Int) → bs2[j]? = some b → compl m b = [] := fun j b e1 e2 => by
    obtain rfl : j = 1 := by omega
    rw [b21] at e2
    rw [← Option.some.inj e2]
    exact compl_all m
  refine ⟨l18, rfl, ⟨_, SqL.of e18'⟩, ?_⟩
  refine for_list (xs := z4.map V.int) (fun i σ H' => ∃ v7, σ = [some (.ref a), some (.ref pp), some (.ref q), some (.ref r), some (.int (1 + f)), v5, v6, v7, some (.int (m : Int)), some (.ref l)] ∧ Same H18 H') ?_ ?_ ?_ ?_
  · exact ⟨_, rfl, Same.refl _⟩
  · rintro i σ H' _ ⟨_, _, s'⟩
    exact SqL.of (s' _ _ e18')
  · rintro i y σ H19 hy ⟨v7, rfl, s19⟩
    obtain ⟨x, rfl, hx⟩ := nth_ints hy
    have rx := rz x (List.mem_of_getElem? hx)
    have Rp := R18.same s19
    have away : ∀ (j : Nat) (b : List Int), x = (j : Int) → bs2[j]? = some b → False := fun j b e1 e2 => by
      have := (List.getElem?_eq_some_iff.mp e2).1
      omega
    walk_at "rd"
    refine ⟨pp, l6, m, bs2, _, _, some 1, rfl, Rp, bad_in fun j b e1 e2 => (away j b e1 e2).elim, fun H20 s20 => ?_⟩
    walk_at "rd"
    refine r_ne rfl ?_
    rw [decide_eq_true (show V.str (ansB (some 1)) = V.str "block" from rfl)]
    walk_at "rd"
    refine ⟨pp, l6, m, bs2, _, _, some 1, rfl, Rp.same s20, bad_out fun j b e1 e2 => (away j b e1 e2).elim, fun H21 s21 => ?_⟩
    walk_at "rd"
    refine r_ne rfl ?_
    rw [decide_eq_true (show V.str (ansB (some 1)) = V.str "block" from rfl)]
    walk_at "rd"
    exact ⟨_, rfl, s19.trans (s20.trans s21)⟩
  rintro σ H19 ⟨v7, rfl, s19⟩
  have R19 := R18.same s19
  have e19 := s19 _ _ (s18 _ _ e17)
  clear el6 tu6 ep
  walk_at "rd"
  refine ⟨pp, l6, m, bs2, _, _, some 1, rfl, R19, bad_in fst0, fun H20 s20 => ?_⟩
  walk_at "rd"
  refine r_ne rfl ?_
  rw [decide_eq_true (show V.str (ansB (some 1)) = V.str "block" from rfl)]
  walk_at "rd"
  refine ⟨pp, l6, m, bs2, _, _, some 1, rfl, R19.same s20, bad_out fst1, fun H21 s21 => ?_⟩
  walk_at "rd"
  refine r_ne rfl ?_
  rw [decide_eq_true (show V.str (ansB (some 1)) = V.str "block" from rfl)]
  have R21 := R19.same (s20.trans s21)
  have e21 := (s20.trans s21) _ _ e19
  walk_at "rd"
  refine ⟨Nat.le_of_ble_eq_true rfl, ?_⟩
  intro l22 hl22
  obtain ⟨H22, s22, e22, eq_l22⟩ : ∃ Hx, Same _ Hx ∧ Hx l22 = some _ ∧ upd _ l22 _ = Hx := ⟨_, Same.new hl22 _, upd_same, rfl⟩
  rw [eq_l22]; clear eq_l22
  walk_at "rd"
  refine ⟨Nat.le_of_ble_eq_true rfl, ?_⟩
  intro p23 hp23
  obtain ⟨H23, s23, e23, eq_p23⟩ : ∃ Hx, Same _ Hx ∧ Hx p23 = some _ ∧ upd _ p23 _ = Hx := ⟨_, Same.new hp23 _, upd_same, rfl⟩
  rw [eq_p23]; clear eq_p23
  walk_at "rd"
  refine ⟨p23, l22, m, [], _, _, some 1, rfl, ⟨e23, ⟨[], s23 _ _ e22, rfl, fun i q b h1 h2 => (by cases h1)⟩, fun b hb => (by cases hb), Nat.zero_le _, by omega⟩, ?_, fun H24 s24 => ?_⟩
  · have := Deed.swapped (H := H23) (m := m) (bs := []) (z := 0)
    rwa [if_pos rfl] at this
  have R24 := R21.same (s22.trans (s23.trans s24))
  have e24 := (s22.trans (s23.trans s24)) _ _ e21
  walk_at "rd"
  refine r_eq rfl ?_
  rw [decide_eq_true (show V.str (ansB (some 1)) = V.str "block" from rfl)]
  walk_at "rd"
  refine ⟨pp, l6, r, m, bs2, o, rfl, R24, m40, e24, to, b20, b21, by omega, fun H25 s25 => ?_⟩
  exact kk _
end
set_option maxHeartbeats 4000000 in
theorem all_mk {l : PySem.W.OpenLaw} {c_ByNought c_NoBlock c_NoDays c_NoField c_NoLine c_NoName c_NoNet c_NoPlan c_NoPlane c_NoPrime c_NoSize c_NoSquare c_NoText c_NoTriples c_NoTurning c_TooMany c_Unlike c_BlockError : Addr} {w : World} {K : PySem.W.Frag} {h : Heap} {mg : Str → Option Value} {fa f1 f2 f3 f4 f5 f6 f7 f8 f9 f10 f11 f12 f13 f14 f15 f16 f17 f18 f19 f20 f21 f22 f23 : Addr} (X : K.In h) (G : h.Ns mainGlobals mg) (hfa : mg "law" = some (.ref fa))
    {od1 an1 od2 an2 od3 an3 od4 an4 od5 an5 od6 an6 od7 an7 od8 an8 od9 an9 od10 an10 od11 an11 od12 an12 od13 an13 od14 an14 od15 an15 od16 an16 od17 an17 od18 an18 od19 an19 od20 an20 od21 an21 od22 an22 od23 an23 : Option Addr} {sl1 sl2 sl3 sl4 sl5 sl6 sl7 sl8 sl9 sl10 sl11 sl12 sl13 sl14 sl15 sl16 sl17 sl18 sl19 sl20 sl21 sl22 sl23 : Array (Option Value)} {oc1 kV1 dc1 pm1 cd1 ct1 oc2 kV2 dc2 pm2 cd2 ct2 oc3 kV3 dc3 pm3 cd3 ct3 oc4 kV4 dc4 pm4 cd4 ct4 oc5 kV5 dc5 pm5 cd5 ct5 oc6 kV6 dc6 pm6 cd6 ct6 oc7 kV7 dc7 pm7 cd7 ct7 oc8 kV8 dc8 pm8 cd8 ct8 oc9 kV9 dc9 pm9 cd9 ct9 oc10 kV10 dc10 pm10 cd10 ct10 oc11 kV11 dc11 pm11 cd11 ct11 oc12 kV12 dc12 pm12 cd12 ct12 oc13 kV13 dc13 pm13 cd13 ct13 oc14 kV14 dc14 pm14 cd14 ct14 oc15 kV15 dc15 pm15 cd15 ct15 oc16 kV16 dc16 pm16 cd16 ct16 oc17 kV17 dc17 pm17 cd17 ct17 oc18 kV18 dc18 pm18 cd18 ct18 oc19 kV19 dc19 pm19 cd19 ct19 oc20 kV20 dc20 pm20 cd20 ct20 oc21 kV21 dc21 pm21 cd21 ct21 oc22 kV22 dc22 pm22 cd22 ct22 oc23 kV23 dc23 pm23 cd23 ct23 : Value}
    (a1 : PySem.W.nsIn K mainGlobals "_law_box" = some (some (.ref f1))) (l1 : K.lookup f1 = some ⟨oc1, od1, .func (PySem.W.fnOf "_law_box" "_law_box" (defArgs sBox) (defBody sBox) (defScope sBox) .none kV1 dc1 pm1 an1 cd1 ct1), sl1⟩) (c1 : PySem.W.codeIn K cd1 "_law_box" = true) (k1 : PySem.W.keepIn K (.ref f1) = true)
    (a2 : PySem.W.nsIn K mainGlobals "_law_next" = some (some (.ref f2))) (l2 : K.lookup f2 = some ⟨oc2, od2, .func (PySem.W.fnOf "_law_next" "_law_next" (defArgs sNext) (defBody sNext) (defScope sNext) .none kV2 dc2 pm2 an2 cd2 ct2), sl2⟩) (c2 : PySem.W.codeIn K cd2 "_law_next" = true) (k2 : PySem.W.keepIn K (.ref f2) = true)
    (a3 : PySem.W.nsIn K mainGlobals "_law_block" = some (some (.ref f3))) (l3 : K.lookup f3 = some ⟨oc3, od3, .func (PySem.W.fnOf "_law_block" "_law_block" (defArgs sBlock) (defBody sBlock) (defScope sBlock) .none kV3 dc3 pm3 an3 cd3 ct3), sl3⟩) (c3 : PySem.W.codeIn K cd3 "_law_block" = true) (k3 : PySem.W.keepIn K (.ref f3) = true)
    (a4 : PySem.W.nsIn K mainGlobals "_law_masks" = some (some (.ref f4))) (l4 : K.lookup f4 = some ⟨oc4, od4, .func (PySem.W.fnOf "_law_masks" "_law_masks" (defArgs sMasks) (defBody sMasks) (defScope sMasks) .none kV4 dc4 pm4 an4 cd4 ct4), sl4⟩) (c4 : PySem.W.codeIn K cd4 "_law_masks" = true) (k4 : PySem.W.keepIn K (.ref f4) = true)
    (a5 : PySem.W.nsIn K mainGlobals "_law_few" = some (some (.ref f5))) (l5 : K.lookup f5 = some ⟨oc5, od5, .func (PySem.W.fnOf "_law_few" "_law_few" (defArgs sFew) (defBody sFew) (defScope sFew) .none kV5 dc5 pm5 an5 cd5 ct5), sl5⟩) (c5 : PySem.W.codeIn K cd5 "_law_few" = true) (k5 : PySem.W.keepIn K (.ref f5) = true)
    (a6 : PySem.W.nsIn K mainGlobals "_law_order" = some (some (.ref f6))) (l6 : K.lookup f6 = some ⟨oc6, od6, .func (PySem.W.fnOf "_law_order" "_law_order" (defArgs sOrder) (defBody sOrder) (defScope sOrder) .none kV6 dc6 pm6 an6 cd6 ct6), sl6⟩) (c6 : PySem.W.codeIn K cd6 "_law_order" = true) (k6 : PySem.W.keepIn K (.ref f6) = true)
    (a7 : PySem.W.nsIn K mainGlobals "_law_rolled" = some (some (.ref f7))) (l7 : K.lookup f7 = some ⟨oc7, od7, .func (PySem.W.fnOf "_law_rolled" "_law_rolled" (defArgs sRolled) (defBody sRolled) (defScope sRolled) .none kV7 dc7 pm7 an7 cd7 ct7), sl7⟩) (c7 : PySem.W.codeIn K cd7 "_law_rolled" = true) (k7 : PySem.W.keepIn K (.ref f7) = true)
    (a8 : PySem.W.nsIn K mainGlobals "_law_even" = some (some (.ref f8))) (l8 : K.lookup f8 = some ⟨oc8, od8, .func (PySem.W.fnOf "_law_even" "_law_even" (defArgs sEven) (defBody sEven) (defScope sEven) .none kV8 dc8 pm8 an8 cd8 ct8), sl8⟩) (c8 : PySem.W.codeIn K cd8 "_law_even" = true) (k8 : PySem.W.keepIn K (.ref f8) = true)
    (a9 : PySem.W.nsIn K mainGlobals "_law_plan" = some (some (.ref f9))) (l9 : K.lookup f9 = some ⟨oc9, od9, .func (PySem.W.fnOf "_law_plan" "_law_plan" (defArgs sPlan) (defBody sPlan) (defScope sPlan) .none kV9 dc9 pm9 an9 cd9 ct9), sl9⟩) (c9 : PySem.W.codeIn K cd9 "_law_plan" = true) (k9 : PySem.W.keepIn K (.ref f9) = true)
    (a10 : PySem.W.nsIn K mainGlobals "things_outside" = some (some (.ref f10))) (l10 : K.lookup f10 = some ⟨oc10, od10, .func (PySem.W.fnOf "things_outside" "things_outside" (defArgs sThingsOutside) (defBody sThingsOutside) (defScope sThingsOutside) .none kV10 dc10 pm10 an10 cd10 ct10), sl10⟩) (c10 : PySem.W.codeIn K cd10 "things_outside" = true) (k10 : PySem.W.keepIn K (.ref f10) = true)
    (a11 : PySem.W.nsIn K mainGlobals "block_at" = some (some (.ref f11))) (l11 : K.lookup f11 = some ⟨oc11, od11, .func (PySem.W.fnOf "block_at" "block_at" (defArgs sBlockAt) (defBody sBlockAt) (defScope sBlockAt) .none kV11 dc11 pm11 an11 cd11 ct11), sl11⟩) (c11 : PySem.W.codeIn K cd11 "block_at" = true) (k11 : PySem.W.keepIn K (.ref f11) = true)
    (a12 : PySem.W.nsIn K mainGlobals "cut_to" = some (some (.ref f12))) (l12 : K.lookup f12 = some ⟨oc12, od12, .func (PySem.W.fnOf "cut_to" "cut_to" (defArgs sCutTo) (defBody sCutTo) (defScope sCutTo) .none kV12 dc12 pm12 an12 cd12 ct12), sl12⟩) (c12 : PySem.W.codeIn K cd12 "cut_to" = true) (k12 : PySem.W.keepIn K (.ref f12) = true)
    (a13 : PySem.W.nsIn K mainGlobals "within" = some (some (.ref f13))) (l13 : K.lookup f13 = some ⟨oc13, od13, .func (PySem.W.fnOf "within" "within" (defArgs sWithin) (defBody sWithin) (defScope sWithin) .none kV13 dc13 pm13 an13 cd13 ct13), sl13⟩) (c13 : PySem.W.codeIn K cd13 "within" = true) (k13 : PySem.W.keepIn K (.ref f13) = true)
    (a14 : PySem.W.nsIn K mainGlobals "without" = some (some (.ref f14))) (l14 : K.lookup f14 = some ⟨oc14, od14, .func (PySem.W.fnOf "without" "without" (defArgs sWithout) (defBody sWithout) (defScope sWithout) .none kV14 dc14 pm14 an14 cd14 ct14), sl14⟩) (c14 : PySem.W.codeIn K cd14 "without" = true) (k14 : PySem.W.keepIn K (.ref f14) = true)
    (a15 : PySem.W.nsIn K mainGlobals "moved" = some (some (.ref f15))) (l15 : K.lookup f15 = some ⟨oc15, od15, .func (PySem.W.fnOf "moved" "moved" (defArgs sMoved) (defBody sMoved) (defScope sMoved) .none kV15 dc15 pm15 an15 cd15 ct15), sl15⟩) (c15 : PySem.W.codeIn K cd15 "moved" = true) (k15 : PySem.W.keepIn K (.ref f15) = true)
    (a16 : PySem.W.nsIn K mainGlobals "beside" = some (some (.ref f16))) (l16 : K.lookup f16 = some ⟨oc16, od16, .func (PySem.W.fnOf "beside" "beside" (defArgs sBeside) (defBody sBeside) (defScope sBeside) .none kV16 dc16 pm16 an16 cd16 ct16), sl16⟩) (c16 : PySem.W.codeIn K cd16 "beside" = true) (k16 : PySem.W.keepIn K (.ref f16) = true)
    (a17 : PySem.W.nsIn K mainGlobals "swapped" = some (some (.ref f17))) (l17 : K.lookup f17 = some ⟨oc17, od17, .func (PySem.W.fnOf "swapped" "swapped" (defArgs sSwapped) (defBody sSwapped) (defScope sSwapped) .none kV17 dc17 pm17 an17 cd17 ct17), sl17⟩) (c17 : PySem.W.codeIn K cd17 "swapped" = true) (k17 : PySem.W.keepIn K (.ref f17) = true)
    (a18 : PySem.W.nsIn K mainGlobals "_law_word" = some (some (.ref f18))) (l18 : K.lookup f18 = some ⟨oc18, od18, .func (PySem.W.fnOf "_law_word" "_law_word" (defArgs sWord) (defBody sWord) (defScope sWord) .none kV18 dc18 pm18 an18 cd18 ct18), sl18⟩) (c18 : PySem.W.codeIn K cd18 "_law_word" = true) (k18 : PySem.W.keepIn K (.ref f18) = true)
    (a19 : PySem.W.nsIn K mainGlobals "_law_told" = some (some (.ref f19))) (l19 : K.lookup f19 = some ⟨oc19, od19, .func (PySem.W.fnOf "_law_told" "_law_told" (defArgs sTold) (defBody sTold) (defScope sTold) .none kV19 dc19 pm19 an19 cd19 ct19), sl19⟩) (c19 : PySem.W.codeIn K cd19 "_law_told" = true) (k19 : PySem.W.keepIn K (.ref f19) = true)
    (a20 : PySem.W.nsIn K mainGlobals "_law_refused" = some (some (.ref f20))) (l20 : K.lookup f20 = some ⟨oc20, od20, .func (PySem.W.fnOf "_law_refused" "_law_refused" (defArgs sRefused) (defBody sRefused) (defScope sRefused) .none kV20 dc20 pm20 an20 cd20 ct20), sl20⟩) (c20 : PySem.W.codeIn K cd20 "_law_refused" = true) (k20 : PySem.W.keepIn K (.ref f20) = true)
    (a21 : PySem.W.nsIn K mainGlobals "_law_bad_turnings" = some (some (.ref f21))) (l21 : K.lookup f21 = some ⟨oc21, od21, .func (PySem.W.fnOf "_law_bad_turnings" "_law_bad_turnings" (defArgs sBadTurnings) (defBody sBadTurnings) (defScope sBadTurnings) .none kV21 dc21 pm21 an21 cd21 ct21), sl21⟩) (c21 : PySem.W.codeIn K cd21 "_law_bad_turnings" = true) (k21 : PySem.W.keepIn K (.ref f21) = true)
    (a22 : PySem.W.nsIn K mainGlobals "_law_good" = some (some (.ref f22))) (l22 : K.lookup f22 = some ⟨oc22, od22, .func (PySem.W.fnOf "_law_good" "_law_good" (defArgs sGood) (defBody sGood) (defScope sGood) .none kV22 dc22 pm22 an22 cd22 ct22), sl22⟩) (c22 : PySem.W.codeIn K cd22 "_law_good" = true) (k22 : PySem.W.keepIn K (.ref f22) = true)
    (a23 : PySem.W.nsIn K mainGlobals "law" = some (some (.ref f23))) (l23 : K.lookup f23 = some ⟨oc23, od23, .func (PySem.W.fnOf "law" "law" (defArgs sLaw) (defBody sLaw) (defScope sLaw) .none kV23 dc23 pm23 an23 cd23 ct23), sl23⟩) (c23 : PySem.W.codeIn K cd23 "law" = true) (k23 : PySem.W.keepIn K (.ref f23) = true)
    (z1 : PySem.W.nsIn K mainGlobals "len" = some none)
    (z2 : PySem.W.nsIn K mainGlobals "int" = some none)
    (z3 : PySem.W.nsIn K mainGlobals "list" = some none)
    (z4 : PySem.W.nsIn K mainGlobals "range" = some none)
    (z5 : PySem.W.nsIn K mainGlobals "sorted" = some none)
    (z6 : PySem.W.nsIn K mainGlobals "tuple" = some none)
    (z7 : PySem.W.nsIn K mainGlobals "min" = some none)
    (z8 : PySem.W.nsIn K mainGlobals "max" = some none)
    (z9 : PySem.W.nsIn K mainGlobals "isinstance" = some none)
    (z10 : PySem.W.nsIn K mainGlobals "set" = some none)
    (z11 : PySem.W.nsIn K mainGlobals "enumerate" = some none)
    (z12 : PySem.W.nsIn K mainGlobals "ValueError" = some none)
    (na_ByNought : PySem.W.nsIn K mainGlobals "ByNought" = some (some (.ref c_ByNought)))
    (na_NoBlock : PySem.W.nsIn K mainGlobals "NoBlock" = some (some (.ref c_NoBlock)))
    (na_NoDays : PySem.W.nsIn K mainGlobals "NoDays" = some (some (.ref c_NoDays)))
    (na_NoField : PySem.W.nsIn K mainGlobals "NoField" = some (some (.ref c_NoField)))
    (na_NoLine : PySem.W.nsIn K mainGlobals "NoLine" = some (some (.ref c_NoLine)))
    (na_NoName : PySem.W.nsIn K mainGlobals "NoName" = some (some (.ref c_NoName)))
    (na_NoNet : PySem.W.nsIn K mainGlobals "NoNet" = some (some (.ref c_NoNet)))
    (na_NoPlan : PySem.W.nsIn K mainGlobals "NoPlan" = some (some (.ref c_NoPlan)))
    (na_NoPlane : PySem.W.nsIn K mainGlobals "NoPlane" = some (some (.ref c_NoPlane)))
    (na_NoPrime : PySem.W.nsIn K mainGlobals "NoPrime" = some (some (.ref c_NoPrime)))
    (na_NoSize : PySem.W.nsIn K mainGlobals "NoSize" = some (some (.ref c_NoSize)))
    (na_NoSquare : PySem.W.nsIn K mainGlobals "NoSquare" = some (some (.ref c_NoSquare)))
    (na_NoText : PySem.W.nsIn K mainGlobals "NoText" = some (some (.ref c_NoText)))
    (na_NoTriples : PySem.W.nsIn K mainGlobals "NoTriples" = some (some (.ref c_NoTriples)))
    (na_NoTurning : PySem.W.nsIn K mainGlobals "NoTurning" = some (some (.ref c_NoTurning)))
    (na_TooMany : PySem.W.nsIn K mainGlobals "TooMany" = some (some (.ref c_TooMany)))
    (na_Unlike : PySem.W.nsIn K mainGlobals "Unlike" = some (some (.ref c_Unlike)))
    (na_BlockError : PySem.W.nsIn K mainGlobals "BlockError" = some (some (.ref c_BlockError)))
    (xt1 : PySem.W.typeIn K (.ref c_BlockError) = some (.type "type"))
    (xt2 : (PySem.W.clsIn K c_BlockError).isSome = true)
    (xt3 : PySem.W.mroIn K c_BlockError (.type "BaseException") = some true)
    (xi4 : PySem.W.specialIn K (.builtin "object.__class__") "__get__" = some (some (.builtin "getset_descriptor.__get__")))
    (xi5 : PySem.W.takesIn K (.builtin "object.__class__") = some true)
    (xi1_NoTurning : PySem.W.findIn K (.ref c_NoTurning) "__getattribute__" = some (some (.builtin "BaseException.__getattribute__")))
    (xi7_NoTurning : PySem.W.findIn K (.ref c_NoTurning) "__getattr__" = some none)
    (xi8_NoTurning : PySem.W.mroIn K c_NoTurning (.type "BaseException") = some true)
    (xi2_NoTurning : (PySem.W.clsIn K c_NoTurning).isSome = true)
    (xi3_NoTurning : PySem.W.findIn K (.ref c_NoTurning) "__class__" = some (some (.builtin "object.__class__")))
    (xi6_NoTurning : PySem.W.mroIn K c_NoTurning (.type "object") = some true)
    (xe_NoTurning : PySem.W.excIn K c_NoTurning veB "ValueError.__new__" = true)
    (xs_NoTurning : PySem.W.mroIn K c_NoTurning (.ref c_BlockError) = some true)
    (xb_NoTurning : PySem.W.kitOne K (.ref c_NoTurning) (.ref c_BlockError) = some true)
    (xo_NoTurning_ByNought : PySem.W.kitOne K (.ref c_NoTurning) (.ref c_ByNought) = some false)
    (xo_NoTurning_NoBlock : PySem.W.kitOne K (.ref c_NoTurning) (.ref c_NoBlock) = some false)
    (xo_NoTurning_NoDays : PySem.W.kitOne K (.ref c_NoTurning) (.ref c_NoDays) = some false)
    (xo_NoTurning_NoField : PySem.W.kitOne K (.ref c_NoTurning) (.ref c_NoField) = some false)
    (xo_NoTurning_NoLine : PySem.W.kitOne K (.ref c_NoTurning) (.ref c_NoLine) = some false)
    (xo_NoTurning_NoName : PySem.W.kitOne K (.ref c_NoTurning) (.ref c_NoName) = some false)
    (xo_NoTurning_NoNet : PySem.W.kitOne K (.ref c_NoTurning) (.ref c_NoNet) = some false)
    (xo_NoTurning_NoPlan : PySem.W.kitOne K (.ref c_NoTurning) (.ref c_NoPlan) = some false)
    (xo_NoTurning_NoPlane : PySem.W.kitOne K (.ref c_NoTurning) (.ref c_NoPlane) = some false)
    (xo_NoTurning_NoPrime : PySem.W.kitOne K (.ref c_NoTurning) (.ref c_NoPrime) = some false)
    (xo_NoTurning_NoSize : PySem.W.kitOne K (.ref c_NoTurning) (.ref c_NoSize) = some false)
    (xo_NoTurning_NoSquare : PySem.W.kitOne K (.ref c_NoTurning) (.ref c_NoSquare) = some false)
    (xo_NoTurning_NoText : PySem.W.kitOne K (.ref c_NoTurning) (.ref c_NoText) = some false)
    (xo_NoTurning_NoTriples : PySem.W.kitOne K (.ref c_NoTurning) (.ref c_NoTriples) = some false)
    (xo_NoTurning_NoTurning : PySem.W.kitOne K (.ref c_NoTurning) (.ref c_NoTurning) = some true)
    (xo_NoTurning_TooMany : PySem.W.kitOne K (.ref c_NoTurning) (.ref c_TooMany) = some false)
    (xo_NoTurning_Unlike : PySem.W.kitOne K (.ref c_NoTurning) (.ref c_Unlike) = some false)
    (xv_NoTurning : PySem.W.kitOne K (.ref c_NoTurning) (.type "ValueError") = some true)
    (xi1_Unlike : PySem.W.findIn K (.ref c_Unlike) "__getattribute__" = some (some (.builtin "BaseException.__getattribute__")))
    (xi7_Unlike : PySem.W.findIn K (.ref c_Unlike) "__getattr__" = some none)
    (xi8_Unlike : PySem.W.mroIn K c_Unlike (.type "BaseException") = some true)
    (xi2_Unlike : (PySem.W.clsIn K c_Unlike).isSome = true)
    (xi3_Unlike : PySem.W.findIn K (.ref c_Unlike) "__class__" = some (some (.builtin "object.__class__")))
    (xi6_Unlike : PySem.W.mroIn K c_Unlike (.type "object") = some true)
    (xe_Unlike : PySem.W.excIn K c_Unlike veB "ValueError.__new__" = true)
    (xs_Unlike : PySem.W.mroIn K c_Unlike (.ref c_BlockError) = some true)
    (xb_Unlike : PySem.W.kitOne K (.ref c_Unlike) (.ref c_BlockError) = some true)
    (xo_Unlike_ByNought : PySem.W.kitOne K (.ref c_Unlike) (.ref c_ByNought) = some false)
    (xo_Unlike_NoBlock : PySem.W.kitOne K (.ref c_Unlike) (.ref c_NoBlock) = some false)
    (xo_Unlike_NoDays : PySem.W.kitOne K (.ref c_Unlike) (.ref c_NoDays) = some false)
    (xo_Unlike_NoField : PySem.W.kitOne K (.ref c_Unlike) (.ref c_NoField) = some false)
    (xo_Unlike_NoLine : PySem.W.kitOne K (.ref c_Unlike) (.ref c_NoLine) = some false)
    (xo_Unlike_NoName : PySem.W.kitOne K (.ref c_Unlike) (.ref c_NoName) = some false)
    (xo_Unlike_NoNet : PySem.W.kitOne K (.ref c_Unlike) (.ref c_NoNet) = some false)
    (xo_Unlike_NoPlan : PySem.W.kitOne K (.ref c_Unlike) (.ref c_NoPlan) = some false)
    (xo_Unlike_NoPlane : PySem.W.kitOne K (.ref c_Unlike) (.ref c_NoPlane) = some false)
    (xo_Unlike_NoPrime : PySem.W.kitOne K (.ref c_Unlike) (.ref c_NoPrime) = some false)
    (xo_Unlike_NoSize : PySem.W.kitOne K (.ref c_Unlike) (.ref c_NoSize) = some false)
    (xo_Unlike_NoSquare : PySem.W.kitOne K (.ref c_Unlike) (.ref c_NoSquare) = some false)
    (xo_Unlike_NoText : PySem.W.kitOne K (.ref c_Unlike) (.ref c_NoText) = some false)
    (xo_Unlike_NoTriples : PySem.W.kitOne K (.ref c_Unlike) (.ref c_NoTriples) = some false)
    (xo_Unlike_NoTurning : PySem.W.kitOne K (.ref c_Unlike) (.ref c_NoTurning) = some false)
    (xo_Unlike_TooMany : PySem.W.kitOne K (.ref c_Unlike) (.ref c_TooMany) = some false)
    (xo_Unlike_Unlike : PySem.W.kitOne K (.ref c_Unlike) (.ref c_Unlike) = some true)
    (xv_Unlike : PySem.W.kitOne K (.ref c_Unlike) (.type "ValueError") = some true)
    (xi1_NoBlock : PySem.W.findIn K (.ref c_NoBlock) "__getattribute__" = some (some (.builtin "BaseException.__getattribute__")))
    (xi7_NoBlock : PySem.W.findIn K (.ref c_NoBlock) "__getattr__" = some none)
    (xi8_NoBlock : PySem.W.mroIn K c_NoBlock (.type "BaseException") = some true)
    (xi2_NoBlock : (PySem.W.clsIn K c_NoBlock).isSome = true)
    (xi3_NoBlock : PySem.W.findIn K (.ref c_NoBlock) "__class__" = some (some (.builtin "object.__class__")))
    (xi6_NoBlock : PySem.W.mroIn K c_NoBlock (.type "object") = some true)
    (xe_NoBlock : PySem.W.excIn K c_NoBlock veB "ValueError.__new__" = true)
    (xs_NoBlock : PySem.W.mroIn K c_NoBlock (.ref c_BlockError) = some true)
    (xb_NoBlock : PySem.W.kitOne K (.ref c_NoBlock) (.ref c_BlockError) = some true)
    (xo_NoBlock_ByNought : PySem.W.kitOne K (.ref c_NoBlock) (.ref c_ByNought) = some false)
    (xo_NoBlock_NoBlock : PySem.W.kitOne K (.ref c_NoBlock) (.ref c_NoBlock) = some true)
    (xo_NoBlock_NoDays : PySem.W.kitOne K (.ref c_NoBlock) (.ref c_NoDays) = some false)
    (xo_NoBlock_NoField : PySem.W.kitOne K (.ref c_NoBlock) (.ref c_NoField) = some false)
    (xo_NoBlock_NoLine : PySem.W.kitOne K (.ref c_NoBlock) (.ref c_NoLine) = some false)
    (xo_NoBlock_NoName : PySem.W.kitOne K (.ref c_NoBlock) (.ref c_NoName) = some false)
    (xo_NoBlock_NoNet : PySem.W.kitOne K (.ref c_NoBlock) (.ref c_NoNet) = some false)
    (xo_NoBlock_NoPlan : PySem.W.kitOne K (.ref c_NoBlock) (.ref c_NoPlan) = some false)
    (xo_NoBlock_NoPlane : PySem.W.kitOne K (.ref c_NoBlock) (.ref c_NoPlane) = some false)
    (xo_NoBlock_NoPrime : PySem.W.kitOne K (.ref c_NoBlock) (.ref c_NoPrime) = some false)
    (xo_NoBlock_NoSize : PySem.W.kitOne K (.ref c_NoBlock) (.ref c_NoSize) = some false)
    (xo_NoBlock_NoSquare : PySem.W.kitOne K (.ref c_NoBlock) (.ref c_NoSquare) = some false)
    (xo_NoBlock_NoText : PySem.W.kitOne K (.ref c_NoBlock) (.ref c_NoText) = some false)
    (xo_NoBlock_NoTriples : PySem.W.kitOne K (.ref c_NoBlock) (.ref c_NoTriples) = some false)
    (xo_NoBlock_NoTurning : PySem.W.kitOne K (.ref c_NoBlock) (.ref c_NoTurning) = some false)
    (xo_NoBlock_TooMany : PySem.W.kitOne K (.ref c_NoBlock) (.ref c_TooMany) = some false)
    (xo_NoBlock_Unlike : PySem.W.kitOne K (.ref c_NoBlock) (.ref c_Unlike) = some false)
    (xv_NoBlock : PySem.W.kitOne K (.ref c_NoBlock) (.type "ValueError") = some true) :
    ∃ fd : FuncData, (∀ (s : Shared) (v : Value), BindsTo s fd ⟨[v], []⟩ [("_law_script", v)]) ∧ ∀ base : Heap, K.In base → base.Ns mainGlobals mg → FnOk l.prog w K mg base CX0 7 fa fd ["_law_script"] (spLaw K) := by
  have e := hfa.symm.trans (PySem.W.mg_of X G a23)
  cases e
  have F__law_box : FunAt K mg "_law_box" sBox ["_law_script", "_law_k"] := at_mk X G a1 l1 c1 k1 fun _ _ _ _ _ _ us hl => match us, hl with | [_, _], _ => rfl
  have F__law_next : FunAt K mg "_law_next" sNext ["_law_box_here", "_law_many"] := at_mk X G a2 l2 c2 k2 fun _ _ _ _ _ _ us hl => match us, hl with | [_, _], _ => rfl
  have F__law_block : FunAt K mg "_law_block" sBlock ["_law_box_here", "_law_many"] := at_mk X G a3 l3 c3 k3 fun _ _ _ _ _ _ us hl => match us, hl with | [_, _], _ => rfl
  have F__law_masks : FunAt K mg "_law_masks" sMasks ["_law_script", "_law_start", "_law_many", "_law_most"] := at_mk X G a4 l4 c4 k4 fun _ _ _ _ _ _ us hl => match us, hl with | [_, _, _, _], _ => rfl
  have F__law_few : FunAt K mg "_law_few" sFew ["_law_many", "_law_few_here"] := at_mk X G a5 l5 c5 k5 fun _ _ _ _ _ _ us hl => match us, hl with | [_, _], _ => rfl
  have F__law_order : FunAt K mg "_law_order" sOrder ["_law_box_here", "_law_many"] := at_mk X G a6 l6 c6 k6 fun _ _ _ _ _ _ us hl => match us, hl with | [_, _], _ => rfl
  have F__law_rolled : FunAt K mg "_law_rolled" sRolled ["_law_many", "_law_bases"] := at_mk X G a7 l7 c7 k7 fun _ _ _ _ _ _ us hl => match us, hl with | [_, _], _ => rfl
  have F__law_even : FunAt K mg "_law_even" sEven ["_law_box_here"] := at_mk X G a8 l8 c8 k8 fun _ _ _ _ _ _ us hl => match us, hl with | [_], _ => rfl
  have F__law_plan : FunAt K mg "_law_plan" sPlan ["_law_script", "_law_k", "_law_most"] := at_mk X G a9 l9 c9 k9 fun _ _ _ _ _ _ us hl => match us, hl with | [_, _, _], _ => rfl
  have F_things_outside : FunAt K mg "things_outside" sThingsOutside ["many", "block"] := at_mk X G a10 l10 c10 k10 fun _ _ _ _ _ _ us hl => match us, hl with | [_, _], _ => rfl
  have F_block_at : FunAt K mg "block_at" sBlockAt ["plan", "place"] := at_mk X G a11 l11 c11 k11 fun _ _ _ _ _ _ us hl => match us, hl with | [_, _], _ => rfl
  have F_cut_to : FunAt K mg "cut_to" sCutTo ["plan", "place", "things"] := at_mk X G a12 l12 c12 k12 fun _ _ _ _ _ _ us hl => match us, hl with | [_, _, _], _ => rfl
  have F_within : FunAt K mg "within" sWithin ["plan", "place"] := at_mk X G a13 l13 c13 k13 fun _ _ _ _ _ _ us hl => match us, hl with | [_, _], _ => rfl
  have F_without : FunAt K mg "without" sWithout ["plan", "place"] := at_mk X G a14 l14 c14 k14 fun _ _ _ _ _ _ us hl => match us, hl with | [_, _], _ => rfl
  have F_moved : FunAt K mg "moved" sMoved ["plan", "turning"] := at_mk X G a15 l15 c15 k15 fun _ _ _ _ _ _ us hl => match us, hl with | [_, _], _ => rfl
  have F_beside : FunAt K mg "beside" sBeside ["one", "other"] := at_mk X G a16 l16 c16 k16 fun _ _ _ _ _ _ us hl => match us, hl with | [_, _], _ => rfl
  have F_swapped : FunAt K mg "swapped" sSwapped ["plan"] := at_mk X G a17 l17 c17 k17 fun _ _ _ _ _ _ us hl => match us, hl with | [_], _ => rfl
  have F__law_word : FunAt K mg "_law_word" sWord ["_law_caught"] := at_mk X G a18 l18 c18 k18 fun _ _ _ _ _ _ us hl => match us, hl with | [_], _ => rfl
  have F__law_told : FunAt K mg "_law_told" sTold ["_law_which", "_law_plan_here", "_law_thing"] := at_mk X G a19 l19 c19 k19 fun _ _ _ _ _ _ us hl => match us, hl with | [_, _, _], _ => rfl
  have F__law_refused : FunAt K mg "_law_refused" sRefused ["_law_which", "_law_plan_here", "_law_thing"] := at_mk X G a20 l20 c20 k20 fun _ _ _ _ _ _ us hl => match us, hl with | [_, _, _], _ => rfl
  have F__law_bad_turnings : FunAt K mg "_law_bad_turnings" sBadTurnings ["_law_many", "_law_order_here", "_law_far"] := at_mk X G a21 l21 c21 k21 fun _ _ _ _ _ _ us hl => match us, hl with | [_, _, _], _ => rfl
  have F__law_good : FunAt K mg "_law_good" sGood ["_law_plan_here", "_law_order_here"] := at_mk X G a22 l22 c22 k22 fun _ _ _ _ _ _ us hl => match us, hl with | [_, _], _ => rfl
  have F_law : FunAt K mg "law" sLaw ["_law_script"] := at_mk X G a23 l23 c23 k23 fun _ _ _ _ _ _ us hl => match us, hl with | [_], _ => rfl
  have y_len : mg "len" = none := PySem.W.mg_none_of X G z1
  have y_int : mg "int" = none := PySem.W.mg_none_of X G z2
  have y_list : mg "list" = none := PySem.W.mg_none_of X G z3
  have y_range : mg "range" = none := PySem.W.mg_none_of X G z4
  have y_sorted : mg "sorted" = none := PySem.W.mg_none_of X G z5
  have y_tuple : mg "tuple" = none := PySem.W.mg_none_of X G z6
  have y_min : mg "min" = none := PySem.W.mg_none_of X G z7
  have y_max : mg "max" = none := PySem.W.mg_none_of X G z8
  have y_isinstance : mg "isinstance" = none := PySem.W.mg_none_of X G z9
  have y_set : mg "set" = none := PySem.W.mg_none_of X G z10
  have y_enumerate : mg "enumerate" = none := PySem.W.mg_none_of X G z11
  have y_ValueError : mg "ValueError" = none := PySem.W.mg_none_of X G z12
  refine ⟨PySem.W.fnOf "law" "law" (defArgs sLaw) (defBody sLaw) (defScope sLaw) .none kV23 dc23 pm23 an23 cd23 ct23, fun s v => .of_eq rfl, fun base _ _ => ?_⟩
  have q_ByNought : mg "ByNought" = some (.ref c_ByNought) := PySem.W.mg_of X G na_ByNought
  have q_NoBlock : mg "NoBlock" = some (.ref c_NoBlock) := PySem.W.mg_of X G na_NoBlock
  have q_NoDays : mg "NoDays" = some (.ref c_NoDays) := PySem.W.mg_of X G na_NoDays
  have q_NoField : mg "NoField" = some (.ref c_NoField) := PySem.W.mg_of X G na_NoField
  have q_NoLine : mg "NoLine" = some (.ref c_NoLine) := PySem.W.mg_of X G na_NoLine
  have q_NoName : mg "NoName" = some (.ref c_NoName) := PySem.W.mg_of X G na_NoName
  have q_NoNet : mg "NoNet" = some (.ref c_NoNet) := PySem.W.mg_of X G na_NoNet
  have q_NoPlan : mg "NoPlan" = some (.ref c_NoPlan) := PySem.W.mg_of X G na_NoPlan
  have q_NoPlane : mg "NoPlane" = some (.ref c_NoPlane) := PySem.W.mg_of X G na_NoPlane
  have q_NoPrime : mg "NoPrime" = some (.ref c_NoPrime) := PySem.W.mg_of X G na_NoPrime
  have q_NoSize : mg "NoSize" = some (.ref c_NoSize) := PySem.W.mg_of X G na_NoSize
  have q_NoSquare : mg "NoSquare" = some (.ref c_NoSquare) := PySem.W.mg_of X G na_NoSquare
  have q_NoText : mg "NoText" = some (.ref c_NoText) := PySem.W.mg_of X G na_NoText
  have q_NoTriples : mg "NoTriples" = some (.ref c_NoTriples) := PySem.W.mg_of X G na_NoTriples
  have q_NoTurning : mg "NoTurning" = some (.ref c_NoTurning) := PySem.W.mg_of X G na_NoTurning
  have q_TooMany : mg "TooMany" = some (.ref c_TooMany) := PySem.W.mg_of X G na_TooMany
  have q_Unlike : mg "Unlike" = some (.ref c_Unlike) := PySem.W.mg_of X G na_Unlike
  have q_BlockError : mg "BlockError" = some (.ref c_BlockError) := PySem.W.mg_of X G na_BlockError
  have X_BlockError : XTop K mg "BlockError" c_BlockError := ⟨q_BlockError, xt1, xt2, xt3⟩
  have X_isi_NoTurning : XIsi K c_NoTurning := ⟨xi1_NoTurning, xi7_NoTurning, xi8_NoTurning, xi2_NoTurning, xi3_NoTurning, xi4, xi5, xi6_NoTurning⟩
  have X_NoTurning : XCls K mg "NoTurning" c_NoTurning := ⟨q_NoTurning, xe_NoTurning⟩
  have wd_NoTurning : Wd K [c_ByNought, c_NoBlock, c_NoDays, c_NoField, c_NoLine, c_NoName, c_NoNet, c_NoPlan, c_NoPlane, c_NoPrime, c_NoSize, c_NoSquare, c_NoText, c_NoTriples, c_NoTurning, c_TooMany, c_Unlike] c_NoTurning 14 := wd_mk X_isi_NoTurning (by decide) ⟨xo_NoTurning_ByNought, xo_NoTurning_NoBlock, xo_NoTurning_NoDays, xo_NoTurning_NoField, xo_NoTurning_NoLine, xo_NoTurning_NoName, xo_NoTurning_NoNet, xo_NoTurning_NoPlan, xo_NoTurning_NoPlane, xo_NoTurning_NoPrime, xo_NoTurning_NoSize, xo_NoTurning_NoSquare, xo_NoTurning_NoText, xo_NoTurning_NoTriples, xo_NoTurning_NoTurning, xo_NoTurning_TooMany, xo_NoTurning_Unlike, trivial⟩ xv_NoTurning
  have X_isi_Unlike : XIsi K c_Unlike := ⟨xi1_Unlike, xi7_Unlike, xi8_Unlike, xi2_Unlike, xi3_Unlike, xi4, xi5, xi6_Unlike⟩
  have X_Unlike : XCls K mg "Unlike" c_Unlike := ⟨q_Unlike, xe_Unlike⟩
  have wd_Unlike : Wd K [c_ByNought, c_NoBlock, c_NoDays, c_NoField, c_NoLine, c_NoName, c_NoNet, c_NoPlan, c_NoPlane, c_NoPrime, c_NoSize, c_NoSquare, c_NoText, c_NoTriples, c_NoTurning, c_TooMany, c_Unlike] c_Unlike 16 := wd_mk X_isi_Unlike (by decide) ⟨xo_Unlike_ByNought, xo_Unlike_NoBlock, xo_Unlike_NoDays, xo_Unlike_NoField, xo_Unlike_NoLine, xo_Unlike_NoName, xo_Unlike_NoNet, xo_Unlike_NoPlan, xo_Unlike_NoPlane, xo_Unlike_NoPrime, xo_Unlike_NoSize, xo_Unlike_NoSquare, xo_Unlike_NoText, xo_Unlike_NoTriples, xo_Unlike_NoTurning, xo_Unlike_TooMany, xo_Unlike_Unlike, trivial⟩ xv_Unlike
  have X_isi_NoBlock : XIsi K c_NoBlock := ⟨xi1_NoBlock, xi7_NoBlock, xi8_NoBlock, xi2_NoBlock, xi3_NoBlock, xi4, xi5, xi6_NoBlock⟩
  have X_NoBlock : XCls K mg "NoBlock" c_NoBlock := ⟨q_NoBlock, xe_NoBlock⟩
  have wd_NoBlock : Wd K [c_ByNought, c_NoBlock, c_NoDays, c_NoField, c_NoLine, c_NoName, c_NoNet, c_NoPlan, c_NoPlane, c_NoPrime, c_NoSize, c_NoSquare, c_NoText, c_NoTriples, c_NoTurning, c_TooMany, c_Unlike] c_NoBlock 1 := wd_mk X_isi_NoBlock (by decide) ⟨xo_NoBlock_ByNought, xo_NoBlock_NoBlock, xo_NoBlock_NoDays, xo_NoBlock_NoField, xo_NoBlock_NoLine, xo_NoBlock_NoName, xo_NoBlock_NoNet, xo_NoBlock_NoPlan, xo_NoBlock_NoPlane, xo_NoBlock_NoPrime, xo_NoBlock_NoSize, xo_NoBlock_NoSquare, xo_NoBlock_NoText, xo_NoBlock_NoTriples, xo_NoBlock_NoTurning, xo_NoBlock_TooMany, xo_NoBlock_Unlike, trivial⟩ xv_NoBlock
  have g_moved := has_movedX (P := l.prog) (w := w) (base := base) F_moved ⟨y_len, y_sorted, y_list, y_range, y_tuple, X_NoTurning⟩
  have g_beside := has_besideX (P := l.prog) (w := w) (base := base) F_beside ⟨y_sorted, X_Unlike⟩
  have g_swapped := has_swappedX (P := l.prog) (w := w) (base := base) F_swapped ⟨y_len, y_enumerate, y_range, y_tuple, X_NoBlock⟩
  have g_things_outside := has_outside (P := l.prog) (w := w) (base := base) F_things_outside ⟨y_set, y_range⟩
  have g_block_at := has_blockat (P := l.prog) (w := w) (base := base) F_block_at ⟨y_len, X_NoBlock⟩
  have g_cut_to := has_cutto (P := l.prog) (w := w) (base := base) F_cut_to ⟨y_len, y_enumerate, y_tuple, y_sorted, X_NoBlock⟩
  have g_within := has_within (P := l.prog) (w := w) (base := base) F_within ⟨y_list, g_block_at, g_cut_to⟩
  have g_without := has_without (P := l.prog) (w := w) (base := base) F_without ⟨g_block_at, g_things_outside, g_cut_to⟩
  have g__law_word := has_wordB (P := l.prog) (w := w) (base := base) F__law_word ⟨y_isinstance, y_ValueError, q_ByNought, q_NoBlock, q_NoDays, q_NoField, q_NoLine, q_NoName, q_NoNet, q_NoPlan, q_NoPlane, q_NoPrime, q_NoSize, q_NoSquare, q_NoText, q_NoTriples, q_NoTurning, q_TooMany, q_Unlike, q_BlockError⟩
  have g__law_next := has_next (P := l.prog) (w := w) (base := base) F__law_next 
  have g__law_box := has_box (P := l.prog) (w := w) (base := base) F__law_box ⟨y_len, y_int⟩
  have g__law_block := has_block (P := l.prog) (w := w) (base := base) F__law_block ⟨y_tuple, y_range, g__law_next⟩
  have g__law_masks := has_masks (P := l.prog) (w := w) (base := base) F__law_masks ⟨y_len, y_min, y_range, g__law_block, g__law_box⟩
  have g__law_few := has_few (P := l.prog) (w := w) (base := base) F__law_few ⟨y_range, y_max⟩
  have g__law_order := has_order (P := l.prog) (w := w) (base := base) F__law_order ⟨y_range, g__law_next⟩
  have g__law_rolled := has_rolled (P := l.prog) (w := w) (base := base) F__law_rolled ⟨y_range, y_tuple, y_sorted⟩
  have g__law_even := has_evenL (P := l.prog) (w := w) (base := base) F__law_even ⟨y_range, y_tuple, y_sorted, y_len, g__law_next, g__law_rolled, g__law_few, g__law_order⟩
  have g__law_plan := has_planM (P := l.prog) (w := w) (base := base) F__law_plan ⟨y_sorted, g__law_box, g__law_next, g__law_masks, g__law_even⟩
  have g__law_told := has_toldX (P := l.prog) (w := w) (base := base) F__law_told ⟨g_moved, g_beside, g_swapped, g_within, g_without⟩
  have g__law_refused := has_refB (P := l.prog) (w := w) (base := base) F__law_refused ⟨y_list, X_BlockError, (fun i hi => by simp only [List.mem_cons, List.not_mem_nil, or_false] at hi; rcases hi with rfl | rfl | rfl <;> first | exact xs_NoTurning | exact xs_Unlike | exact xs_NoBlock), (fun i hi => by simp only [List.mem_cons, List.not_mem_nil, or_false] at hi; rcases hi with rfl | rfl | rfl <;> first | exact wd_NoTurning | exact wd_Unlike | exact wd_NoBlock), (fun i hi => by simp only [List.mem_cons, List.not_mem_nil, or_false] at hi; rcases hi with rfl | rfl | rfl <;> first | exact xb_NoTurning | exact xb_Unlike | exact xb_NoBlock), g__law_told, g__law_word⟩
  have g__law_bad_turnings := has_badB (P := l.prog) (w := w) (base := base) F__law_bad_turnings 
  have g__law_good := has_goodB (P := l.prog) (w := w) (base := base) F__law_good ⟨g__law_refused⟩
  have g_law := has_law (P := l.prog) (w := w) (base := base) F_law ⟨y_len, y_range, y_tuple, g__law_plan, g__law_box, g__law_next, g__law_order, g__law_good, g__law_bad_turnings, g__law_refused⟩
  exact law_ok (fun_mk (st := sLaw) l23 c23 k23) (PySem.W.mg_of X G a23) g_law
theorem walk {l : PySem.W.OpenLaw} {q : Program} {loose : List Str} {XP : (Str → Option Value) → Heap → Prop} {YP : World → Heap → Prop} {d : DefRec} {K : Params → PySem.W.Frag} (hn : l.most = some 63) (hdf : d.params.defaults = [])
    (hY : ∀ (w : World) (h : Heap), YP w h → (K w.params).In h)
    (F : ∀ (w : World) (mg : Str → Option Value) (fa : Addr) (h : Heap), (K w.params).In h → h.Ns mainGlobals mg → mg d.name = some (.ref fa) →
      ∃ fd : FuncData, (∀ (s : Shared) (u : Value), BindsTo s fd ⟨[u], []⟩ [("_law_script", u)]) ∧ ∀ base : Heap, (K w.params).In base → base.Ns mainGlobals mg → FnOk l.prog w (K w.params) mg base CX0 7 fa fd ["_law_script"] (spLaw (K w.params))) :
    PySem.W.WalkO q loose XP YP l.row.toRowW d [] (fun f vs => PySem.call f vs) :=
  L2.walk_of (n := 63) (k := 7) (x := "_law_script") (CX := fun _ => CX0) (sp := fun w => spLaw (K w.params)) hn (by decide) hdf ⟨rfl, by decide, by decide⟩ hY F (fun _ _ a ns hl _ hS => ⟨a, ns, rfl, hS, hl, fun _ => rfl⟩) fun _ _ _ _ _ z => z
end My
open PySem PySem.W PyProof.Rows
set_option maxRecDepth 100000 in
set_option maxHeartbeats 0 in
theorem PySem.Challenge.cw_evenblocks_k44_turned_refused_holds : PySem.Challenge.rw_evenblocks_k44_turned_refused.Holds := by
  w_on; o_law; k_head; (case hw => w_witness2)
  k_fill
  refine My.walk (l := PySem.Challenge.rw_evenblocks_k44_turned_refused) rfl rfl (fun w h Y => PySem.W.kIn_of Y) ?F
  case F =>
    intro w mg fa h KX G hmg
    refine' My.all_mk KX G hmg ?a1 ?l1 ?c1 ?k1 ?a2 ?l2 ?c2 ?k2 ?a3 ?l3 ?c3 ?k3 ?a4 ?l4 ?c4 ?k4 ?a5 ?l5 ?c5 ?k5 ?a6 ?l6 ?c6 ?k6 ?a7 ?l7 ?c7 ?k7 ?a8 ?l8 ?c8 ?k8 ?a9 ?l9 ?c9 ?k9 ?a10 ?l10 ?c10 ?k10 ?a11 ?l11 ?c11 ?k11 ?a12 ?l12 ?c12 ?k12 ?a13 ?l13 ?c13 ?k13 ?a14 ?l14 ?c14 ?k14 ?a15 ?l15 ?c15 ?k15 ?a16 ?l16 ?c16 ?k16 ?a17 ?l17 ?c17 ?k17 ?a18 ?l18 ?c18 ?k18 ?a19 ?l19 ?c19 ?k19 ?a20 ?l20 ?c20 ?k20 ?a21 ?l21 ?c21 ?k21 ?a22 ?l22 ?c22 ?k22 ?a23 ?l23 ?c23 ?k23 ?z1 ?z2 ?z3 ?z4 ?z5 ?z6 ?z7 ?z8 ?z9 ?z10 ?z11 ?z12  ?na_ByNought ?na_NoBlock ?na_NoDays ?na_NoField ?na_NoLine ?na_NoName ?na_NoNet ?na_NoPlan ?na_NoPlane ?na_NoPrime ?na_NoSize ?na_NoSquare ?na_NoText ?na_NoTriples ?na_NoTurning ?na_TooMany ?na_Unlike ?na_BlockError ?xt1 ?xt2 ?xt3 ?xi4 ?xi5 ?xi1_NoTurning ?xi7_NoTurning ?xi8_NoTurning ?xi2_NoTurning ?xi3_NoTurning ?xi6_NoTurning ?xe_NoTurning ?xs_NoTurning ?xb_NoTurning ?xo_NoTurning_ByNought ?xo_NoTurning_NoBlock ?xo_NoTurning_NoDays ?xo_NoTurning_NoField ?xo_NoTurning_NoLine ?xo_NoTurning_NoName ?xo_NoTurning_NoNet ?xo_NoTurning_NoPlan ?xo_NoTurning_NoPlane ?xo_NoTurning_NoPrime ?xo_NoTurning_NoSize ?xo_NoTurning_NoSquare ?xo_NoTurning_NoText ?xo_NoTurning_NoTriples ?xo_NoTurning_NoTurning ?xo_NoTurning_TooMany ?xo_NoTurning_Unlike ?xv_NoTurning ?xi1_Unlike ?xi7_Unlike ?xi8_Unlike ?xi2_Unlike ?xi3_Unlike ?xi6_Unlike ?xe_Unlike ?xs_Unlike ?xb_Unlike ?xo_Unlike_ByNought ?xo_Unlike_NoBlock ?xo_Unlike_NoDays ?xo_Unlike_NoField ?xo_Unlike_NoLine ?xo_Unlike_NoName ?xo_Unlike_NoNet ?xo_Unlike_NoPlan ?xo_Unlike_NoPlane ?xo_Unlike_NoPrime ?xo_Unlike_NoSize ?xo_Unlike_NoSquare ?xo_Unlike_NoText ?xo_Unlike_NoTriples ?xo_Unlike_NoTurning ?xo_Unlike_TooMany ?xo_Unlike_Unlike ?xv_Unlike ?xi1_NoBlock ?xi7_NoBlock ?xi8_NoBlock ?xi2_NoBlock ?xi3_NoBlock ?xi6_NoBlock ?xe_NoBlock ?xs_NoBlock ?xb_NoBlock ?xo_NoBlock_ByNought ?xo_NoBlock_NoBlock ?xo_NoBlock_NoDays ?xo_NoBlock_NoField ?xo_NoBlock_NoLine ?xo_NoBlock_NoName ?xo_NoBlock_NoNet ?xo_NoBlock_NoPlan ?xo_NoBlock_NoPlane ?xo_NoBlock_NoPrime ?xo_NoBlock_NoSize ?xo_NoBlock_NoSquare ?xo_NoBlock_NoText ?xo_NoBlock_NoTriples ?xo_NoBlock_NoTurning ?xo_NoBlock_TooMany ?xo_NoBlock_Unlike ?xv_NoBlock
    (case a1 => k_is); (case l1 => k_is); (case c1 => k_is); (case k1 => k_is)
    (case a2 => k_is); (case l2 => k_is); (case c2 => k_is); (case k2 => k_is)
    (case a3 => k_is); (case l3 => k_is); (case c3 => k_is); (case k3 => k_is)
    (case a4 => k_is); (case l4 => k_is); (case c4 => k_is); (case k4 => k_is)
    (case a5 => k_is); (case l5 => k_is); (case c5 => k_is); (case k5 => k_is)
    (case a6 => k_is); (case l6 => k_is); (case c6 => k_is); (case k6 => k_is)
    (case a7 => k_is); (case l7 => k_is); (case c7 => k_is); (case k7 => k_is)
    (case a8 => k_is); (case l8 => k_is); (case c8 => k_is); (case k8 => k_is)
    (case a9 => k_is); (case l9 => k_is); (case c9 => k_is); (case k9 => k_is)
    (case a10 => k_is); (case l10 => k_is); (case c10 => k_is); (case k10 => k_is)
    (case a11 => k_is); (case l11 => k_is); (case c11 => k_is); (case k11 => k_is)
    (case a12 => k_is); (case l12 => k_is); (case c12 => k_is); (case k12 => k_is)
    (case a13 => k_is); (case l13 => k_is); (case c13 => k_is); (case k13 => k_is)
    (case a14 => k_is); (case l14 => k_is); (case c14 => k_is); (case k14 => k_is)
    (case a15 => k_is); (case l15 => k_is); (case c15 => k_is); (case k15 => k_is)
    (case a16 => k_is); (case l16 => k_is); (case c16 => k_is); (case k16 => k_is)
    (case a17 => k_is); (case l17 => k_is); (case c17 => k_is); (case k17 => k_is)
    (case a18 => k_is); (case l18 => k_is); (case c18 => k_is); (case k18 => k_is)
    (case a19 => k_is); (case l19 => k_is); (case c19 => k_is); (case k19 => k_is)
    (case a20 => k_is); (case l20 => k_is); (case c20 => k_is); (case k20 => k_is)
    (case a21 => k_is); (case l21 => k_is); (case c21 => k_is); (case k21 => k_is)
    (case a22 => k_is); (case l22 => k_is); (case c22 => k_is); (case k22 => k_is)
    (case a23 => k_is); (case l23 => k_is); (case c23 => k_is); (case k23 => k_is)
    (case z1 => k_is)
    (case z2 => k_is)
    (case z3 => k_is)
    (case z4 => k_is)
    (case z5 => k_is)
    (case z6 => k_is)
    (case z7 => k_is)
    (case z8 => k_is)
    (case z9 => k_is)
    (case z10 => k_is)
    (case z11 => k_is)
    (case z12 => k_is)
    (case na_ByNought => k_is)
    (case na_NoBlock => k_is)
    (case na_NoDays => k_is)
    (case na_NoField => k_is)
    (case na_NoLine => k_is)
    (case na_NoName => k_is)
    (case na_NoNet => k_is)
    (case na_NoPlan => k_is)
    (case na_NoPlane => k_is)
    (case na_NoPrime => k_is)
    (case na_NoSize => k_is)
    (case na_NoSquare => k_is)
    (case na_NoText => k_is)
    (case na_NoTriples => k_is)
    (case na_NoTurning => k_is)
    (case na_TooMany => k_is)
    (case na_Unlike => k_is)
    (case na_BlockError => k_is)
    (case xt1 => k_is)
    (case xt2 => exact (congrArg Option.isSome (by k_is)).trans (by rfl))
    (case xt3 => k_is)
    (case xi4 => k_is)
    (case xi5 => k_is)
    (case xi1_NoTurning => k_is)
    (case xi7_NoTurning => k_is)
    (case xi8_NoTurning => k_is)
    (case xi2_NoTurning => exact (congrArg Option.isSome (by k_is)).trans (by rfl))
    (case xi3_NoTurning => k_is)
    (case xi6_NoTurning => k_is)
    (case xe_NoTurning => k_exc)
    (case xs_NoTurning => k_is)
    (case xb_NoTurning => kit_is)
    (case xo_NoTurning_ByNought => kit_is)
    (case xo_NoTurning_NoBlock => kit_is)
    (case xo_NoTurning_NoDays => kit_is)
    (case xo_NoTurning_NoField => kit_is)
    (case xo_NoTurning_NoLine => kit_is)
    (case xo_NoTurning_NoName => kit_is)
    (case xo_NoTurning_NoNet => kit_is)
    (case xo_NoTurning_NoPlan => kit_is)
    (case xo_NoTurning_NoPlane => kit_is)
    (case xo_NoTurning_NoPrime => kit_is)
    (case xo_NoTurning_NoSize => kit_is)
    (case xo_NoTurning_NoSquare => kit_is)
    (case xo_NoTurning_NoText => kit_is)
    (case xo_NoTurning_NoTriples => kit_is)
    (case xo_NoTurning_NoTurning => kit_is)
    (case xo_NoTurning_TooMany => kit_is)
    (case xo_NoTurning_Unlike => kit_is)
    (case xv_NoTurning => kit_is)
    (case xi1_Unlike => k_is)
    (case xi7_Unlike => k_is)
    (case xi8_Unlike => k_is)
    (case xi2_Unlike => exact (congrArg Option.isSome (by k_is)).trans (by rfl))
    (case xi3_Unlike => k_is)
    (case xi6_Unlike => k_is)
    (case xe_Unlike => k_exc)
    (case xs_Unlike => k_is)
    (case xb_Unlike => kit_is)
    (case xo_Unlike_ByNought => kit_is)
    (case xo_Unlike_NoBlock => kit_is)
    (case xo_Unlike_NoDays => kit_is)
    (case xo_Unlike_NoField => kit_is)
    (case xo_Unlike_NoLine => kit_is)
    (case xo_Unlike_NoName => kit_is)
    (case xo_Unlike_NoNet => kit_is)
    (case xo_Unlike_NoPlan => kit_is)
    (case xo_Unlike_NoPlane => kit_is)
    (case xo_Unlike_NoPrime => kit_is)
    (case xo_Unlike_NoSize => kit_is)
    (case xo_Unlike_NoSquare => kit_is)
    (case xo_Unlike_NoText => kit_is)
    (case xo_Unlike_NoTriples => kit_is)
    (case xo_Unlike_NoTurning => kit_is)
    (case xo_Unlike_TooMany => kit_is)
    (case xo_Unlike_Unlike => kit_is)
    (case xv_Unlike => kit_is)
    (case xi1_NoBlock => k_is)
    (case xi7_NoBlock => k_is)
    (case xi8_NoBlock => k_is)
    (case xi2_NoBlock => exact (congrArg Option.isSome (by k_is)).trans (by rfl))
    (case xi3_NoBlock => k_is)
    (case xi6_NoBlock => k_is)
    (case xe_NoBlock => k_exc)
    (case xs_NoBlock => k_is)
    (case xb_NoBlock => kit_is)
    (case xo_NoBlock_ByNought => kit_is)
    (case xo_NoBlock_NoBlock => kit_is)
    (case xo_NoBlock_NoDays => kit_is)
    (case xo_NoBlock_NoField => kit_is)
    (case xo_NoBlock_NoLine => kit_is)
    (case xo_NoBlock_NoName => kit_is)
    (case xo_NoBlock_NoNet => kit_is)
    (case xo_NoBlock_NoPlan => kit_is)
    (case xo_NoBlock_NoPlane => kit_is)
    (case xo_NoBlock_NoPrime => kit_is)
    (case xo_NoBlock_NoSize => kit_is)
    (case xo_NoBlock_NoSquare => kit_is)
    (case xo_NoBlock_NoText => kit_is)
    (case xo_NoBlock_NoTriples => kit_is)
    (case xo_NoBlock_NoTurning => kit_is)
    (case xo_NoBlock_TooMany => kit_is)
    (case xo_NoBlock_Unlike => kit_is)
    (case xv_NoBlock => kit_is)
#print axioms PySem.Challenge.cw_evenblocks_k44_turned_refused_holds
